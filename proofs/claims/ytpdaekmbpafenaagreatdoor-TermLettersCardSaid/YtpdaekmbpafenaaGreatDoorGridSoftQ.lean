
import Derived.Test.YtpdaekmbpafenaaGreatDoorGridPutQ
namespace Go.Proofs.YtpdaekmbpafenaaGreatDoor
set_option maxHeartbeats 2000000
set_option maxRecDepth 100000
open Go.RowKit
theorem allB_at {cols:Int} {lv:List (Ln×Value)} (h:qed cols lv=true) {k:Nat} {e:Ln×Value} (he:lv[k]?=some e):qbv cols e.1.cs=true:=by
 unfold qed at h
 rw[List.all_eq_true] at h
 exact h e (List.mem_of_getElem? he)
theorem qg2 {cols:Int} {lv:List (Ln×Value)} (h:qbd cols lv=true) {k:Nat} {e:Ln×Value} (he:lv[k]?=some e):qbv cols e.1.cs=true:=by
 unfold qbd at h
 rw[Bool.and_eq_true] at h
 exact allB_at h.2 he
theorem qhu (l:List Ce) (k:Nat) (c:Ce):(qga l k c).length=l.length:=by
 unfold qga
 split
 ·rw[List.length_set,List.length_set]
 ·rw[List.length_set]
theorem qgi {W w' w'' : World} {cols : Int} {lv lv' : List (Ln × Value)} {ls : List Ln} {v : Value} {b lo : Nat} {cs : Array Value} {x y : Value} (hm : lv'.map Prod.fst = ls) (hl : LSl w' lo v lv') (hn : NewOf w' lo lv lv') (hlo : W.heap.size ≤ lo) (hb : Below W.heap.size W w') (hbx : Box w' b 24 cs) (hB : W.heap.size ≤ b)
  (hw:w''=(w'.setCell ⟨b,0,none⟩ x).setCell ⟨b,1,none⟩ y) :
  GYes W cols lv ls (.returned (.tuple #[.agg #[.int .i64 cols,v],.int .i64 0])) w'':=by
 subst hw
 exact⟨v,lv',rfl,hm,((hl.set hbx (by decide) _).set (hbx.set (i:=0) x) (by decide) _).mono hlo,((hn.set hbx (by decide) _).set (hbx.set (i:=0) x) (by decide) _).mono hlo,(hb.setCell (p:=⟨b,0,none⟩) hB _).setCell (p:=⟨b,1,none⟩) hB _⟩
theorem put_yes1 (cols : Int) (r q : Nat) (v : Value) (lv : List (Ln × Value)) (c : Ce) (cs : List Ce) (soft : Bool) (lvl : Value) (W : World) (hg : GIn W v lv) (htx : c.tx.size ≤ 1000) (hT : Tab W) (hW : TabW W) (hx : lv[r]? = some (⟨cs, soft⟩, lvl)) (a0 : qbd cols lv = true) (a1 : qcx r lv.length = true) (a2 : colB q cols = true) (a3 : qq c = true) (a4 : c.tx.size ≠ 0) (a5 : ¬ c.wd = 2) :
  Calls Tryz.prog 240 #[.agg #[.int .i64 cols,v],.int .i64 r,.int .i64 q,c.agg] W (GYes W cols lv ((lv.map Prod.fst).set r ⟨qac 1 (qga cs q c),soft⟩)):=by
 have hfit:=fits_iff.1 (qg2 a0 hx)
 simp only at hfit
 have hsz:=a0
 unfold qbd qbl at hsz
 rw[Bool.and_eq_true,Bool.and_eq_true,decide_eq_true_iff,decide_eq_true_iff] at hsz
 have hq:0≤(q:Int)∧(q:Int) < cols:=of_decide_eq_true a2
 have hql:q < cs.length:=by omega
 have hcs:cs.length≤1000:=by omega
 have hq2:c.wd=2→q+1 < cs.length:=fun h=>by exact absurd h a5
 obtain⟨A,c0,rfl⟩:=hg.lr.spell
 have HG:=hid hg
 have HTT:=hid hT
 have HWW:=hid hW
 have hchg:=fun w (bc bq:Nat) h1 h2 hbc hbq=>put_chg w.heap.size w cs soft q c bc bq h1 h2 hbc hbq hql hq2 hcs
 obtain⟨tx,wd,fg,bg,fl⟩:=c
 have HTX:=hid htx
 have b0:=((((Bxs.nil W).alloc 24 #[.int .i64 cols,.slice A lv.length c0]).alloc 3 #[.int .i64 q]).alloc 57 #[.string tx,.int .i64 wd,.int .i64 fg,.int .i64 bg,.int .i64 fl]).alloc 24 #[.int .i64 0,.slice none 0 0]
 simp only[World.size_alloc,List.nil_append,List.cons_append] at b0
 have h0:Below W.heap.size W ((((W.alloc (.cells #[.int .i64 cols,.slice A lv.length c0] 24)).alloc (.cells #[.int .i64 q] 3)).alloc (.cells #[.string tx,.int .i64 wd,.int .i64 fg,.int .i64 bg,.int .i64 fl] 57)).alloc (.cells #[.int .i64 0,.slice none 0 0] 24)):=(((qa _ _).alloc (by simp <;> omega) _).alloc (by simp <;> omega) _).alloc (by simp <;> omega) _
 have s0:W.heap.size+1+1+1+1≤((((W.alloc (.cells #[.int .i64 cols,.slice A lv.length c0] 24)).alloc (.cells #[.int .i64 q] 3)).alloc (.cells #[.string tx,.int .i64 wd,.int .i64 fg,.int .i64 bg,.int .i64 fl] 57)).alloc (.cells #[.int .i64 0,.slice none 0 0] 24)).heap.size:=by simp
 have BX0:=hid b0
 have H0:=hid h0
 have S0:=hid s0
 obtain⟨n,hn⟩:∃ n,lv.length=n:=⟨_,rfl⟩
 have HN:=hid hn
 unfold qbd at a0
 rw[hn] at a0 a1 b0 h0 s0 BX0 H0 S0 ⊢
 simp only at a4 a5
 have q4:=qcd a4
 have q5:(wd == 2)=false:=by simp[a5]
 have A0:=hid a0
 have A1:=hid a1
 have A2:=hid a2
 have A3:=hid a3
 have HX:=hid hx
 have HCH:=hid hchg
 have HPL:=hid hcs
 clear hg hT hW htx hn b0 h0 s0 a0 a1 a2 a3 a4 hx hchg hcs hq2 hql hq hsz hfit a5
 show Calls _ _ #[.agg #[.int .i64 cols,.slice A n c0],.int .i64 r,.int .i64 q,.agg #[.string tx,.int .i64 wd,.int .i64 fg,.int .i64 bg,.int .i64 fl]] _ _
 go_enter Tryz.func240,Tryz.ntmps240
 go_upto_region 1 with fail
 generalize ((((W.alloc (.cells #[.int .i64 cols,.slice A n c0] 24)).alloc (.cells #[.int .i64 q] 3)).alloc (.cells #[.string tx,.int .i64 wd,.int .i64 fg,.int .i64 bg,.int .i64 fl] 57)).alloc (.cells #[.int .i64 0,.slice none 0 0] 24))=w0 at *
 obtain⟨⟨k0_0,k0_1⟩,f0_0,f0_1⟩:=(BX0.out.get 0 rfl).two
 have k1_0:=(BX0.out.get 1 rfl).cell 0
 have f1_0:=(BX0.out.get 1 rfl).free 0
 obtain⟨⟨k2_0,k2_1,k2_2,k2_3,k2_4⟩,f2_0,f2_1,f2_2,f2_3,f2_4⟩:=(BX0.out.get 2 rfl).five
 obtain⟨⟨k3_0,k3_1⟩,f3_0,f3_1⟩:=(BX0.out.get 3 rfl).two
 have hraw:=qa7 cols _ lv w0 (HG.out.below H0.out).lr (HG.out.below H0.out).ces HG.out.sm (HTT.out.below H0.out) (HWW.out.below H0.out)
 rw[HN.out] at hraw
 rw[show (qbl cols n && qed cols lv)=_ from A0.out] at hraw
 have hcall:=hraw
 have HCALL:=hid hcall
 clear hcall
 go_wp2_with fail
 with_reducible refine HCALL.out.mono ?_
 rintro e w1 ⟨rfl,hb⟩
 dsimp only
 have BX1:=hid (BX0.out.below hb)
 have H1:=hid (H0.out.trans (hb.mono H0.out.size))
 have S1:=hid (Nat.le_trans S0.out hb.size)
 clear hb HCALL
 clear k0_0 k0_1 k1_0 k2_0 k2_1 k2_2 k2_3 k2_4 k3_0 k3_1 f0_0 f0_1 f1_0 f2_0 f2_1 f2_2 f2_3 f2_4 f3_0 f3_1
 obtain⟨⟨k0_0,k0_1⟩,f0_0,f0_1⟩:=(BX1.out.get 0 rfl).two
 have k1_0:=(BX1.out.get 1 rfl).cell 0
 have f1_0:=(BX1.out.get 1 rfl).free 0
 obtain⟨⟨k2_0,k2_1,k2_2,k2_3,k2_4⟩,f2_0,f2_1,f2_2,f2_3,f2_4⟩:=(BX1.out.get 2 rfl).five
 obtain⟨⟨k3_0,k3_1⟩,f3_0,f3_1⟩:=(BX1.out.get 3 rfl).two
 clear hraw
 have hraw:=qbs cols r A n c0 w1
 rw[A1.out] at hraw
 have hcall:=hraw
 have HCALL:=hid hcall
 clear hcall
 go_wp2_with fail
 with_reducible refine HCALL.out.mono ?_
 rintro e w2 ⟨rfl,hb⟩
 dsimp only
 have BX2:=hid (BX1.out.below hb)
 have H2:=hid (H1.out.trans (hb.mono H1.out.size))
 have S2:=hid (Nat.le_trans S1.out hb.size)
 clear hb HCALL
 clear k0_0 k0_1 k1_0 k2_0 k2_1 k2_2 k2_3 k2_4 k3_0 k3_1 f0_0 f0_1 f1_0 f2_0 f2_1 f2_2 f2_3 f2_4 f3_0 f3_1
 obtain⟨⟨k0_0,k0_1⟩,f0_0,f0_1⟩:=(BX2.out.get 0 rfl).two
 have k1_0:=(BX2.out.get 1 rfl).cell 0
 have f1_0:=(BX2.out.get 1 rfl).free 0
 obtain⟨⟨k2_0,k2_1,k2_2,k2_3,k2_4⟩,f2_0,f2_1,f2_2,f2_3,f2_4⟩:=(BX2.out.get 2 rfl).five
 obtain⟨⟨k3_0,k3_1⟩,f3_0,f3_1⟩:=(BX2.out.get 3 rfl).two
 clear hraw
 have hraw:=qei cols q A n c0 w2
 rw[A2.out] at hraw
 have hcall:=hraw
 have HCALL:=hid hcall
 clear hcall
 go_wp2_with fail
 with_reducible refine HCALL.out.mono ?_
 rintro e w3 ⟨rfl,hb⟩
 dsimp only
 have BX3:=hid (BX2.out.below hb)
 have H3:=hid (H2.out.trans (hb.mono H2.out.size))
 have S3:=hid (Nat.le_trans S2.out hb.size)
 clear hb HCALL
 clear k0_0 k0_1 k1_0 k2_0 k2_1 k2_2 k2_3 k2_4 k3_0 k3_1 f0_0 f0_1 f1_0 f2_0 f2_1 f2_2 f2_3 f2_4 f3_0 f3_1
 obtain⟨⟨k0_0,k0_1⟩,f0_0,f0_1⟩:=(BX3.out.get 0 rfl).two
 have k1_0:=(BX3.out.get 1 rfl).cell 0
 have f1_0:=(BX3.out.get 1 rfl).free 0
 obtain⟨⟨k2_0,k2_1,k2_2,k2_3,k2_4⟩,f2_0,f2_1,f2_2,f2_3,f2_4⟩:=(BX3.out.get 2 rfl).five
 obtain⟨⟨k3_0,k3_1⟩,f3_0,f3_1⟩:=(BX3.out.get 3 rfl).two
 clear hraw
 have hraw:=qde ⟨tx,wd,fg,bg,fl⟩ w3 (Nat.le_trans HTX.out (by unfold maxLen;omega)) (HTT.out.below H3.out) (HWW.out.below H3.out)
 rw[A3.out] at hraw
 unfold Ce.agg Ce.cells at hraw
 simp only at hraw
 have hcall:=hraw
 have HCALL:=hid hcall
 clear hcall
 go_wp2_with fail
 with_reducible refine HCALL.out.mono ?_
 rintro e w4 ⟨rfl,hb⟩
 dsimp only
 have BX4:=hid (BX3.out.below hb)
 have H4:=hid (H3.out.trans (hb.mono H3.out.size))
 have S4:=hid (Nat.le_trans S3.out hb.size)
 clear hb HCALL
 clear k0_0 k0_1 k1_0 k2_0 k2_1 k2_2 k2_3 k2_4 k3_0 k3_1 f0_0 f0_1 f1_0 f2_0 f2_1 f2_2 f2_3 f2_4 f3_0 f3_1
 obtain⟨⟨k0_0,k0_1⟩,f0_0,f0_1⟩:=(BX4.out.get 0 rfl).two
 have k1_0:=(BX4.out.get 1 rfl).cell 0
 have f1_0:=(BX4.out.get 1 rfl).free 0
 obtain⟨⟨k2_0,k2_1,k2_2,k2_3,k2_4⟩,f2_0,f2_1,f2_2,f2_3,f2_4⟩:=(BX4.out.get 2 rfl).five
 obtain⟨⟨k3_0,k3_1⟩,f3_0,f3_1⟩:=(BX4.out.get 3 rfl).two
 clear hraw
 have hin:=HG.out.below H4.out
 have hcall:=qdw cols _ lv r 246 #[.pointer (some ⟨W.heap.size+1+1,0,none⟩),.pointer (some ⟨W.heap.size+1,0,none⟩)] w4 cs _ soft soft lvl hin.lr hin.ces hin.sm HX.out (HCH.out w4 _ _ (by have:=S4.out;omega) (by have:=S4.out;omega) (BX4.out.get 2 rfl) (BX4.out.get 1 rfl)) (by rw[qhu];exact HPL.out)
 rw[HN.out] at hcall
 have HCALL:=hid hcall
 clear hcall hin HCH
 go_wp2_with fail
 with_reducible refine HCALL.out.mono ?_
 rintro e w5 ⟨v5,lv5,rfl,hm5,hl5,hn5,hb5⟩
 dsimp only
 have BX5:=hid (BX4.out.below hb5)
 have H5:=hid (H4.out.trans (hb5.mono H4.out.size))
 obtain⟨A5,c5,hs5⟩:=hl5.spell
 subst hs5
 have HM5:=hid hm5
 have HL5:=hid hl5
 have HN5:=hid hn5
 clear hm5 hl5 hn5 hb5 HCALL
 clear k0_0 k0_1 k1_0 k2_0 k2_1 k2_2 k2_3 k2_4 k3_0 k3_1 f0_0 f0_1 f1_0 f2_0 f2_1 f2_2 f2_3 f2_4 f3_0 f3_1
 obtain⟨⟨k0_0,k0_1⟩,f0_0,f0_1⟩:=(BX5.out.get 0 rfl).two
 have k1_0:=(BX5.out.get 1 rfl).cell 0
 have f1_0:=(BX5.out.get 1 rfl).free 0
 obtain⟨⟨k2_0,k2_1,k2_2,k2_3,k2_4⟩,f2_0,f2_1,f2_2,f2_3,f2_4⟩:=(BX5.out.get 2 rfl).five
 obtain⟨⟨k3_0,k3_1⟩,f3_0,f3_1⟩:=(BX5.out.get 3 rfl).two
 have hm3:=(BX5.out.get 3 rfl)
 have HM3:=hid hm3
 clear hm3
 go_wp2
 refine bodyPost_ret (v:=.tuple #[.agg #[.int .i64 cols,.slice A5 lv5.length c5],.int .i64 0]) (by simp[results,Tryz.results240,go_sem,k3_0,k3_1]) rfl ?_
 exact qgi HM5.out HL5.out HN5.out H4.out.size H5.out HM3.out (by show W.heap.size≤W.heap.size+1+1+1;omega) rfl
theorem put_yes2 (cols : Int) (r q : Nat) (v : Value) (lv : List (Ln × Value)) (c : Ce) (cs : List Ce) (soft : Bool) (lvl : Value) (W : World) (hg : GIn W v lv) (htx : c.tx.size ≤ 1000) (hT : Tab W) (hW : TabW W) (hx : lv[r]? = some (⟨cs, soft⟩, lvl)) (a0 : qbd cols lv = true) (a1 : qcx r lv.length = true) (a2 : colB q cols = true) (a3 : qq c = true) (a4 : c.tx.size ≠ 0) (a5 : c.wd = 2) (a6 : ¬ (q : Int) = cols - 1) :
  Calls Tryz.prog 240 #[.agg #[.int .i64 cols,v],.int .i64 r,.int .i64 q,c.agg] W (GYes W cols lv ((lv.map Prod.fst).set r ⟨qac 1 (qga cs q c),soft⟩)):=by
 have hfit:=fits_iff.1 (qg2 a0 hx)
 simp only at hfit
 have hsz:=a0
 unfold qbd qbl at hsz
 rw[Bool.and_eq_true,Bool.and_eq_true,decide_eq_true_iff,decide_eq_true_iff] at hsz
 have hq:0≤(q:Int)∧(q:Int) < cols:=of_decide_eq_true a2
 have hql:q < cs.length:=by omega
 have hcs:cs.length≤1000:=by omega
 have hq2:c.wd=2→q+1 < cs.length:=fun h=>by omega
 obtain⟨A,c0,rfl⟩:=hg.lr.spell
 have HG:=hid hg
 have HTT:=hid hT
 have HWW:=hid hW
 have hchg:=fun w (bc bq:Nat) h1 h2 hbc hbq=>put_chg w.heap.size w cs soft q c bc bq h1 h2 hbc hbq hql hq2 hcs
 obtain⟨tx,wd,fg,bg,fl⟩:=c
 have HTX:=hid htx
 have b0:=((((Bxs.nil W).alloc 24 #[.int .i64 cols,.slice A lv.length c0]).alloc 3 #[.int .i64 q]).alloc 57 #[.string tx,.int .i64 wd,.int .i64 fg,.int .i64 bg,.int .i64 fl]).alloc 24 #[.int .i64 0,.slice none 0 0]
 simp only[World.size_alloc,List.nil_append,List.cons_append] at b0
 have h0:Below W.heap.size W ((((W.alloc (.cells #[.int .i64 cols,.slice A lv.length c0] 24)).alloc (.cells #[.int .i64 q] 3)).alloc (.cells #[.string tx,.int .i64 wd,.int .i64 fg,.int .i64 bg,.int .i64 fl] 57)).alloc (.cells #[.int .i64 0,.slice none 0 0] 24)):=(((qa _ _).alloc (by simp <;> omega) _).alloc (by simp <;> omega) _).alloc (by simp <;> omega) _
 have s0:W.heap.size+1+1+1+1≤((((W.alloc (.cells #[.int .i64 cols,.slice A lv.length c0] 24)).alloc (.cells #[.int .i64 q] 3)).alloc (.cells #[.string tx,.int .i64 wd,.int .i64 fg,.int .i64 bg,.int .i64 fl] 57)).alloc (.cells #[.int .i64 0,.slice none 0 0] 24)).heap.size:=by simp
 have BX0:=hid b0
 have H0:=hid h0
 have S0:=hid s0
 obtain⟨n,hn⟩:∃ n,lv.length=n:=⟨_,rfl⟩
 have HN:=hid hn
 unfold qbd at a0
 rw[hn] at a0 a1 b0 h0 s0 BX0 H0 S0 ⊢
 simp only at a4 a5
 have q4:=qcd a4
 subst a5
 have q6:((q:Int) == cols - 1)=false:=by simp[a6]
 have hz:1≤cols∧cols≤80:=hsz.1.1
 obtain⟨z1,z2⟩:=hz
 have A0:=hid a0
 have A1:=hid a1
 have A2:=hid a2
 have A3:=hid a3
 have HX:=hid hx
 have HCH:=hid hchg
 have HPL:=hid hcs
 clear hg hT hW htx hn b0 h0 s0 a0 a1 a2 a3 a4 hx hchg hcs hq2 hql hq hsz hfit a6
 show Calls _ _ #[.agg #[.int .i64 cols,.slice A n c0],.int .i64 r,.int .i64 q,.agg #[.string tx,.int .i64 2,.int .i64 fg,.int .i64 bg,.int .i64 fl]] _ _
 go_enter Tryz.func240,Tryz.ntmps240
 go_upto_region 1 with fail
 generalize ((((W.alloc (.cells #[.int .i64 cols,.slice A n c0] 24)).alloc (.cells #[.int .i64 q] 3)).alloc (.cells #[.string tx,.int .i64 2,.int .i64 fg,.int .i64 bg,.int .i64 fl] 57)).alloc (.cells #[.int .i64 0,.slice none 0 0] 24))=w0 at *
 obtain⟨⟨k0_0,k0_1⟩,f0_0,f0_1⟩:=(BX0.out.get 0 rfl).two
 have k1_0:=(BX0.out.get 1 rfl).cell 0
 have f1_0:=(BX0.out.get 1 rfl).free 0
 obtain⟨⟨k2_0,k2_1,k2_2,k2_3,k2_4⟩,f2_0,f2_1,f2_2,f2_3,f2_4⟩:=(BX0.out.get 2 rfl).five
 obtain⟨⟨k3_0,k3_1⟩,f3_0,f3_1⟩:=(BX0.out.get 3 rfl).two
 have hraw:=qa7 cols _ lv w0 (HG.out.below H0.out).lr (HG.out.below H0.out).ces HG.out.sm (HTT.out.below H0.out) (HWW.out.below H0.out)
 rw[HN.out] at hraw
 rw[show (qbl cols n && qed cols lv)=_ from A0.out] at hraw
 have hcall:=hraw
 have HCALL:=hid hcall
 clear hcall
 go_wp2_with fail
 with_reducible refine HCALL.out.mono ?_
 rintro e w1 ⟨rfl,hb⟩
 dsimp only
 have BX1:=hid (BX0.out.below hb)
 have H1:=hid (H0.out.trans (hb.mono H0.out.size))
 have S1:=hid (Nat.le_trans S0.out hb.size)
 clear hb HCALL
 clear k0_0 k0_1 k1_0 k2_0 k2_1 k2_2 k2_3 k2_4 k3_0 k3_1 f0_0 f0_1 f1_0 f2_0 f2_1 f2_2 f2_3 f2_4 f3_0 f3_1
 obtain⟨⟨k0_0,k0_1⟩,f0_0,f0_1⟩:=(BX1.out.get 0 rfl).two
 have k1_0:=(BX1.out.get 1 rfl).cell 0
 have f1_0:=(BX1.out.get 1 rfl).free 0
 obtain⟨⟨k2_0,k2_1,k2_2,k2_3,k2_4⟩,f2_0,f2_1,f2_2,f2_3,f2_4⟩:=(BX1.out.get 2 rfl).five
 obtain⟨⟨k3_0,k3_1⟩,f3_0,f3_1⟩:=(BX1.out.get 3 rfl).two
 clear hraw
 have hraw:=qbs cols r A n c0 w1
 rw[A1.out] at hraw
 have hcall:=hraw
 have HCALL:=hid hcall
 clear hcall
 go_wp2_with fail
 with_reducible refine HCALL.out.mono ?_
 rintro e w2 ⟨rfl,hb⟩
 dsimp only
 have BX2:=hid (BX1.out.below hb)
 have H2:=hid (H1.out.trans (hb.mono H1.out.size))
 have S2:=hid (Nat.le_trans S1.out hb.size)
 clear hb HCALL
 clear k0_0 k0_1 k1_0 k2_0 k2_1 k2_2 k2_3 k2_4 k3_0 k3_1 f0_0 f0_1 f1_0 f2_0 f2_1 f2_2 f2_3 f2_4 f3_0 f3_1
 obtain⟨⟨k0_0,k0_1⟩,f0_0,f0_1⟩:=(BX2.out.get 0 rfl).two
 have k1_0:=(BX2.out.get 1 rfl).cell 0
 have f1_0:=(BX2.out.get 1 rfl).free 0
 obtain⟨⟨k2_0,k2_1,k2_2,k2_3,k2_4⟩,f2_0,f2_1,f2_2,f2_3,f2_4⟩:=(BX2.out.get 2 rfl).five
 obtain⟨⟨k3_0,k3_1⟩,f3_0,f3_1⟩:=(BX2.out.get 3 rfl).two
 clear hraw
 have hraw:=qei cols q A n c0 w2
 rw[A2.out] at hraw
 have hcall:=hraw
 have HCALL:=hid hcall
 clear hcall
 go_wp2_with fail
 with_reducible refine HCALL.out.mono ?_
 rintro e w3 ⟨rfl,hb⟩
 dsimp only
 have BX3:=hid (BX2.out.below hb)
 have H3:=hid (H2.out.trans (hb.mono H2.out.size))
 have S3:=hid (Nat.le_trans S2.out hb.size)
 clear hb HCALL
 clear k0_0 k0_1 k1_0 k2_0 k2_1 k2_2 k2_3 k2_4 k3_0 k3_1 f0_0 f0_1 f1_0 f2_0 f2_1 f2_2 f2_3 f2_4 f3_0 f3_1
 obtain⟨⟨k0_0,k0_1⟩,f0_0,f0_1⟩:=(BX3.out.get 0 rfl).two
 have k1_0:=(BX3.out.get 1 rfl).cell 0
 have f1_0:=(BX3.out.get 1 rfl).free 0
 obtain⟨⟨k2_0,k2_1,k2_2,k2_3,k2_4⟩,f2_0,f2_1,f2_2,f2_3,f2_4⟩:=(BX3.out.get 2 rfl).five
 obtain⟨⟨k3_0,k3_1⟩,f3_0,f3_1⟩:=(BX3.out.get 3 rfl).two
 clear hraw
 have hraw:=qde ⟨tx,2,fg,bg,fl⟩ w3 (Nat.le_trans HTX.out (by unfold maxLen;omega)) (HTT.out.below H3.out) (HWW.out.below H3.out)
 rw[A3.out] at hraw
 unfold Ce.agg Ce.cells at hraw
 simp only at hraw
 have hcall:=hraw
 have HCALL:=hid hcall
 clear hcall
 go_wp2_with fail
 with_reducible refine HCALL.out.mono ?_
 rintro e w4 ⟨rfl,hb⟩
 dsimp only
 have BX4:=hid (BX3.out.below hb)
 have H4:=hid (H3.out.trans (hb.mono H3.out.size))
 have S4:=hid (Nat.le_trans S3.out hb.size)
 clear hb HCALL
 clear k0_0 k0_1 k1_0 k2_0 k2_1 k2_2 k2_3 k2_4 k3_0 k3_1 f0_0 f0_1 f1_0 f2_0 f2_1 f2_2 f2_3 f2_4 f3_0 f3_1
 obtain⟨⟨k0_0,k0_1⟩,f0_0,f0_1⟩:=(BX4.out.get 0 rfl).two
 have k1_0:=(BX4.out.get 1 rfl).cell 0
 have f1_0:=(BX4.out.get 1 rfl).free 0
 obtain⟨⟨k2_0,k2_1,k2_2,k2_3,k2_4⟩,f2_0,f2_1,f2_2,f2_3,f2_4⟩:=(BX4.out.get 2 rfl).five
 obtain⟨⟨k3_0,k3_1⟩,f3_0,f3_1⟩:=(BX4.out.get 3 rfl).two
 clear hraw
 have hin:=HG.out.below H4.out
 have hcall:=qdw cols _ lv r 246 #[.pointer (some ⟨W.heap.size+1+1,0,none⟩),.pointer (some ⟨W.heap.size+1,0,none⟩)] w4 cs _ soft soft lvl hin.lr hin.ces hin.sm HX.out (HCH.out w4 _ _ (by have:=S4.out;omega) (by have:=S4.out;omega) (BX4.out.get 2 rfl) (BX4.out.get 1 rfl)) (by rw[qhu];exact HPL.out)
 rw[HN.out] at hcall
 have HCALL:=hid hcall
 clear hcall hin HCH
 go_wp2_with fail
 with_reducible refine HCALL.out.mono ?_
 rintro e w5 ⟨v5,lv5,rfl,hm5,hl5,hn5,hb5⟩
 dsimp only
 have BX5:=hid (BX4.out.below hb5)
 have H5:=hid (H4.out.trans (hb5.mono H4.out.size))
 obtain⟨A5,c5,hs5⟩:=hl5.spell
 subst hs5
 have HM5:=hid hm5
 have HL5:=hid hl5
 have HN5:=hid hn5
 clear hm5 hl5 hn5 hb5 HCALL
 clear k0_0 k0_1 k1_0 k2_0 k2_1 k2_2 k2_3 k2_4 k3_0 k3_1 f0_0 f0_1 f1_0 f2_0 f2_1 f2_2 f2_3 f2_4 f3_0 f3_1
 obtain⟨⟨k0_0,k0_1⟩,f0_0,f0_1⟩:=(BX5.out.get 0 rfl).two
 have k1_0:=(BX5.out.get 1 rfl).cell 0
 have f1_0:=(BX5.out.get 1 rfl).free 0
 obtain⟨⟨k2_0,k2_1,k2_2,k2_3,k2_4⟩,f2_0,f2_1,f2_2,f2_3,f2_4⟩:=(BX5.out.get 2 rfl).five
 obtain⟨⟨k3_0,k3_1⟩,f3_0,f3_1⟩:=(BX5.out.get 3 rfl).two
 have hm3:=(BX5.out.get 3 rfl)
 have HM3:=hid hm3
 clear hm3
 go_wp2
 refine bodyPost_ret (v:=.tuple #[.agg #[.int .i64 cols,.slice A5 lv5.length c5],.int .i64 0]) (by simp[results,Tryz.results240,go_sem,k3_0,k3_1]) rfl ?_
 exact qgi HM5.out HL5.out HN5.out H4.out.size H5.out HM3.out (by show W.heap.size≤W.heap.size+1+1+1;omega) rfl
set_option maxHeartbeats 2000000
set_option maxRecDepth 100000
def qbo (cols:Int) (lv:List (Ln×Value)) (row col num:Int) (a:At):Bool:=qbd cols lv && (qcx row lv.length && (colB col cols && (decide (0≤num) && qab a)))
theorem qe8 (cols row col num : Int) (a : At) (v : Value) (lv : List (Ln × Value)) (W : World) (hg : GIn W v lv) (hT : Tab W) (hW : TabW W) :
  Calls Tryz.prog 227 #[.agg #[.int .i64 cols,v],.int .i64 row,.int .i64 col,.int .i64 num,a.agg] W fun e w'=>e=.returned (.bool (qbo cols lv row col num a))∧Below W.heap.size W w':=by
 obtain⟨A,c0,rfl⟩:=hg.lr.spell
 have HG:=hid hg
 have HTT:=hid hT
 have HWW:=hid hW
 obtain⟨fg,bg,fl⟩:=a
 obtain⟨n,hn⟩:∃ n,lv.length=n:=⟨_,rfl⟩
 have HN:=hid hn
 have b0:=(((Bxs.nil W).alloc 24 #[.int .i64 cols,.slice A n c0]).alloc 26 #[.int .i64 fg,.int .i64 bg,.int .i64 fl])
 simp only[World.size_alloc,List.nil_append,List.cons_append] at b0
 have h0:Below W.heap.size W ((W.alloc (.cells #[.int .i64 cols,.slice A n c0] 24)).alloc (.cells #[.int .i64 fg,.int .i64 bg,.int .i64 fl] 26)):=((qa _ _).alloc (by simp <;> omega) _)
 have s0:W.heap.size+1+1≤((W.alloc (.cells #[.int .i64 cols,.slice A n c0] 24)).alloc (.cells #[.int .i64 fg,.int .i64 bg,.int .i64 fl] 26)).heap.size:=by simp
 have BX0:=hid b0
 have H0:=hid h0
 have S0:=hid s0
 obtain⟨m0,a0⟩:∃ m,qbd cols lv=m:=⟨_,rfl⟩
 obtain⟨m1,a1⟩:∃ m,qcx row lv.length=m:=⟨_,rfl⟩
 obtain⟨m2,a2⟩:∃ m,colB col cols=m:=⟨_,rfl⟩
 obtain⟨m4,a4⟩:∃ m,qab ⟨fg,bg,fl⟩=m:=⟨_,rfl⟩
 rw[show qbo cols lv row col num ⟨fg,bg,fl⟩=(m0 && (m1 && (m2 && (decide (0≤num) && (m4))))) by unfold qbo;rw[a0,a1,a2,a4]]
 unfold qbd at a0
 rw[hn] at a0 a1 ⊢
 have A0:=hid a0
 have A1:=hid a1
 have A2:=hid a2
 have A4:=hid a4
 clear hg hT hW hn b0 h0 s0 a0 a1 a2 a4
 unfold At.agg
 simp only
 go_enter Tryz.func227,Tryz.ntmps227
 go_upto_region 1 with fail
 generalize ((W.alloc (.cells #[.int .i64 cols,.slice A n c0] 24)).alloc (.cells #[.int .i64 fg,.int .i64 bg,.int .i64 fl] 26))=w0 at *
 obtain⟨⟨k0_0,k0_1⟩,f0_0,f0_1⟩:=(BX0.out.get 0 rfl).two
 obtain⟨⟨k1_0,k1_1,k1_2⟩,f1_0,f1_1,f1_2⟩:=(BX0.out.get 1 rfl).three
 have hraw:=qa7 cols _ lv w0 (HG.out.below H0.out).lr (HG.out.below H0.out).ces HG.out.sm (HTT.out.below H0.out) (HWW.out.below H0.out)
 rw[HN.out] at hraw
 rw[show (qbl cols n && qed cols lv)=_ from A0.out] at hraw
 have hcall:=hraw
 have HCALL:=hid hcall
 clear hcall
 go_wp2_with fail
 with_reducible refine HCALL.out.mono ?_
 rintro e w1 ⟨rfl,hb⟩
 dsimp only
 have BX1:=hid (BX0.out.below hb)
 have H1:=hid (H0.out.trans (hb.mono H0.out.size))
 have S1:=hid (Nat.le_trans S0.out hb.size)
 clear hb HCALL
 clear k0_0 k0_1 k1_0 k1_1 k1_2 f0_0 f0_1 f1_0 f1_1 f1_2
 obtain⟨⟨k0_0,k0_1⟩,f0_0,f0_1⟩:=(BX1.out.get 0 rfl).two
 obtain⟨⟨k1_0,k1_1,k1_2⟩,f1_0,f1_1,f1_2⟩:=(BX1.out.get 1 rfl).three
 clear hraw
 clear A0
 cases m0
 ·go_wp2
  go_ret
  exact⟨rfl,H1.out⟩
 have hraw:=qbs cols row A n c0 w1
 rw[A1.out] at hraw
 have hcall:=hraw
 have HCALL:=hid hcall
 clear hcall
 go_wp2_with fail
 with_reducible refine HCALL.out.mono ?_
 rintro e w2 ⟨rfl,hb⟩
 dsimp only
 have BX2:=hid (BX1.out.below hb)
 have H2:=hid (H1.out.trans (hb.mono H1.out.size))
 have S2:=hid (Nat.le_trans S1.out hb.size)
 clear hb HCALL
 clear k0_0 k0_1 k1_0 k1_1 k1_2 f0_0 f0_1 f1_0 f1_1 f1_2
 obtain⟨⟨k0_0,k0_1⟩,f0_0,f0_1⟩:=(BX2.out.get 0 rfl).two
 obtain⟨⟨k1_0,k1_1,k1_2⟩,f1_0,f1_1,f1_2⟩:=(BX2.out.get 1 rfl).three
 clear hraw
 clear A1
 cases m1
 ·go_wp2
  go_ret
  exact⟨rfl,H2.out⟩
 have hraw:=qei cols col A n c0 w2
 rw[A2.out] at hraw
 have hcall:=hraw
 have HCALL:=hid hcall
 clear hcall
 go_wp2_with fail
 with_reducible refine HCALL.out.mono ?_
 rintro e w3 ⟨rfl,hb⟩
 dsimp only
 have BX3:=hid (BX2.out.below hb)
 have H3:=hid (H2.out.trans (hb.mono H2.out.size))
 have S3:=hid (Nat.le_trans S2.out hb.size)
 clear hb HCALL
 clear k0_0 k0_1 k1_0 k1_1 k1_2 f0_0 f0_1 f1_0 f1_1 f1_2
 obtain⟨⟨k0_0,k0_1⟩,f0_0,f0_1⟩:=(BX3.out.get 0 rfl).two
 obtain⟨⟨k1_0,k1_1,k1_2⟩,f1_0,f1_1,f1_2⟩:=(BX3.out.get 1 rfl).three
 clear hraw
 clear A2
 cases m2
 ·go_wp2
  go_ret
  exact⟨rfl,H3.out⟩
 by_cases b3:0≤num
 rotate_left
 ·have q3:decide (0≤num)=false:=by simp;omega
  clear b3
  go_wp2
  go_ret
  exact⟨rfl,H3.out⟩
 have q3:decide (0≤num)=true:=by simp;omega
 clear b3
 have hraw:=qcv ⟨fg,bg,fl⟩ w3
 rw[A4.out] at hraw
 unfold At.agg at hraw
 have hcall:=hraw
 have HCALL:=hid hcall
 clear hcall
 go_wp2_with fail
 with_reducible refine HCALL.out.mono ?_
 rintro e w4 ⟨rfl,hb⟩
 dsimp only
 have BX4:=hid (BX3.out.below hb)
 have H4:=hid (H3.out.trans (hb.mono H3.out.size))
 have S4:=hid (Nat.le_trans S3.out hb.size)
 clear hb HCALL
 clear k0_0 k0_1 k1_0 k1_1 k1_2 f0_0 f0_1 f1_0 f1_1 f1_2
 obtain⟨⟨k0_0,k0_1⟩,f0_0,f0_1⟩:=(BX4.out.get 0 rfl).two
 obtain⟨⟨k1_0,k1_1,k1_2⟩,f1_0,f1_1,f1_2⟩:=(BX4.out.get 1 rfl).three
 clear hraw
 go_wp2
 go_ret
 exact⟨rfl,H4.out⟩
def qbq (cols:Int) (lv:List (Ln×Value)) (top bot num:Int) (a:At):Bool:=qbd cols lv && (qcx top lv.length && (qcx bot lv.length && (decide (top≤bot) && (decide (0≤num) && qab a))))
theorem qeq (cols top bot num : Int) (a : At) (v : Value) (lv : List (Ln × Value)) (W : World) (hg : GIn W v lv) (hT : Tab W) (hW : TabW W) :
  Calls Tryz.prog 230 #[.agg #[.int .i64 cols,v],.int .i64 top,.int .i64 bot,.int .i64 num,a.agg] W fun e w'=>e=.returned (.bool (qbq cols lv top bot num a))∧Below W.heap.size W w':=by
 obtain⟨A,c0,rfl⟩:=hg.lr.spell
 have HG:=hid hg
 have HTT:=hid hT
 have HWW:=hid hW
 obtain⟨fg,bg,fl⟩:=a
 obtain⟨n,hn⟩:∃ n,lv.length=n:=⟨_,rfl⟩
 have HN:=hid hn
 have b0:=(((Bxs.nil W).alloc 24 #[.int .i64 cols,.slice A n c0]).alloc 26 #[.int .i64 fg,.int .i64 bg,.int .i64 fl])
 simp only[World.size_alloc,List.nil_append,List.cons_append] at b0
 have h0:Below W.heap.size W ((W.alloc (.cells #[.int .i64 cols,.slice A n c0] 24)).alloc (.cells #[.int .i64 fg,.int .i64 bg,.int .i64 fl] 26)):=((qa _ _).alloc (by simp <;> omega) _)
 have s0:W.heap.size+1+1≤((W.alloc (.cells #[.int .i64 cols,.slice A n c0] 24)).alloc (.cells #[.int .i64 fg,.int .i64 bg,.int .i64 fl] 26)).heap.size:=by simp
 have BX0:=hid b0
 have H0:=hid h0
 have S0:=hid s0
 obtain⟨m0,a0⟩:∃ m,qbd cols lv=m:=⟨_,rfl⟩
 obtain⟨m1,a1⟩:∃ m,qcx top lv.length=m:=⟨_,rfl⟩
 obtain⟨m2,a2⟩:∃ m,qcx bot lv.length=m:=⟨_,rfl⟩
 obtain⟨m5,a5⟩:∃ m,qab ⟨fg,bg,fl⟩=m:=⟨_,rfl⟩
 rw[show qbq cols lv top bot num ⟨fg,bg,fl⟩=(m0 && (m1 && (m2 && (decide (top≤bot) && (decide (0≤num) && (m5)))))) by unfold qbq;rw[a0,a1,a2,a5]]
 unfold qbd at a0
 rw[hn] at a0 a1 a2 ⊢
 have A0:=hid a0
 have A1:=hid a1
 have A2:=hid a2
 have A5:=hid a5
 clear hg hT hW hn b0 h0 s0 a0 a1 a2 a5
 unfold At.agg
 simp only
 go_enter Tryz.func230,Tryz.ntmps230
 go_upto_region 1 with fail
 generalize ((W.alloc (.cells #[.int .i64 cols,.slice A n c0] 24)).alloc (.cells #[.int .i64 fg,.int .i64 bg,.int .i64 fl] 26))=w0 at *
 obtain⟨⟨k0_0,k0_1⟩,f0_0,f0_1⟩:=(BX0.out.get 0 rfl).two
 obtain⟨⟨k1_0,k1_1,k1_2⟩,f1_0,f1_1,f1_2⟩:=(BX0.out.get 1 rfl).three
 have hraw:=qa7 cols _ lv w0 (HG.out.below H0.out).lr (HG.out.below H0.out).ces HG.out.sm (HTT.out.below H0.out) (HWW.out.below H0.out)
 rw[HN.out] at hraw
 rw[show (qbl cols n && qed cols lv)=_ from A0.out] at hraw
 have hcall:=hraw
 have HCALL:=hid hcall
 clear hcall
 go_wp2_with fail
 with_reducible refine HCALL.out.mono ?_
 rintro e w1 ⟨rfl,hb⟩
 dsimp only
 have BX1:=hid (BX0.out.below hb)
 have H1:=hid (H0.out.trans (hb.mono H0.out.size))
 have S1:=hid (Nat.le_trans S0.out hb.size)
 clear hb HCALL
 clear k0_0 k0_1 k1_0 k1_1 k1_2 f0_0 f0_1 f1_0 f1_1 f1_2
 obtain⟨⟨k0_0,k0_1⟩,f0_0,f0_1⟩:=(BX1.out.get 0 rfl).two
 obtain⟨⟨k1_0,k1_1,k1_2⟩,f1_0,f1_1,f1_2⟩:=(BX1.out.get 1 rfl).three
 clear hraw
 clear A0
 cases m0
 ·go_wp2
  go_ret
  exact⟨rfl,H1.out⟩
 have hraw:=qbs cols top A n c0 w1
 rw[A1.out] at hraw
 have hcall:=hraw
 have HCALL:=hid hcall
 clear hcall
 go_wp2_with fail
 with_reducible refine HCALL.out.mono ?_
 rintro e w2 ⟨rfl,hb⟩
 dsimp only
 have BX2:=hid (BX1.out.below hb)
 have H2:=hid (H1.out.trans (hb.mono H1.out.size))
 have S2:=hid (Nat.le_trans S1.out hb.size)
 clear hb HCALL
 clear k0_0 k0_1 k1_0 k1_1 k1_2 f0_0 f0_1 f1_0 f1_1 f1_2
 obtain⟨⟨k0_0,k0_1⟩,f0_0,f0_1⟩:=(BX2.out.get 0 rfl).two
 obtain⟨⟨k1_0,k1_1,k1_2⟩,f1_0,f1_1,f1_2⟩:=(BX2.out.get 1 rfl).three
 clear hraw
 clear A1
 cases m1
 ·go_wp2
  go_ret
  exact⟨rfl,H2.out⟩
 have hraw:=qbs cols bot A n c0 w2
 rw[A2.out] at hraw
 have hcall:=hraw
 have HCALL:=hid hcall
 clear hcall
 go_wp2_with fail
 with_reducible refine HCALL.out.mono ?_
 rintro e w3 ⟨rfl,hb⟩
 dsimp only
 have BX3:=hid (BX2.out.below hb)
 have H3:=hid (H2.out.trans (hb.mono H2.out.size))
 have S3:=hid (Nat.le_trans S2.out hb.size)
 clear hb HCALL
 clear k0_0 k0_1 k1_0 k1_1 k1_2 f0_0 f0_1 f1_0 f1_1 f1_2
 obtain⟨⟨k0_0,k0_1⟩,f0_0,f0_1⟩:=(BX3.out.get 0 rfl).two
 obtain⟨⟨k1_0,k1_1,k1_2⟩,f1_0,f1_1,f1_2⟩:=(BX3.out.get 1 rfl).three
 clear hraw
 clear A2
 cases m2
 ·go_wp2
  go_ret
  exact⟨rfl,H3.out⟩
 by_cases b3:top≤bot
 rotate_left
 ·have q3:decide (top≤bot)=false:=by simp;omega
  clear b3
  go_wp2
  go_ret
  exact⟨rfl,H3.out⟩
 have q3:decide (top≤bot)=true:=by simp;omega
 clear b3
 by_cases b4:0≤num
 rotate_left
 ·have q4:decide (0≤num)=false:=by simp;omega
  clear b4
  go_wp2
  go_ret
  exact⟨rfl,H3.out⟩
 have q4:decide (0≤num)=true:=by simp;omega
 clear b4
 have hraw:=qcv ⟨fg,bg,fl⟩ w3
 rw[A5.out] at hraw
 unfold At.agg at hraw
 have hcall:=hraw
 have HCALL:=hid hcall
 clear hcall
 go_wp2_with fail
 with_reducible refine HCALL.out.mono ?_
 rintro e w4 ⟨rfl,hb⟩
 dsimp only
 have BX4:=hid (BX3.out.below hb)
 have H4:=hid (H3.out.trans (hb.mono H3.out.size))
 have S4:=hid (Nat.le_trans S3.out hb.size)
 clear hb HCALL
 clear k0_0 k0_1 k1_0 k1_1 k1_2 f0_0 f0_1 f1_0 f1_1 f1_2
 obtain⟨⟨k0_0,k0_1⟩,f0_0,f0_1⟩:=(BX4.out.get 0 rfl).two
 obtain⟨⟨k1_0,k1_1,k1_2⟩,f1_0,f1_1,f1_2⟩:=(BX4.out.get 1 rfl).three
 clear hraw
 go_wp2
 go_ret
 exact⟨rfl,H4.out⟩
set_option maxHeartbeats 2000000
set_option maxRecDepth 100000
theorem soft_no0 (cols row : Int) (soft2 : Bool) (v : Value) (lv : List (Ln × Value)) (W : World) (hg : GIn W v lv) (hT : Tab W) (hW : TabW W) (a0 : qbd cols lv = false) :
  Calls Tryz.prog 222 #[.agg #[.int .i64 cols,v],.int .i64 row,.bool soft2] W (GNo W 1):=by
 obtain⟨A,c0,rfl⟩:=hg.lr.spell
 have HG:=hid hg
 have HTT:=hid hT
 have HWW:=hid hW
 obtain⟨n,hn⟩:∃ n,lv.length=n:=⟨_,rfl⟩
 have HN:=hid hn
 have b0:=((((Bxs.nil W).alloc 24 #[.int .i64 cols,.slice A n c0]).alloc 4 #[.bool soft2]).alloc 24 #[.int .i64 0,.slice none 0 0])
 simp only[World.size_alloc,List.nil_append,List.cons_append] at b0
 have h0:Below W.heap.size W (((W.alloc (.cells #[.int .i64 cols,.slice A n c0] 24)).alloc (.cells #[.bool soft2] 4)).alloc (.cells #[.int .i64 0,.slice none 0 0] 24)):=(((qa _ _).alloc (by simp <;> omega) _).alloc (by simp <;> omega) _)
 have s0:W.heap.size+1+1+1≤(((W.alloc (.cells #[.int .i64 cols,.slice A n c0] 24)).alloc (.cells #[.bool soft2] 4)).alloc (.cells #[.int .i64 0,.slice none 0 0] 24)).heap.size:=by simp
 have BX0:=hid b0
 have H0:=hid h0
 have S0:=hid s0
 unfold qbd at a0
 rw[hn] at a0 ⊢
 have A0:=hid a0
 clear hg hT hW hn b0 h0 s0 a0
 go_enter Tryz.func222,Tryz.ntmps222
 go_upto_region 1 with fail
 generalize (((W.alloc (.cells #[.int .i64 cols,.slice A n c0] 24)).alloc (.cells #[.bool soft2] 4)).alloc (.cells #[.int .i64 0,.slice none 0 0] 24))=w0 at *
 obtain⟨⟨k0_0,k0_1⟩,f0_0,f0_1⟩:=(BX0.out.get 0 rfl).two
 have k1_0:=(BX0.out.get 1 rfl).cell 0
 have f1_0:=(BX0.out.get 1 rfl).free 0
 obtain⟨⟨k2_0,k2_1⟩,f2_0,f2_1⟩:=(BX0.out.get 2 rfl).two
 have hraw:=qa7 cols _ lv w0 (HG.out.below H0.out).lr (HG.out.below H0.out).ces HG.out.sm (HTT.out.below H0.out) (HWW.out.below H0.out)
 rw[HN.out] at hraw
 rw[show (qbl cols n && qed cols lv)=_ from A0.out] at hraw
 have hcall:=hraw
 have HCALL:=hid hcall
 clear hcall
 go_wp2_with fail
 with_reducible refine HCALL.out.mono ?_
 rintro e w1 ⟨rfl,hb⟩
 dsimp only
 have BX1:=hid (BX0.out.below hb)
 have H1:=hid (H0.out.trans (hb.mono H0.out.size))
 have S1:=hid (Nat.le_trans S0.out hb.size)
 clear hb HCALL
 clear k0_0 k0_1 k1_0 k2_0 k2_1 f0_0 f0_1 f1_0 f2_0 f2_1
 obtain⟨⟨k0_0,k0_1⟩,f0_0,f0_1⟩:=(BX1.out.get 0 rfl).two
 have k1_0:=(BX1.out.get 1 rfl).cell 0
 have f1_0:=(BX1.out.get 1 rfl).free 0
 obtain⟨⟨k2_0,k2_1⟩,f2_0,f2_1⟩:=(BX1.out.get 2 rfl).two
 clear hraw
 go_wp2
 refine bodyPost_ret (v:=.tuple #[.agg #[.int .i64 0,.slice none 0 0],.int .i64 1]) (by simp[results,Tryz.results222,go_sem,k2_0,k2_1]) rfl ⟨rfl,?_⟩
 exact(H1.out.setCell (p:=⟨W.heap.size+1+1,0,none⟩) (by show W.heap.size≤W.heap.size+1+1;omega) _).setCell (p:=⟨W.heap.size+1+1,1,none⟩) (by show W.heap.size≤W.heap.size+1+1;omega) _
theorem soft_no1 (cols row : Int) (soft2 : Bool) (v : Value) (lv : List (Ln × Value)) (W : World) (hg : GIn W v lv) (hT : Tab W) (hW : TabW W) (a0 : qbd cols lv = true) (a1 : qcx row lv.length = false) :
  Calls Tryz.prog 222 #[.agg #[.int .i64 cols,v],.int .i64 row,.bool soft2] W (GNo W 1):=by
 obtain⟨A,c0,rfl⟩:=hg.lr.spell
 have HG:=hid hg
 have HTT:=hid hT
 have HWW:=hid hW
 obtain⟨n,hn⟩:∃ n,lv.length=n:=⟨_,rfl⟩
 have HN:=hid hn
 have b0:=((((Bxs.nil W).alloc 24 #[.int .i64 cols,.slice A n c0]).alloc 4 #[.bool soft2]).alloc 24 #[.int .i64 0,.slice none 0 0])
 simp only[World.size_alloc,List.nil_append,List.cons_append] at b0
 have h0:Below W.heap.size W (((W.alloc (.cells #[.int .i64 cols,.slice A n c0] 24)).alloc (.cells #[.bool soft2] 4)).alloc (.cells #[.int .i64 0,.slice none 0 0] 24)):=(((qa _ _).alloc (by simp <;> omega) _).alloc (by simp <;> omega) _)
 have s0:W.heap.size+1+1+1≤(((W.alloc (.cells #[.int .i64 cols,.slice A n c0] 24)).alloc (.cells #[.bool soft2] 4)).alloc (.cells #[.int .i64 0,.slice none 0 0] 24)).heap.size:=by simp
 have BX0:=hid b0
 have H0:=hid h0
 have S0:=hid s0
 unfold qbd at a0
 rw[hn] at a0 a1 ⊢
 have A0:=hid a0
 have A1:=hid a1
 clear hg hT hW hn b0 h0 s0 a0 a1
 go_enter Tryz.func222,Tryz.ntmps222
 go_upto_region 1 with fail
 generalize (((W.alloc (.cells #[.int .i64 cols,.slice A n c0] 24)).alloc (.cells #[.bool soft2] 4)).alloc (.cells #[.int .i64 0,.slice none 0 0] 24))=w0 at *
 obtain⟨⟨k0_0,k0_1⟩,f0_0,f0_1⟩:=(BX0.out.get 0 rfl).two
 have k1_0:=(BX0.out.get 1 rfl).cell 0
 have f1_0:=(BX0.out.get 1 rfl).free 0
 obtain⟨⟨k2_0,k2_1⟩,f2_0,f2_1⟩:=(BX0.out.get 2 rfl).two
 have hraw:=qa7 cols _ lv w0 (HG.out.below H0.out).lr (HG.out.below H0.out).ces HG.out.sm (HTT.out.below H0.out) (HWW.out.below H0.out)
 rw[HN.out] at hraw
 rw[show (qbl cols n && qed cols lv)=_ from A0.out] at hraw
 have hcall:=hraw
 have HCALL:=hid hcall
 clear hcall
 go_wp2_with fail
 with_reducible refine HCALL.out.mono ?_
 rintro e w1 ⟨rfl,hb⟩
 dsimp only
 have BX1:=hid (BX0.out.below hb)
 have H1:=hid (H0.out.trans (hb.mono H0.out.size))
 have S1:=hid (Nat.le_trans S0.out hb.size)
 clear hb HCALL
 clear k0_0 k0_1 k1_0 k2_0 k2_1 f0_0 f0_1 f1_0 f2_0 f2_1
 obtain⟨⟨k0_0,k0_1⟩,f0_0,f0_1⟩:=(BX1.out.get 0 rfl).two
 have k1_0:=(BX1.out.get 1 rfl).cell 0
 have f1_0:=(BX1.out.get 1 rfl).free 0
 obtain⟨⟨k2_0,k2_1⟩,f2_0,f2_1⟩:=(BX1.out.get 2 rfl).two
 clear hraw
 have hraw:=qbs cols row A n c0 w1
 rw[A1.out] at hraw
 have hcall:=hraw
 have HCALL:=hid hcall
 clear hcall
 go_wp2_with fail
 with_reducible refine HCALL.out.mono ?_
 rintro e w2 ⟨rfl,hb⟩
 dsimp only
 have BX2:=hid (BX1.out.below hb)
 have H2:=hid (H1.out.trans (hb.mono H1.out.size))
 have S2:=hid (Nat.le_trans S1.out hb.size)
 clear hb HCALL
 clear k0_0 k0_1 k1_0 k2_0 k2_1 f0_0 f0_1 f1_0 f2_0 f2_1
 obtain⟨⟨k0_0,k0_1⟩,f0_0,f0_1⟩:=(BX2.out.get 0 rfl).two
 have k1_0:=(BX2.out.get 1 rfl).cell 0
 have f1_0:=(BX2.out.get 1 rfl).free 0
 obtain⟨⟨k2_0,k2_1⟩,f2_0,f2_1⟩:=(BX2.out.get 2 rfl).two
 clear hraw
 go_wp2
 refine bodyPost_ret (v:=.tuple #[.agg #[.int .i64 0,.slice none 0 0],.int .i64 1]) (by simp[results,Tryz.results222,go_sem,k2_0,k2_1]) rfl ⟨rfl,?_⟩
 exact(H2.out.setCell (p:=⟨W.heap.size+1+1,0,none⟩) (by show W.heap.size≤W.heap.size+1+1;omega) _).setCell (p:=⟨W.heap.size+1+1,1,none⟩) (by show W.heap.size≤W.heap.size+1+1;omega) _
theorem soft_yes (cols : Int) (r : Nat) (soft2 : Bool) (v : Value) (lv : List (Ln × Value)) (cs : List Ce) (soft : Bool) (lvl : Value) (W : World) (hg : GIn W v lv) (hT : Tab W) (hW : TabW W) (hx : lv[r]? = some (⟨cs, soft⟩, lvl)) (a0 : qbd cols lv = true) (a1 : qcx r lv.length = true) :
  Calls Tryz.prog 222 #[.agg #[.int .i64 cols,v],.int .i64 r,.bool soft2] W (GYes W cols lv ((lv.map Prod.fst).set r ⟨qac 1 cs,soft2⟩)):=by
 have hfit:=fits_iff.1 (qg2 a0 hx)
 simp only at hfit
 have hsz:=a0
 unfold qbd qbl at hsz
 rw[Bool.and_eq_true,Bool.and_eq_true,decide_eq_true_iff,decide_eq_true_iff] at hsz
 have hcs:cs.length≤1000:=by omega
 obtain⟨A,c0,rfl⟩:=hg.lr.spell
 have HG:=hid hg
 have HTT:=hid hT
 have HWW:=hid hW
 have hchg:=fun w (bs:Nat) h1 hbs=>soft_chg w.heap.size w cs soft soft2 bs h1 hbs
 obtain⟨n,hn⟩:∃ n,lv.length=n:=⟨_,rfl⟩
 have HN:=hid hn
 have b0:=((((Bxs.nil W).alloc 24 #[.int .i64 cols,.slice A n c0]).alloc 4 #[.bool soft2]).alloc 24 #[.int .i64 0,.slice none 0 0])
 simp only[World.size_alloc,List.nil_append,List.cons_append] at b0
 have h0:Below W.heap.size W (((W.alloc (.cells #[.int .i64 cols,.slice A n c0] 24)).alloc (.cells #[.bool soft2] 4)).alloc (.cells #[.int .i64 0,.slice none 0 0] 24)):=(((qa _ _).alloc (by simp <;> omega) _).alloc (by simp <;> omega) _)
 have s0:W.heap.size+1+1+1≤(((W.alloc (.cells #[.int .i64 cols,.slice A n c0] 24)).alloc (.cells #[.bool soft2] 4)).alloc (.cells #[.int .i64 0,.slice none 0 0] 24)).heap.size:=by simp
 have BX0:=hid b0
 have H0:=hid h0
 have S0:=hid s0
 unfold qbd at a0
 rw[hn] at a0 a1 ⊢
 have A0:=hid a0
 have A1:=hid a1
 have HX:=hid hx
 have HCH:=hid hchg
 have HPL:=hid hcs
 clear hg hT hW hn b0 h0 s0 a0 a1 hx hchg hcs hsz hfit
 go_enter Tryz.func222,Tryz.ntmps222
 go_upto_region 1 with fail
 generalize (((W.alloc (.cells #[.int .i64 cols,.slice A n c0] 24)).alloc (.cells #[.bool soft2] 4)).alloc (.cells #[.int .i64 0,.slice none 0 0] 24))=w0 at *
 obtain⟨⟨k0_0,k0_1⟩,f0_0,f0_1⟩:=(BX0.out.get 0 rfl).two
 have k1_0:=(BX0.out.get 1 rfl).cell 0
 have f1_0:=(BX0.out.get 1 rfl).free 0
 obtain⟨⟨k2_0,k2_1⟩,f2_0,f2_1⟩:=(BX0.out.get 2 rfl).two
 have hraw:=qa7 cols _ lv w0 (HG.out.below H0.out).lr (HG.out.below H0.out).ces HG.out.sm (HTT.out.below H0.out) (HWW.out.below H0.out)
 rw[HN.out] at hraw
 rw[show (qbl cols n && qed cols lv)=_ from A0.out] at hraw
 have hcall:=hraw
 have HCALL:=hid hcall
 clear hcall
 go_wp2_with fail
 with_reducible refine HCALL.out.mono ?_
 rintro e w1 ⟨rfl,hb⟩
 dsimp only
 have BX1:=hid (BX0.out.below hb)
 have H1:=hid (H0.out.trans (hb.mono H0.out.size))
 have S1:=hid (Nat.le_trans S0.out hb.size)
 clear hb HCALL
 clear k0_0 k0_1 k1_0 k2_0 k2_1 f0_0 f0_1 f1_0 f2_0 f2_1
 obtain⟨⟨k0_0,k0_1⟩,f0_0,f0_1⟩:=(BX1.out.get 0 rfl).two
 have k1_0:=(BX1.out.get 1 rfl).cell 0
 have f1_0:=(BX1.out.get 1 rfl).free 0
 obtain⟨⟨k2_0,k2_1⟩,f2_0,f2_1⟩:=(BX1.out.get 2 rfl).two
 clear hraw
 have hraw:=qbs cols r A n c0 w1
 rw[A1.out] at hraw
 have hcall:=hraw
 have HCALL:=hid hcall
 clear hcall
 go_wp2_with fail
 with_reducible refine HCALL.out.mono ?_
 rintro e w2 ⟨rfl,hb⟩
 dsimp only
 have BX2:=hid (BX1.out.below hb)
 have H2:=hid (H1.out.trans (hb.mono H1.out.size))
 have S2:=hid (Nat.le_trans S1.out hb.size)
 clear hb HCALL
 clear k0_0 k0_1 k1_0 k2_0 k2_1 f0_0 f0_1 f1_0 f2_0 f2_1
 obtain⟨⟨k0_0,k0_1⟩,f0_0,f0_1⟩:=(BX2.out.get 0 rfl).two
 have k1_0:=(BX2.out.get 1 rfl).cell 0
 have f1_0:=(BX2.out.get 1 rfl).free 0
 obtain⟨⟨k2_0,k2_1⟩,f2_0,f2_1⟩:=(BX2.out.get 2 rfl).two
 clear hraw
 have hin:=HG.out.below H2.out
 have hcall:=qdw cols _ lv r 242 #[.pointer (some ⟨W.heap.size+1,0,none⟩)] w2 cs _ soft soft2 lvl hin.lr hin.ces hin.sm HX.out (HCH.out w2 _ (by have:=S2.out;omega) (BX2.out.get 1 rfl)) (HPL.out)
 rw[HN.out] at hcall
 have HCALL:=hid hcall
 clear hcall hin HCH
 go_wp2_with fail
 with_reducible refine HCALL.out.mono ?_
 rintro e w3 ⟨v5,lv5,rfl,hm5,hl5,hn5,hb5⟩
 dsimp only
 have BX3:=hid (BX2.out.below hb5)
 have H3:=hid (H2.out.trans (hb5.mono H2.out.size))
 obtain⟨A5,c5,hs5⟩:=hl5.spell
 subst hs5
 have HM5:=hid hm5
 have HL5:=hid hl5
 have HN5:=hid hn5
 clear hm5 hl5 hn5 hb5 HCALL
 clear k0_0 k0_1 k1_0 k2_0 k2_1 f0_0 f0_1 f1_0 f2_0 f2_1
 obtain⟨⟨k0_0,k0_1⟩,f0_0,f0_1⟩:=(BX3.out.get 0 rfl).two
 have k1_0:=(BX3.out.get 1 rfl).cell 0
 have f1_0:=(BX3.out.get 1 rfl).free 0
 obtain⟨⟨k2_0,k2_1⟩,f2_0,f2_1⟩:=(BX3.out.get 2 rfl).two
 have hm3:=(BX3.out.get 2 rfl)
 have HM3:=hid hm3
 clear hm3
 go_wp2
 refine bodyPost_ret (v:=.tuple #[.agg #[.int .i64 cols,.slice A5 lv5.length c5],.int .i64 0]) (by simp[results,Tryz.results222,go_sem,k2_0,k2_1]) rfl ?_
 exact qgi HM5.out HL5.out HN5.out H2.out.size H3.out HM3.out (by show W.heap.size≤W.heap.size+1+1;omega) rfl
end Go.Proofs.YtpdaekmbpafenaaGreatDoor
