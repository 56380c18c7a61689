
import Derived.Test.YtpdaekmbpafenaaGreatDoorGridSoftQ
namespace Go.Proofs.YtpdaekmbpafenaaGreatDoor
set_option maxHeartbeats 2000000
set_option maxRecDepth 100000
open Go.RowKit
theorem qgp (cols row fr tt : Int) (a : At) (v : Value) (lv : List (Ln × Value)) (W : World) (hg : GIn W v lv) (hT : Tab W) (hW : TabW W) (hk : (qbd cols lv && (qcx row lv.length && (!decide (fr < 0) && (!decide (tt < fr) && (!decide (cols < tt) && qab a))))) = false) :
  Calls Tryz.prog 200 #[.agg #[.int .i64 cols,v],.int .i64 row,.int .i64 fr,.int .i64 tt,a.agg] W (GNo W 1):=by
 obtain⟨A,c0,rfl⟩:=hg.lr.spell
 have HG:=hid hg
 have HTT:=hid hT
 have HWW:=hid hW
 obtain⟨fg,bg,fl⟩:=a
 obtain⟨n,hn⟩:∃ n,lv.length=n:=⟨_,rfl⟩
 have HN:=hid hn
 have b0:=((((((Bxs.nil W).alloc 24 #[.int .i64 cols,.slice A n c0]).alloc 3 #[.int .i64 fr]).alloc 3 #[.int .i64 tt]).alloc 26 #[.int .i64 fg,.int .i64 bg,.int .i64 fl]).alloc 24 #[.int .i64 0,.slice none 0 0])
 simp only[World.size_alloc,List.nil_append,List.cons_append] at b0
 have h0:Below W.heap.size W (((((W.alloc (.cells #[.int .i64 cols,.slice A n c0] 24)).alloc (.cells #[.int .i64 fr] 3)).alloc (.cells #[.int .i64 tt] 3)).alloc (.cells #[.int .i64 fg,.int .i64 bg,.int .i64 fl] 26)).alloc (.cells #[.int .i64 0,.slice none 0 0] 24)):=(((((qa _ _).alloc (by simp <;> omega) _).alloc (by simp <;> omega) _).alloc (by simp <;> omega) _).alloc (by simp <;> omega) _)
 have s0:W.heap.size+1+1+1+1+1≤(((((W.alloc (.cells #[.int .i64 cols,.slice A n c0] 24)).alloc (.cells #[.int .i64 fr] 3)).alloc (.cells #[.int .i64 tt] 3)).alloc (.cells #[.int .i64 fg,.int .i64 bg,.int .i64 fl] 26)).alloc (.cells #[.int .i64 0,.slice none 0 0] 24)).heap.size:=by simp
 have BX0:=hid b0
 have H0:=hid h0
 have S0:=hid s0
 obtain⟨m0,a0⟩:∃ m,qbd cols lv=m:=⟨_,rfl⟩
 obtain⟨m1,a1⟩:∃ m,qcx row lv.length=m:=⟨_,rfl⟩
 obtain⟨m5,a5⟩:∃ m,qab ⟨fg,bg,fl⟩=m:=⟨_,rfl⟩
 rw[a0,a1,a5] at hk
 have HK:=hid hk
 unfold qbd at a0
 rw[hn] at a0 a1 ⊢
 have A0:=hid a0
 have A1:=hid a1
 have A5:=hid a5
 clear hg hT hW hn b0 h0 s0 a0 a1 a5 hk
 unfold At.agg
 simp only
 go_enter Tryz.func200,Tryz.ntmps200
 go_upto_region 1 with fail
 generalize (((((W.alloc (.cells #[.int .i64 cols,.slice A n c0] 24)).alloc (.cells #[.int .i64 fr] 3)).alloc (.cells #[.int .i64 tt] 3)).alloc (.cells #[.int .i64 fg,.int .i64 bg,.int .i64 fl] 26)).alloc (.cells #[.int .i64 0,.slice none 0 0] 24))=w0 at *
 obtain⟨⟨k0_0,k0_1⟩,f0_0,f0_1⟩:=(BX0.out.get 0 rfl).two
 have k1_0:=(BX0.out.get 1 rfl).cell 0
 have f1_0:=(BX0.out.get 1 rfl).free 0
 have k2_0:=(BX0.out.get 2 rfl).cell 0
 have f2_0:=(BX0.out.get 2 rfl).free 0
 obtain⟨⟨k3_0,k3_1,k3_2⟩,f3_0,f3_1,f3_2⟩:=(BX0.out.get 3 rfl).three
 obtain⟨⟨k4_0,k4_1⟩,f4_0,f4_1⟩:=(BX0.out.get 4 rfl).two
 have hraw:=qa7 cols _ lv w0 (HG.out.below H0.out).lr (HG.out.below H0.out).ces HG.out.sm (HTT.out.below H0.out) (HWW.out.below H0.out)
 rw[HN.out] at hraw
 rw[show (qbl cols n && qed cols lv)=_ from A0.out] at hraw
 have hcall:=hraw
 have HCALL:=hid hcall
 clear hcall
 go_wp2_with fail
 with_reducible refine HCALL.out.mono ?_
 rintro e w1 ⟨rfl,hb⟩
 dsimp only
 have BX1:=hid (BX0.out.below hb)
 have H1:=hid (H0.out.trans (hb.mono H0.out.size))
 have S1:=hid (Nat.le_trans S0.out hb.size)
 clear hb HCALL
 clear k0_0 k0_1 k1_0 k2_0 k3_0 k3_1 k3_2 k4_0 k4_1 f0_0 f0_1 f1_0 f2_0 f3_0 f3_1 f3_2 f4_0 f4_1
 obtain⟨⟨k0_0,k0_1⟩,f0_0,f0_1⟩:=(BX1.out.get 0 rfl).two
 have k1_0:=(BX1.out.get 1 rfl).cell 0
 have f1_0:=(BX1.out.get 1 rfl).free 0
 have k2_0:=(BX1.out.get 2 rfl).cell 0
 have f2_0:=(BX1.out.get 2 rfl).free 0
 obtain⟨⟨k3_0,k3_1,k3_2⟩,f3_0,f3_1,f3_2⟩:=(BX1.out.get 3 rfl).three
 obtain⟨⟨k4_0,k4_1⟩,f4_0,f4_1⟩:=(BX1.out.get 4 rfl).two
 clear hraw
 clear A0
 cases m0
 ·go_wp2
  refine bodyPost_ret (v:=.tuple #[.agg #[.int .i64 0,.slice none 0 0],.int .i64 1]) (by simp[results,Tryz.results200,go_sem,k4_0,k4_1]) rfl ⟨rfl,?_⟩
  exact(H1.out.setCell (p:=⟨W.heap.size+1+1+1+1,0,none⟩) (by show W.heap.size≤W.heap.size+1+1+1+1;omega) _).setCell (p:=⟨W.heap.size+1+1+1+1,1,none⟩) (by show W.heap.size≤W.heap.size+1+1+1+1;omega) _
 have hraw:=qbs cols row A n c0 w1
 rw[A1.out] at hraw
 have hcall:=hraw
 have HCALL:=hid hcall
 clear hcall
 go_wp2_with fail
 with_reducible refine HCALL.out.mono ?_
 rintro e w2 ⟨rfl,hb⟩
 dsimp only
 have BX2:=hid (BX1.out.below hb)
 have H2:=hid (H1.out.trans (hb.mono H1.out.size))
 have S2:=hid (Nat.le_trans S1.out hb.size)
 clear hb HCALL
 clear k0_0 k0_1 k1_0 k2_0 k3_0 k3_1 k3_2 k4_0 k4_1 f0_0 f0_1 f1_0 f2_0 f3_0 f3_1 f3_2 f4_0 f4_1
 obtain⟨⟨k0_0,k0_1⟩,f0_0,f0_1⟩:=(BX2.out.get 0 rfl).two
 have k1_0:=(BX2.out.get 1 rfl).cell 0
 have f1_0:=(BX2.out.get 1 rfl).free 0
 have k2_0:=(BX2.out.get 2 rfl).cell 0
 have f2_0:=(BX2.out.get 2 rfl).free 0
 obtain⟨⟨k3_0,k3_1,k3_2⟩,f3_0,f3_1,f3_2⟩:=(BX2.out.get 3 rfl).three
 obtain⟨⟨k4_0,k4_1⟩,f4_0,f4_1⟩:=(BX2.out.get 4 rfl).two
 clear hraw
 clear A1
 cases m1
 ·go_wp2
  refine bodyPost_ret (v:=.tuple #[.agg #[.int .i64 0,.slice none 0 0],.int .i64 1]) (by simp[results,Tryz.results200,go_sem,k4_0,k4_1]) rfl ⟨rfl,?_⟩
  exact(H2.out.setCell (p:=⟨W.heap.size+1+1+1+1,0,none⟩) (by show W.heap.size≤W.heap.size+1+1+1+1;omega) _).setCell (p:=⟨W.heap.size+1+1+1+1,1,none⟩) (by show W.heap.size≤W.heap.size+1+1+1+1;omega) _
 by_cases b2:fr < 0
 ·have q2:decide (fr < 0)=true:=by simp;omega
  clear b2
  go_wp2
  refine bodyPost_ret (v:=.tuple #[.agg #[.int .i64 0,.slice none 0 0],.int .i64 1]) (by simp[results,Tryz.results200,go_sem,k4_0,k4_1]) rfl ⟨rfl,?_⟩
  exact(H2.out.setCell (p:=⟨W.heap.size+1+1+1+1,0,none⟩) (by show W.heap.size≤W.heap.size+1+1+1+1;omega) _).setCell (p:=⟨W.heap.size+1+1+1+1,1,none⟩) (by show W.heap.size≤W.heap.size+1+1+1+1;omega) _
 have q2:decide (fr < 0)=false:=by simp;omega
 clear b2
 by_cases b3:tt < fr
 ·have q3:decide (tt < fr)=true:=by simp;omega
  clear b3
  go_wp2
  refine bodyPost_ret (v:=.tuple #[.agg #[.int .i64 0,.slice none 0 0],.int .i64 1]) (by simp[results,Tryz.results200,go_sem,k4_0,k4_1]) rfl ⟨rfl,?_⟩
  exact(H2.out.setCell (p:=⟨W.heap.size+1+1+1+1,0,none⟩) (by show W.heap.size≤W.heap.size+1+1+1+1;omega) _).setCell (p:=⟨W.heap.size+1+1+1+1,1,none⟩) (by show W.heap.size≤W.heap.size+1+1+1+1;omega) _
 have q3:decide (tt < fr)=false:=by simp;omega
 clear b3
 by_cases b4:cols < tt
 ·have q4:decide (cols < tt)=true:=by simp;omega
  clear b4
  go_wp2
  refine bodyPost_ret (v:=.tuple #[.agg #[.int .i64 0,.slice none 0 0],.int .i64 1]) (by simp[results,Tryz.results200,go_sem,k4_0,k4_1]) rfl ⟨rfl,?_⟩
  exact(H2.out.setCell (p:=⟨W.heap.size+1+1+1+1,0,none⟩) (by show W.heap.size≤W.heap.size+1+1+1+1;omega) _).setCell (p:=⟨W.heap.size+1+1+1+1,1,none⟩) (by show W.heap.size≤W.heap.size+1+1+1+1;omega) _
 have q4:decide (cols < tt)=false:=by simp;omega
 clear b4
 have hm:m5=false:=by have h:=HK.out;rw[q2,q3,q4] at h;exact h
 subst hm
 have hraw:=qcv ⟨fg,bg,fl⟩ w2
 rw[A5.out] at hraw
 unfold At.agg at hraw
 have hcall:=hraw
 have HCALL:=hid hcall
 clear hcall
 go_wp2_with fail
 with_reducible refine HCALL.out.mono ?_
 rintro e w3 ⟨rfl,hb⟩
 dsimp only
 have BX3:=hid (BX2.out.below hb)
 have H3:=hid (H2.out.trans (hb.mono H2.out.size))
 have S3:=hid (Nat.le_trans S2.out hb.size)
 clear hb HCALL
 clear k0_0 k0_1 k1_0 k2_0 k3_0 k3_1 k3_2 k4_0 k4_1 f0_0 f0_1 f1_0 f2_0 f3_0 f3_1 f3_2 f4_0 f4_1
 obtain⟨⟨k0_0,k0_1⟩,f0_0,f0_1⟩:=(BX3.out.get 0 rfl).two
 have k1_0:=(BX3.out.get 1 rfl).cell 0
 have f1_0:=(BX3.out.get 1 rfl).free 0
 have k2_0:=(BX3.out.get 2 rfl).cell 0
 have f2_0:=(BX3.out.get 2 rfl).free 0
 obtain⟨⟨k3_0,k3_1,k3_2⟩,f3_0,f3_1,f3_2⟩:=(BX3.out.get 3 rfl).three
 obtain⟨⟨k4_0,k4_1⟩,f4_0,f4_1⟩:=(BX3.out.get 4 rfl).two
 clear hraw
 go_wp2
 refine bodyPost_ret (v:=.tuple #[.agg #[.int .i64 0,.slice none 0 0],.int .i64 1]) (by simp[results,Tryz.results200,go_sem,k4_0,k4_1]) rfl ⟨rfl,?_⟩
 exact(H3.out.setCell (p:=⟨W.heap.size+1+1+1+1,0,none⟩) (by show W.heap.size≤W.heap.size+1+1+1+1;omega) _).setCell (p:=⟨W.heap.size+1+1+1+1,1,none⟩) (by show W.heap.size≤W.heap.size+1+1+1+1;omega) _
theorem erase_yes (cols : Int) (r o m : Nat) (a : At) (v : Value) (lv : List (Ln × Value)) (cs : List Ce) (soft : Bool) (lvl : Value) (W : World) (hg : GIn W v lv) (hT : Tab W) (hW : TabW W) (hx : lv[r]? = some (⟨cs, soft⟩, lvl)) (a0 : qbd cols lv = true) (a1 : qcx r lv.length = true) (a4 : ((o + m : Nat) : Int) ≤ cols) (a5 : qab a = true) :
  Calls Tryz.prog 200 #[.agg #[.int .i64 cols,v],.int .i64 r,.int .i64 o,.int .i64 ((o+m:Nat):Int),a.agg] W (GYes W cols lv ((lv.map Prod.fst).set r ⟨qac 1 (qa2 cs o m a),soft⟩)):=by
 have hfit:=fits_iff.1 (qg2 a0 hx)
 simp only at hfit
 have hsz:=a0
 unfold qbd qbl at hsz
 rw[Bool.and_eq_true,Bool.and_eq_true,decide_eq_true_iff,decide_eq_true_iff] at hsz
 have hcs:cs.length≤1000:=by omega
 have hom:o+m≤cs.length:=by omega
 have hpos:0 < cs.length:=by omega
 obtain⟨A,c0,rfl⟩:=hg.lr.spell
 have HG:=hid hg
 have HTT:=hid hT
 have HWW:=hid hW
 have hchg:=fun w (bf bt ba:Nat) h1 h2 h3 hf ht ha=>erase_chg w.heap.size w cs soft o m a bf bt ba h1 h2 h3 hf ht ha hom hcs hpos
 have hlen:(qa2 cs o m a).length≤1000:=by rw[qai _ hom];exact hcs
 obtain⟨fg,bg,fl⟩:=a
 obtain⟨n,hn⟩:∃ n,lv.length=n:=⟨_,rfl⟩
 have HN:=hid hn
 have b0:=((((((Bxs.nil W).alloc 24 #[.int .i64 cols,.slice A n c0]).alloc 3 #[.int .i64 o]).alloc 3 #[.int .i64 ((o+m:Nat):Int)]).alloc 26 #[.int .i64 fg,.int .i64 bg,.int .i64 fl]).alloc 24 #[.int .i64 0,.slice none 0 0])
 simp only[World.size_alloc,List.nil_append,List.cons_append] at b0
 have h0:Below W.heap.size W (((((W.alloc (.cells #[.int .i64 cols,.slice A n c0] 24)).alloc (.cells #[.int .i64 o] 3)).alloc (.cells #[.int .i64 ((o+m:Nat):Int)] 3)).alloc (.cells #[.int .i64 fg,.int .i64 bg,.int .i64 fl] 26)).alloc (.cells #[.int .i64 0,.slice none 0 0] 24)):=(((((qa _ _).alloc (by simp <;> omega) _).alloc (by simp <;> omega) _).alloc (by simp <;> omega) _).alloc (by simp <;> omega) _)
 have s0:W.heap.size+1+1+1+1+1≤(((((W.alloc (.cells #[.int .i64 cols,.slice A n c0] 24)).alloc (.cells #[.int .i64 o] 3)).alloc (.cells #[.int .i64 ((o+m:Nat):Int)] 3)).alloc (.cells #[.int .i64 fg,.int .i64 bg,.int .i64 fl] 26)).alloc (.cells #[.int .i64 0,.slice none 0 0] 24)).heap.size:=by simp
 have BX0:=hid b0
 have H0:=hid h0
 have S0:=hid s0
 unfold qbd at a0
 rw[hn] at a0 a1 ⊢
 have A0:=hid a0
 have A1:=hid a1
 have A5:=hid a5
 have q2:(0:Int)≤o:=by omega
 have q3:(o:Int)≤((o+m:Nat):Int):=by omega
 have q4:((o+m:Nat):Int)≤cols:=a4
 have HX:=hid hx
 have HCH:=hid hchg
 have HPL:=hid hlen
 clear hg hT hW hn b0 h0 s0 a0 a1 a4 a5 hx hchg hcs hsz hfit hlen hom hpos
 unfold At.agg
 simp only
 generalize hq:o+m=q at *
 clear hq
 go_enter Tryz.func200,Tryz.ntmps200
 go_upto_region 1 with fail
 generalize (((((W.alloc (.cells #[.int .i64 cols,.slice A n c0] 24)).alloc (.cells #[.int .i64 o] 3)).alloc (.cells #[.int .i64 q] 3)).alloc (.cells #[.int .i64 fg,.int .i64 bg,.int .i64 fl] 26)).alloc (.cells #[.int .i64 0,.slice none 0 0] 24))=w0 at *
 obtain⟨⟨k0_0,k0_1⟩,f0_0,f0_1⟩:=(BX0.out.get 0 rfl).two
 have k1_0:=(BX0.out.get 1 rfl).cell 0
 have f1_0:=(BX0.out.get 1 rfl).free 0
 have k2_0:=(BX0.out.get 2 rfl).cell 0
 have f2_0:=(BX0.out.get 2 rfl).free 0
 obtain⟨⟨k3_0,k3_1,k3_2⟩,f3_0,f3_1,f3_2⟩:=(BX0.out.get 3 rfl).three
 obtain⟨⟨k4_0,k4_1⟩,f4_0,f4_1⟩:=(BX0.out.get 4 rfl).two
 have hraw:=qa7 cols _ lv w0 (HG.out.below H0.out).lr (HG.out.below H0.out).ces HG.out.sm (HTT.out.below H0.out) (HWW.out.below H0.out)
 rw[HN.out] at hraw
 rw[show (qbl cols n && qed cols lv)=_ from A0.out] at hraw
 have hcall:=hraw
 have HCALL:=hid hcall
 clear hcall
 go_wp2_with fail
 with_reducible refine HCALL.out.mono ?_
 rintro e w1 ⟨rfl,hb⟩
 dsimp only
 have BX1:=hid (BX0.out.below hb)
 have H1:=hid (H0.out.trans (hb.mono H0.out.size))
 have S1:=hid (Nat.le_trans S0.out hb.size)
 clear hb HCALL
 clear k0_0 k0_1 k1_0 k2_0 k3_0 k3_1 k3_2 k4_0 k4_1 f0_0 f0_1 f1_0 f2_0 f3_0 f3_1 f3_2 f4_0 f4_1
 obtain⟨⟨k0_0,k0_1⟩,f0_0,f0_1⟩:=(BX1.out.get 0 rfl).two
 have k1_0:=(BX1.out.get 1 rfl).cell 0
 have f1_0:=(BX1.out.get 1 rfl).free 0
 have k2_0:=(BX1.out.get 2 rfl).cell 0
 have f2_0:=(BX1.out.get 2 rfl).free 0
 obtain⟨⟨k3_0,k3_1,k3_2⟩,f3_0,f3_1,f3_2⟩:=(BX1.out.get 3 rfl).three
 obtain⟨⟨k4_0,k4_1⟩,f4_0,f4_1⟩:=(BX1.out.get 4 rfl).two
 clear hraw
 have hraw:=qbs cols r A n c0 w1
 rw[A1.out] at hraw
 have hcall:=hraw
 have HCALL:=hid hcall
 clear hcall
 go_wp2_with fail
 with_reducible refine HCALL.out.mono ?_
 rintro e w2 ⟨rfl,hb⟩
 dsimp only
 have BX2:=hid (BX1.out.below hb)
 have H2:=hid (H1.out.trans (hb.mono H1.out.size))
 have S2:=hid (Nat.le_trans S1.out hb.size)
 clear hb HCALL
 clear k0_0 k0_1 k1_0 k2_0 k3_0 k3_1 k3_2 k4_0 k4_1 f0_0 f0_1 f1_0 f2_0 f3_0 f3_1 f3_2 f4_0 f4_1
 obtain⟨⟨k0_0,k0_1⟩,f0_0,f0_1⟩:=(BX2.out.get 0 rfl).two
 have k1_0:=(BX2.out.get 1 rfl).cell 0
 have f1_0:=(BX2.out.get 1 rfl).free 0
 have k2_0:=(BX2.out.get 2 rfl).cell 0
 have f2_0:=(BX2.out.get 2 rfl).free 0
 obtain⟨⟨k3_0,k3_1,k3_2⟩,f3_0,f3_1,f3_2⟩:=(BX2.out.get 3 rfl).three
 obtain⟨⟨k4_0,k4_1⟩,f4_0,f4_1⟩:=(BX2.out.get 4 rfl).two
 clear hraw
 have hraw:=qcv ⟨fg,bg,fl⟩ w2
 rw[A5.out] at hraw
 unfold At.agg at hraw
 have hcall:=hraw
 have HCALL:=hid hcall
 clear hcall
 go_wp2_with fail
 with_reducible refine HCALL.out.mono ?_
 rintro e w3 ⟨rfl,hb⟩
 dsimp only
 have BX3:=hid (BX2.out.below hb)
 have H3:=hid (H2.out.trans (hb.mono H2.out.size))
 have S3:=hid (Nat.le_trans S2.out hb.size)
 clear hb HCALL
 clear k0_0 k0_1 k1_0 k2_0 k3_0 k3_1 k3_2 k4_0 k4_1 f0_0 f0_1 f1_0 f2_0 f3_0 f3_1 f3_2 f4_0 f4_1
 obtain⟨⟨k0_0,k0_1⟩,f0_0,f0_1⟩:=(BX3.out.get 0 rfl).two
 have k1_0:=(BX3.out.get 1 rfl).cell 0
 have f1_0:=(BX3.out.get 1 rfl).free 0
 have k2_0:=(BX3.out.get 2 rfl).cell 0
 have f2_0:=(BX3.out.get 2 rfl).free 0
 obtain⟨⟨k3_0,k3_1,k3_2⟩,f3_0,f3_1,f3_2⟩:=(BX3.out.get 3 rfl).three
 obtain⟨⟨k4_0,k4_1⟩,f4_0,f4_1⟩:=(BX3.out.get 4 rfl).two
 clear hraw
 have hin:=HG.out.below H3.out
 have hcall:=qdw cols _ lv r 226 #[.pointer (some ⟨W.heap.size+1,0,none⟩),.pointer (some ⟨W.heap.size+1+1,0,none⟩),.pointer (some ⟨W.heap.size+1+1+1,0,none⟩)] w3 cs _ soft soft lvl hin.lr hin.ces hin.sm HX.out (HCH.out w3 _ _ _ (by have:=S3.out;omega) (by have:=S3.out;omega) (by have:=S3.out;omega) (BX3.out.get 1 rfl) (BX3.out.get 2 rfl) (BX3.out.get 3 rfl)) (HPL.out)
 rw[HN.out] at hcall
 have HCALL:=hid hcall
 clear hcall hin HCH
 go_wp2_with fail
 with_reducible refine HCALL.out.mono ?_
 rintro e w4 ⟨v5,lv5,rfl,hm5,hl5,hn5,hb5⟩
 dsimp only
 have BX4:=hid (BX3.out.below hb5)
 have H4:=hid (H3.out.trans (hb5.mono H3.out.size))
 obtain⟨A5,c5,hs5⟩:=hl5.spell
 subst hs5
 have HM5:=hid hm5
 have HL5:=hid hl5
 have HN5:=hid hn5
 clear hm5 hl5 hn5 hb5 HCALL
 clear k0_0 k0_1 k1_0 k2_0 k3_0 k3_1 k3_2 k4_0 k4_1 f0_0 f0_1 f1_0 f2_0 f3_0 f3_1 f3_2 f4_0 f4_1
 obtain⟨⟨k0_0,k0_1⟩,f0_0,f0_1⟩:=(BX4.out.get 0 rfl).two
 have k1_0:=(BX4.out.get 1 rfl).cell 0
 have f1_0:=(BX4.out.get 1 rfl).free 0
 have k2_0:=(BX4.out.get 2 rfl).cell 0
 have f2_0:=(BX4.out.get 2 rfl).free 0
 obtain⟨⟨k3_0,k3_1,k3_2⟩,f3_0,f3_1,f3_2⟩:=(BX4.out.get 3 rfl).three
 obtain⟨⟨k4_0,k4_1⟩,f4_0,f4_1⟩:=(BX4.out.get 4 rfl).two
 have hm3:=(BX4.out.get 4 rfl)
 have HM3:=hid hm3
 clear hm3
 go_wp2
 refine bodyPost_ret (v:=.tuple #[.agg #[.int .i64 cols,.slice A5 lv5.length c5],.int .i64 0]) (by simp[results,Tryz.results200,go_sem,k4_0,k4_1]) rfl ?_
 exact qgi HM5.out HL5.out HN5.out H3.out.size H4.out HM3.out (by show W.heap.size≤W.heap.size+1+1+1+1;omega) rfl
end Go.Proofs.YtpdaekmbpafenaaGreatDoor
