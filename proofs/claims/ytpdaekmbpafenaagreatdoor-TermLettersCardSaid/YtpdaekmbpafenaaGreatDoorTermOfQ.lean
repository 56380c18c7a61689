
import Derived.Test.YtpdaekmbpafenaaGreatDoorTermHQ
import Derived.Test.YtpdaekmbpafenaaGreatDoorGridMnQ
import Derived.Test.YtpdaekmbpafenaaGreatDoorTermWQ
import Derived.Test.YtpdaekmbpafenaaGreatDoorBackPQ
import Derived.Test.YtpdaekmbpafenaaGreatDoorCellYaQ
namespace Go.Proofs.YtpdaekmbpafenaaGreatDoor
set_option maxHeartbeats 4000000
set_option maxRecDepth 100000
open Go.RowKit
section
variable {M:World→Value→Prop} {b:Nat} {mv:Value} {t:Tm} {W:World}
theorem TAt.unswap (h : TAt M b mv t W) {A : Option Addr} {n c : Nat} {lv : List (Ln × Value)} (hg : GRow b W (.slice A n c) lv t.main.ls) :
  TAt M b mv { t with g:=t.main,main:=⟨0,[]⟩,alt:=false } (((((W.setCell ⟨b,0,none⟩ (.int .i64 t.main.cols)).setCell ⟨b,1,none⟩ (.slice A n c)).setCell ⟨b,3,none⟩ (.int .i64 0)).setCell ⟨b,4,none⟩ (.slice none 0 0)).setCell ⟨b,2,none⟩ (.bool false)) ∧
  But b W (((((W.setCell ⟨b,0,none⟩ (.int .i64 t.main.cols)).setCell ⟨b,1,none⟩ (.slice A n c)).setCell ⟨b,3,none⟩ (.int .i64 0)).setCell ⟨b,4,none⟩ (.slice none 0 0)).setCell ⟨b,2,none⟩ (.bool false)):=by
 have h1:=h.s_grid (g:=t.main) hg
 have h2:=h1.1.s_mcols 0
 have h3:=h2.s_m (v:=.slice none 0 0) (GRow.nil _ _ 0)
 have h4:=h3.s_alt false
 exact⟨h4,((h1.2.set _).set _).set _⟩
theorem TAt.swap (h : TAt M b mv t W) {A : Option Addr} {n c : Nat} {lv : List (Ln × Value)} {g : Gd} (hg : GRow b W (.slice A n c) lv g.ls) {A' : Option Addr} {n' c' : Nat} {lv' : List (Ln × Value)} (hm : GRow b W (.slice A' n' c') lv' t.g.ls) :
  TAt M b mv { t with g:=g,main:=t.g,alt:=true } (((((W.setCell ⟨b,0,none⟩ (.int .i64 g.cols)).setCell ⟨b,1,none⟩ (.slice A n c)).setCell ⟨b,3,none⟩ (.int .i64 t.g.cols)).setCell ⟨b,4,none⟩ (.slice A' n' c')).setCell ⟨b,2,none⟩ (.bool true)) ∧
  But b W (((((W.setCell ⟨b,0,none⟩ (.int .i64 g.cols)).setCell ⟨b,1,none⟩ (.slice A n c)).setCell ⟨b,3,none⟩ (.int .i64 t.g.cols)).setCell ⟨b,4,none⟩ (.slice A' n' c')).setCell ⟨b,2,none⟩ (.bool true)):=by
 have h1:=h.s_grid (g:=g) hg
 have h2:=h1.1.s_mcols t.g.cols
 have h3:=h2.s_m (hm.but (h1.2.set _))
 have h4:=h3.s_alt true
 exact⟨h4,((h1.2.set _).set _).set _⟩
theorem qic (h : TAt M b mv t W) (on : Bool) (ha : t.alt = on) :
  Calls Tryz.prog 208 #[.pointer (some ⟨b,0,none⟩),.bool on] W (qu M b mv W t):=by
 obtain⟨k2,_⟩:=h.c_alt
 rw[ha] at k2
 have HT:=hid h
 clear h ha
 cases on
 ·go_enter Tryz.func208,Tryz.ntmps208
  go_wp2
  go_end0
  exact⟨rfl,HT.out,But.refl b W⟩
 ·go_enter Tryz.func208,Tryz.ntmps208
  go_wp2
  go_end0
  exact⟨rfl,HT.out,But.refl b W⟩
theorem qm5 (h : TAt M b mv t W) (hr : RightT t) (ha : t.alt = true) :
  Calls Tryz.prog 208 #[.pointer (some ⟨b,0,none⟩),.bool false] W (qu M b mv W (qco { t with g:=t.main,main:=⟨0,[]⟩,alt:=false })):=by
 have ⟨k2,f2⟩:=h.c_alt
 rw[ha] at k2
 have ⟨k3,f3⟩:=h.c_mcols
 obtain⟨A,c,lv,⟨k4,f4⟩,_,hg⟩:=h.c_m
 have ⟨k0,f0⟩:=h.c_cols
 obtain⟨_,_,_,⟨k1,f1⟩,_⟩:=h.c_g
 have hs:=h.unswap hg
 have HE:=hid (qh9 hs.1 (hr.main1 ha).1)
 have HB:=hid hs.2
 generalize t.main.ls.length=N at *
 clear h hr ha hg hs
 go_enter Tryz.func208,Tryz.ntmps208
 go_wp2_with ((with_reducible refine HE.out.mono ?_);rintro e wn ⟨rfl,h3,h4⟩)
 go_end0
 exact⟨rfl,h3,HB.out.trans h4⟩
def NewCut (W:World) (cols:Nat) (tgt:List Ln) (p x:Value) (wx:World):Prop :=
 ∃ A k c lv s,NewG W wx p cols (.slice A k c) s∧x=.int .i64 0∧lv.map Prod.fst=tgt∧LR wx (.slice A k c) lv∧CesOf wx lv
theorem showOther_on (h : TAt M b mv t W) (hr : RightT t) (ha : t.alt = false) :
  Calls Tryz.prog 208 #[.pointer (some ⟨b,0,none⟩),.bool true] W (qu M b mv W { qhr t with main:=t.g,g:=qf8 t.g.cols t.rows .no,alt:=true,late:=false }):=by
 have ⟨k2,f2⟩:=h.c_alt
 rw[ha] at k2
 have ⟨k0,f0⟩:=h.c_cols
 obtain⟨A,c,lv,⟨k1,f1⟩,_,hg⟩:=h.c_g
 have hbd:=qd hr.g
 obtain⟨CC,hCC⟩:∃ CC:Nat,t.g.cols=CC:=⟨t.g.cols.toNat,by omega⟩
 have hnew:(qf8 t.g.cols t.rows .no)=⟨t.g.cols,List.replicate t.g.ls.length (qbe CC ⟨0,0,0⟩)⟩:=by
  unfold qf8 Tm.rows
  rw[Int.toNat_natCast,hCC,Int.toNat_natCast]
  rfl
 rw[hnew]
 have hsz:qbl CC t.g.ls.length=true:=by
  unfold qbl
  rw[Bool.and_eq_true,decide_eq_true_iff,decide_eq_true_iff]
  omega
 have hrn:qm ⟨t.g.cols,List.replicate t.g.ls.length (qbe CC ⟨0,0,0⟩)⟩=true:=by rw[← hnew];exact rg_new ⟨hbd.1,hbd.2.1⟩ (by unfold Tm.rows;omega) qep
 have HRN:=hid hrn
 have HT:=hid h
 have HG:=hid hg
 have HR:=hid hr
 obtain⟨N,hN⟩:∃ N,t.g.ls.length=N:=⟨_,rfl⟩
 rw[hN] at k1 hsz HG HRN ⊢
 rw[hCC] at k0
 have HSZ:=hid hsz
 have HN:=hid hN
 have HCC:=hid hCC
 have hlt:=h.lt
 clear h hr ha hg hbd hnew hrn hN hCC hsz
 go_enter Tryz.func208,Tryz.ntmps208
 go_upto_region 4 with fail
 go_cut [4,5] (fun p x wx=>NewCut W CC (List.replicate N (qbe CC ⟨0,0,0⟩)) p x wx)
 case first =>
  have hS0:Below W.heap.size W _:=qf W 1
  refine qh (fun _ w'=>Below W.heap.size W w') (by kernel_rfl) ?_
  refine tC 0 hS0 ?_
  refine tC 1 hS0 ?_
  refine tC 2 hS0 ?_
  refine tC 3 hS0 ?_
  refine tC 4 hS0 ?_
  refine tC 5 hS0 ?_ (hy:=fun w' hw'=>by obtain⟨hc,hf⟩:=qag hw';go_simp;try with_reducible rfl)
  refine tC 6 hS0 ?_
  refine tC 7 hS0 ?_
  refine tC 8 hS0 ?_
  refine tC 9 hS0 ?_
  refine tC 10 hS0 ?_
  refine tC 11 hS0 ?_ (hy:=fun w' hw'=>by obtain⟨hc,hf⟩:=qag hw';go_simp;try with_reducible rfl)
  refine tC 12 hS0 ?_
  refine qio (k1:=13) (k2:=17) (by kernel_rfl) rfl rfl (by rfl) (by rfl) (fun K hK=>?_) (fun K hK=>?_)
  ·go_simp
   go_at_call 23
   refine(new_yes CC N _ HSZ.out).mono ?_
   rintro e w9 ⟨v2,lv2,rfl,q1,q2,q3,hb⟩
   dsimp only
   obtain⟨A2,c2,hv2⟩:=q2.spell
   subst hv2
   have HQ:=hid (And.intro q1 (And.intro q2.row (show CesOf w9 lv2 from fun x hx=>(q3 x hx).row)))
   clear q1 q2 q3
   have HB:=hid hb
   have hS1:=hS0.trans (hb.mono hS0.size)
   have HB9:=hid hS1
   refine hK _ _ hS1 ?_
   clear hK K
   (try simp only[zT]);(try simp only[zA]);(try simp only[zS]);(try simp only[zZ])
   clear hS0 hb
   have hS0:=hS1
   clear hS1
   refine tC 14 hS0 ?_
   refine tC 15 hS0 ?_
   refine tC 16 hS0 ?_
   refine qz (k:=17) (by kernel_rfl) rfl (by rfl) (fun K hK=>?_)
   go_simp
   have HB0:=hid hS0
   have hS1:=hS0.alloc hS0.size gz
   refine hK _ _ hS1 ?_
   clear hK K
   (try simp only[zT]);(try simp only[zA]);(try simp only[zS]);(try simp only[zZ])
   clear hS0
   have hS0:=hS1
   clear hS1
   refine qz (k:=18) (by kernel_rfl) rfl (by rfl) (fun K hK=>?_)
   go_simp
   have hS1:=HB9.out.alloc HB9.out.size (.cells #[.int .i64 CC,.slice A2 lv2.length c2] 24)
   refine hK _ _ hS1 ?_
   clear hK K
   (try simp only[zT]);(try simp only[zA]);(try simp only[zS]);(try simp only[zZ])
   clear hS0
   have hS0:=hS1
   clear hS1
   refine tC 19 hS0 ?_
   refine qal (by kernel_rfl) ?_ _
   go_wp2_with fail
   go_meet
   have hn:=qhf (cols:=CC) (v:=.slice A2 lv2.length c2) HB9.out
   exact⟨A2,_,c2,lv2,_,hn.1,rfl,HQ.out.1,hn.2.1 _ _ HQ.out.2.1,hn.2.ces HQ.out.2.2⟩
  ·go_simp
   have HB0:=hid hS0
   have hS1:=hS0.alloc hS0.size gz
   refine hK _ _ hS1 ?_
   clear hK K
   (try simp only[zT]);(try simp only[zA]);(try simp only[zS]);(try simp only[zZ])
   clear hS0
   have hS0:=hS1
   clear hS1
   refine qz (k:=13) (by kernel_rfl) rfl (by rfl) (fun K hK=>?_)
   go_simp
   go_at_call 23
   refine(new_yes CC N _ HSZ.out).mono ?_
   rintro e w9 ⟨v2,lv2,rfl,q1,q2,q3,hb⟩
   dsimp only
   obtain⟨A2,c2,hv2⟩:=q2.spell
   subst hv2
   have HQ:=hid (And.intro q1 (And.intro q2.row (show CesOf w9 lv2 from fun x hx=>(q3 x hx).row)))
   clear q1 q2 q3
   have hz:Box w9 W.heap.size 24 #[.int .i64 0,.slice none 0 0]:=(Box.new W.drew _ _).below hb (by simp)
   obtain⟨⟨z0,z1⟩,y0,y1⟩:=hz.two
   clear hz
   have HB:=hid hb
   have hS1:=hS0.trans (hb.mono hS0.size)
   have HB9:=hid hS1
   refine hK _ _ hS1 ?_
   clear hK K
   (try simp only[zT]);(try simp only[zA]);(try simp only[zS]);(try simp only[zZ])
   clear hS0 hb
   have hS0:=hS1
   clear hS1
   refine tC 14 hS0 ?_
   refine tC 15 hS0 ?_
   refine tC 16 hS0 ?_
   refine qz (k:=18) (by kernel_rfl) rfl (by rfl) (fun K hK=>?_)
   go_simp
   have hS1:=(hS0.setCell (p:=⟨W.heap.size,0,none⟩) (Nat.le_refl _) (.int .i64 CC)).setCell (p:=⟨W.heap.size,1,none⟩) (Nat.le_refl _) (.slice A2 lv2.length c2)
   refine hK _ _ hS1 ?_
   clear hK K
   (try simp only[zT]);(try simp only[zA]);(try simp only[zS]);(try simp only[zZ])
   clear hS0
   have hS0:=hS1
   clear hS1
   refine tC 19 hS0 ?_
   refine qal (by kernel_rfl) ?_ _
   go_wp2_with fail
   go_meet
   have hn:=qb7 (cols:=CC) (v:=.slice A2 lv2.length c2) (show Below W.heap.size W W.drew from qf W 1) HB.out
   exact⟨A2,_,c2,lv2,_,hn.1,rfl,HQ.out.1,hn.2.1 _ _ HQ.out.2.1,hn.2.ces HQ.out.2.2⟩
 case rest =>
  obtain⟨A2,k2',c2,lv2,s,hng,rfl,q1,q2,q3⟩:=hcut
  obtain⟨rfl,hs,hbx,hbel⟩:=hng
  have hT2:=HT.out.below hbel
  have HSV:=hid (qml hT2)
  have HB0:=hid (But.of_below (b:=b) hbel)
  have hsb:s≠b:=by omega
  have hgr:=hT2.grow HR.out.g q2 q3 q1 (qdg HRN.out q1).2
  have hlt2:=hT2.lt
  clear hT2 q1 q2 q3 k0 k1 k2 f0 f1 f2 hbel
  go_wp2_with fail
  with_reducible refine HSV.out.mono ?_
  rintro e w3 ⟨rfl,h3,hb3⟩
  dsimp only
  have hbx3:=hbx.but hb3 hsb
  have hgr3:=hgr.but hb3
  obtain⟨A3,c3,lv3,⟨j1,g1⟩,_,hgo3⟩:=h3.c_g
  change w3.cell? ⟨b,1,none⟩=some (.slice A3 t.g.ls.length c3) at j1
  change GRow b w3 (.slice A3 t.g.ls.length c3) lv3 t.g.ls at hgo3
  rw[HN.out] at j1 hgo3
  have hsw:=h3.swap (g:=⟨CC,List.replicate N (qbe CC ⟨0,0,0⟩)⟩) hgr3 (n':=N) hgo3
  rw[show (qhr t).g.cols=(CC:Int) from HCC.out] at hsw
  have HST:=hid (qcg hsw.1.drew)
  have HBT:=hid hsw.2.drew
  have HX3:=hid h3
  have HBX3:=hid hbx3
  have HB3:=hid hb3
  clear hbx hgr hb3 hbx3 hgr3 hgo3 h3 hsw HSV
  have r0:=HBX3.out.cell 0
  have r1:=HBX3.out.cell 1
  have hs3:=HBX3.out.lt
  have hb3l:=HX3.out.lt
  have j0:w3.cell? ⟨b,0,none⟩=some (.int .i64 CC):=by rw[← HCC.out];exact HX3.out.c_cols.1
  have g0:=HX3.out.c_cols.2
  have ⟨j3,g3⟩:=HX3.out.c_mcols
  obtain⟨_,_,_,⟨j4,g4⟩,_⟩:=HX3.out.c_m
  have ⟨j2,g2⟩:=HX3.out.c_alt
  go_wp2_with fail
  have hS0:Below w3.heap.size w3 _:=qf w3 1
  refine qh (qcy 12 (fun w'=>Below w3.heap.size w3 w')) (by kernel_rfl) ?_
  refine tN 0 (fun _=>hS0) ?_
  refine tN 1 (fun _=>hS0) ?_
  refine tN 2 (fun _=>hS0) ?_
  refine tG 3 (fun _=>hS0) ?_ (hy:=fun w' hw'=>by obtain⟨hc,hf⟩:=qag hw';go_simp;try with_reducible rfl)
  refine tN 4 (fun _=>hS0) ?_
  refine tN 5 (fun _=>hS0) ?_
  refine tN 6 (fun _=>hS0) ?_
  refine tN 7 (fun _=>hS0) ?_
  refine tG 8 (fun _=>hS0) ?_ (hy:=fun w' hw'=>by obtain⟨hc,hf⟩:=qag hw';go_simp;try with_reducible rfl)
  refine tN 9 (fun _=>hS0) ?_
  refine tN 10 (fun _=>hS0) ?_
  refine tN 11 (fun _=>hS0) ?_
  refine qz (k:=12) (by kernel_rfl) rfl (by rfl) (fun K hK=>?_)
  go_simp
  refine hK _ _ (fun h=>(by simp at h)) ?_
  clear hK K
  (try simp only[zT]);(try simp only[zA]);(try simp only[zS]);(try simp only[zZ])
  refine tN 13 (fun h=>(by simp at h)) ?_
  refine tN 14 (fun h=>(by simp at h)) ?_
  refine tN 15 (fun h=>(by simp at h)) ?_
  refine qz (k:=16) (by kernel_rfl) rfl (by rfl) (fun K hK=>?_)
  go_simp
  refine hK _ _ (fun h=>(by simp at h)) ?_
  clear hK K
  (try simp only[zT]);(try simp only[zA]);(try simp only[zS]);(try simp only[zZ])
  refine tN 17 (fun h=>(by simp at h)) ?_
  refine tN 18 (fun h=>(by simp at h)) ?_
  refine tN 19 (fun h=>(by simp at h)) ?_
  refine qz (k:=20) (by kernel_rfl) rfl (by rfl) (fun K hK=>?_)
  go_simp
  refine hK _ _ (fun h=>(by simp at h)) ?_
  clear hK K
  (try simp only[zT]);(try simp only[zA]);(try simp only[zS]);(try simp only[zZ])
  refine qal (by kernel_rfl) ?_ _
  go_wp2_with ((with_reducible refine HST.out.mono ?_);rintro e wn ⟨rfl,h5,h6⟩)
  go_end0
  rw[← HCC.out] at h5
  exact⟨rfl,h5,((HB0.out.trans HB3.out).trans HBT.out).trans h6⟩
theorem qcw (h : TAt M b mv t W) (hr : RightT t) (on : Bool) :
  Calls Tryz.prog 208 #[.pointer (some ⟨b,0,none⟩),.bool on] W (qu M b mv W (qhs t on)):=by
 unfold qhs
 cases on
 ·rw[if_neg (by simp)]
  cases ha:t.alt
  ·rw[if_neg (by simp)]
   exact qic h false ha
  ·rw[if_pos ⟨rfl,rfl⟩]
   exact qm5 h hr ha
 ·cases ha:t.alt
  ·rw[if_pos ⟨rfl,rfl⟩]
   exact showOther_on h hr ha
  ·rw[if_neg (by simp),if_neg (by simp)]
   exact qic h true ha
def qeb (t:Tm) (on:Bool) (l:List Int):Tm:=l.foldl (fun t n=>qdv t on n) t
theorem qmu (t:Tm) (on:Bool) (l:List Int) (n:Int):qeb t on (l ++ [n])=qdv (qeb t on l) on n:=by unfold qeb;rw[List.foldl_append];rfl
theorem priv_true (M : World → Value → Prop) (b : Nat) (mv : Value) (t : Tm) (W : World) (v : Value) (l : List Int) (h : TAt M b mv t W) (hr : RightT t) (hp : IRow W v l) (hof : l ≠ [] → qcq b v) (hl : ParsOk l) :
  Calls Tryz.prog 170 #[.pointer (some ⟨b,0,none⟩),v,.bool true] W (qu M b mv W (qeb t true l)):=by
 have HOF:=hid hof
 have HT:=hid h
 have HRR:=hid (fun l=>qfx true l hr)
 have hn:=hl.1
 obtain⟨A,c,rfl,hrow⟩:=hp
 have HROW:=hid hrow
 obtain⟨N,hN⟩:∃ N,l.length=N:=⟨_,rfl⟩
 have HN:=hid hN
 rw[hN] at hn HOF ⊢
 clear h hof hl hrow hN hr
 go_enter Tryz.func170,Tryz.ntmps170
 go_wp2
 go_loopw [10] (fun i wr=>∃ k:Nat,k≤N∧i=.int .i64 k∧TAt M b mv (qeb t true (l.take k)) wr∧But b W wr) (fun i _=>N - (intOf i).toNat)
 case atStart=>exact⟨0,by omega,rfl,by rw[List.take_zero];exact HT.out,But.refl b W⟩
 case round =>
  obtain⟨k,hk,rfl,hT,hB⟩:=hrel
  by_cases hlt:k < N
  ·have hlk:k < l.length:=by rw[HN.out];exact hlt
   obtain⟨ad,rfl,hab,hac⟩:=HROW.out (by rintro rfl;simp at hlk)
   have hx:=hac k _ (List.getElem?_eq_getElem hlk)
   have hne:ad.block≠b:=HOF.out (by rintro rfl;simp at hlk) _ _ _ rfl
   have hx2:=(hB.cell (p:=ad.add k) (by rw[qdf];exact hab) (by rw[qdf];exact hne)).trans hx
   have hts:l.take (k+1)=l.take k ++ [l[k]]:=List.take_succ_eq_append_getElem hlk
   have hst:=qmu t true (l.take k) l[k]
   rw[← hts] at hst
   have hru:RightT (qeb t true (l.take k)):=HRR.out _
   generalize l[k]=x at *
   have HS:=hid hst
   clear hst hac hx hts
   generalize qeb t true (l.take k)=u at *
   have hki:(k:Int) < N:=by omega
   have hk3:(k:Int)≤1000:=by omega
   have HU:=hid hT
   have HBB:=hid hB
   have HRU:=hid hru
   clear hT hB hne hab hru
   have hx6:x=6∨x=7∨x=25∨x=47∨x=1047∨x=1049∨(x≠6∧x≠7∧x≠25∧x≠47∧x≠1047∧x≠1049):=by omega
   rcases hx6 with rfl | rfl | rfl | rfl | rfl | rfl | ⟨e1,e2,e3,e4,e5,e6⟩
   ·have ⟨_,f19⟩:=HU.out.c_og
    have ⟨j19,_⟩:=HU.out.c_og
    have hs:=HU.out.s_og true
    have HC:=hid (qjv hs HRU.out.g)
    have HB6:=hid (HBB.out.set (i:=19) (.bool true))
    clear hs
    go_wp2_with ((with_reducible refine HC.out.mono ?_);rintro e wn ⟨rfl,h3,h4⟩)
    go_roundw
    case rel=>exact⟨k+1,by omega,by go_num,by rw[HS.out];exact h3,HB6.out.trans h4⟩
    case measure=>simp[intOf];omega
   ·have ⟨j20,f20⟩:=HU.out.c_wr
    have ⟨j7,f7⟩:=HU.out.c_late
    cases hlv:u.late
    ·rw[hlv] at j7
     have HE:=hid ((HU.out.s_wr true).s_late false)
     have hm:qdv u true 7={ u with wr:=true,late:=false }:=by
      show { u with wr:=true,late:=u.late && true }=_
      rw[hlv]
      rfl
     have HM:=hid (HS.out.trans hm)
     have HB7:=hid ((HBB.out.set (i:=20) (.bool true)).set (i:=7) (.bool false))
     clear hlv hm
     go_wp2
     go_roundw
     case rel=>exact⟨k+1,by omega,by go_num,by rw[HM.out];exact HE.out,HB7.out⟩
     case measure=>simp[intOf];omega
    ·rw[hlv] at j7
     have HE:=hid ((HU.out.s_wr true).s_late true)
     have hm:qdv u true 7={ u with wr:=true,late:=true }:=by
      show { u with wr:=true,late:=u.late && true }=_
      rw[hlv]
      rfl
     have HM:=hid (HS.out.trans hm)
     have HB7:=hid ((HBB.out.set (i:=20) (.bool true)).set (i:=7) (.bool true))
     clear hlv hm
     go_wp2
     go_roundw
     case rel=>exact⟨k+1,by omega,by go_num,by rw[HM.out];exact HE.out,HB7.out⟩
     case measure=>simp[intOf];omega
   ·have ⟨j22,f22⟩:=HU.out.c_hd
    have HE:=hid (HU.out.s_hd false)
    have HB25:=hid (HBB.out.set (i:=22) (.bool false))
    go_wp2
    go_roundw
    case rel=>exact⟨k+1,by omega,by go_num,by rw[HS.out];exact HE.out,HB25.out⟩
    case measure=>simp[intOf];omega
   ·have HC:=hid (qcw HU.out HRU.out true)
    go_wp2_with ((with_reducible refine HC.out.mono ?_);rintro e wn ⟨rfl,h3,h4⟩)
    go_roundw
    case rel=>exact⟨k+1,by omega,by go_num,by rw[HS.out];exact h3,HBB.out.trans h4⟩
    case measure=>simp[intOf];omega
   ·have HC:=hid (qcw HU.out HRU.out true)
    go_wp2_with ((with_reducible refine HC.out.mono ?_);rintro e wn ⟨rfl,h3,h4⟩)
    go_roundw
    case rel=>exact⟨k+1,by omega,by go_num,by rw[HS.out];exact h3,HBB.out.trans h4⟩
    case measure=>simp[intOf];omega
   ·have HC:=hid (qcw HU.out HRU.out true)
    go_wp2_with ((with_reducible refine HC.out.mono ?_);rintro e wn ⟨rfl,h3,h4⟩)
    go_roundw
    case rel=>exact⟨k+1,by omega,by go_num,by rw[HS.out];exact h3,HBB.out.trans h4⟩
    case measure=>simp[intOf];omega
   ·have hm : qdv u true x = u := by
     unfold qdv
     rw[if_neg e1,if_neg e2,if_neg e3,if_neg (by omega)]
    have HM:=hid (HS.out.trans hm)
    have n1:(x == 6)=false:=by simpa using e1
    have n2:(x == 7)=false:=by simpa using e2
    have n3:(x == 25)=false:=by simpa using e3
    have n4:(x == 47)=false:=by simpa using e4
    have n5:(x == 1047)=false:=by simpa using e5
    have n6:(x == 1049)=false:=by simpa using e6
    clear hm e1 e2 e3 e4 e5 e6
    go_wp2
    go_roundw
    case rel=>exact⟨k+1,by omega,by go_num,by rw[HM.out];exact HU.out,HBB.out⟩
    case measure=>simp[intOf];omega
  ·have HF:=hid (show TAt M b mv (qeb t true l) wr by have:=hT;rw[List.take_of_length_le (by rw[HN.out];omega)] at this;exact this)
   have HBB:=hid hB
   clear hT hB
   go_wp2
   go_end0
   exact⟨rfl,HF.out,HBB.out⟩
theorem priv_false (M : World → Value → Prop) (b : Nat) (mv : Value) (t : Tm) (W : World) (v : Value) (l : List Int) (h : TAt M b mv t W) (hr : RightT t) (hp : IRow W v l) (hof : l ≠ [] → qcq b v) (hl : ParsOk l) :
  Calls Tryz.prog 170 #[.pointer (some ⟨b,0,none⟩),v,.bool false] W (qu M b mv W (qeb t false l)):=by
 have HOF:=hid hof
 have HT:=hid h
 have HRR:=hid (fun l=>qfx false l hr)
 have hn:=hl.1
 obtain⟨A,c,rfl,hrow⟩:=hp
 have HROW:=hid hrow
 obtain⟨N,hN⟩:∃ N,l.length=N:=⟨_,rfl⟩
 have HN:=hid hN
 rw[hN] at hn HOF ⊢
 clear h hof hl hrow hN hr
 go_enter Tryz.func170,Tryz.ntmps170
 go_wp2
 go_loopw [10] (fun i wr=>∃ k:Nat,k≤N∧i=.int .i64 k∧TAt M b mv (qeb t false (l.take k)) wr∧But b W wr) (fun i _=>N - (intOf i).toNat)
 case atStart=>exact⟨0,by omega,rfl,by rw[List.take_zero];exact HT.out,But.refl b W⟩
 case round =>
  obtain⟨k,hk,rfl,hT,hB⟩:=hrel
  by_cases hlt:k < N
  ·have hlk:k < l.length:=by rw[HN.out];exact hlt
   obtain⟨ad,rfl,hab,hac⟩:=HROW.out (by rintro rfl;simp at hlk)
   have hx:=hac k _ (List.getElem?_eq_getElem hlk)
   have hne:ad.block≠b:=HOF.out (by rintro rfl;simp at hlk) _ _ _ rfl
   have hx2:=(hB.cell (p:=ad.add k) (by rw[qdf];exact hab) (by rw[qdf];exact hne)).trans hx
   have hts:l.take (k+1)=l.take k ++ [l[k]]:=List.take_succ_eq_append_getElem hlk
   have hst:=qmu t false (l.take k) l[k]
   rw[← hts] at hst
   have hru:RightT (qeb t false (l.take k)):=HRR.out _
   generalize l[k]=x at *
   have HS:=hid hst
   clear hst hac hx hts
   generalize qeb t false (l.take k)=u at *
   have hki:(k:Int) < N:=by omega
   have hk3:(k:Int)≤1000:=by omega
   have HU:=hid hT
   have HBB:=hid hB
   have HRU:=hid hru
   clear hT hB hne hab hru
   have hx6:x=6∨x=7∨x=25∨x=47∨x=1047∨x=1049∨(x≠6∧x≠7∧x≠25∧x≠47∧x≠1047∧x≠1049):=by omega
   rcases hx6 with rfl | rfl | rfl | rfl | rfl | rfl | ⟨e1,e2,e3,e4,e5,e6⟩
   ·have ⟨_,f19⟩:=HU.out.c_og
    have ⟨j19,_⟩:=HU.out.c_og
    have hs:=HU.out.s_og false
    have HC:=hid (qjv hs HRU.out.g)
    have HB6:=hid (HBB.out.set (i:=19) (.bool false))
    clear hs
    go_wp2_with ((with_reducible refine HC.out.mono ?_);rintro e wn ⟨rfl,h3,h4⟩)
    go_roundw
    case rel=>exact⟨k+1,by omega,by go_num,by rw[HS.out];exact h3,HB6.out.trans h4⟩
    case measure=>simp[intOf];omega
   ·have ⟨j20,f20⟩:=HU.out.c_wr
    have ⟨j7,f7⟩:=HU.out.c_late
    cases hlv:u.late
    ·rw[hlv] at j7
     have HE:=hid ((HU.out.s_wr false).s_late false)
     have hm:qdv u false 7={ u with wr:=false,late:=false }:=by
      show { u with wr:=false,late:=u.late && false }=_
      rw[hlv]
      rfl
     have HM:=hid (HS.out.trans hm)
     have HB7:=hid ((HBB.out.set (i:=20) (.bool false)).set (i:=7) (.bool false))
     clear hlv hm
     go_wp2
     go_roundw
     case rel=>exact⟨k+1,by omega,by go_num,by rw[HM.out];exact HE.out,HB7.out⟩
     case measure=>simp[intOf];omega
    ·rw[hlv] at j7
     have HE:=hid ((HU.out.s_wr false).s_late false)
     have hm:qdv u false 7={ u with wr:=false,late:=false }:=by
      show { u with wr:=false,late:=u.late && false }=_
      rw[hlv]
      rfl
     have HM:=hid (HS.out.trans hm)
     have HB7:=hid ((HBB.out.set (i:=20) (.bool false)).set (i:=7) (.bool false))
     clear hlv hm
     go_wp2
     go_roundw
     case rel=>exact⟨k+1,by omega,by go_num,by rw[HM.out];exact HE.out,HB7.out⟩
     case measure=>simp[intOf];omega
   ·have ⟨j22,f22⟩:=HU.out.c_hd
    have HE:=hid (HU.out.s_hd true)
    have HB25:=hid (HBB.out.set (i:=22) (.bool true))
    go_wp2
    go_roundw
    case rel=>exact⟨k+1,by omega,by go_num,by rw[HS.out];exact HE.out,HB25.out⟩
    case measure=>simp[intOf];omega
   ·have HC:=hid (qcw HU.out HRU.out false)
    go_wp2_with ((with_reducible refine HC.out.mono ?_);rintro e wn ⟨rfl,h3,h4⟩)
    go_roundw
    case rel=>exact⟨k+1,by omega,by go_num,by rw[HS.out];exact h3,HBB.out.trans h4⟩
    case measure=>simp[intOf];omega
   ·have HC:=hid (qcw HU.out HRU.out false)
    go_wp2_with ((with_reducible refine HC.out.mono ?_);rintro e wn ⟨rfl,h3,h4⟩)
    go_roundw
    case rel=>exact⟨k+1,by omega,by go_num,by rw[HS.out];exact h3,HBB.out.trans h4⟩
    case measure=>simp[intOf];omega
   ·have HC:=hid (qcw HU.out HRU.out false)
    go_wp2_with ((with_reducible refine HC.out.mono ?_);rintro e wn ⟨rfl,h3,h4⟩)
    go_roundw
    case rel=>exact⟨k+1,by omega,by go_num,by rw[HS.out];exact h3,HBB.out.trans h4⟩
    case measure=>simp[intOf];omega
   ·have hm : qdv u false x = u := by
     unfold qdv
     rw[if_neg e1,if_neg e2,if_neg e3,if_neg (by omega)]
    have HM:=hid (HS.out.trans hm)
    have n1:(x == 6)=false:=by simpa using e1
    have n2:(x == 7)=false:=by simpa using e2
    have n3:(x == 25)=false:=by simpa using e3
    have n4:(x == 47)=false:=by simpa using e4
    have n5:(x == 1047)=false:=by simpa using e5
    have n6:(x == 1049)=false:=by simpa using e6
    clear hm e1 e2 e3 e4 e5 e6
    go_wp2
    go_roundw
    case rel=>exact⟨k+1,by omega,by go_num,by rw[HM.out];exact HU.out,HBB.out⟩
    case measure=>simp[intOf];omega
  ·have HF:=hid (show TAt M b mv (qeb t false l) wr by have:=hT;rw[List.take_of_length_le (by rw[HN.out];omega)] at this;exact this)
   have HBB:=hid hB
   clear hT hB
   go_wp2
   go_end0
   exact⟨rfl,HF.out,HBB.out⟩
def DoesR (f:Nat) (g:Tm→List Int→Tm):Prop :=
 ∀ (M:World→Value→Prop) (b:Nat) (mv:Value) (t:Tm) (W:World) (v:Value) (l:List Int),TAt M b mv t W→RightT t→IRow W v l→((l≠[]→qcq b v)∧qgv v)→ParsOk l →
  Calls Tryz.prog f #[.pointer (some ⟨b,0,none⟩),v] W (qu M b mv W (g t l))
theorem Does.right {f:Nat} {g:Tm→List Int→Tm} (h:Does f g):DoesR f g:=fun M b mv t W v l h1 h2 h3 h4 h5=>h M b mv t W v l h1 h2.well h3 h4 h5
theorem qlc:DoesR 101 (fun t l=>qeb t true l):=by
 intro M b mv t W v l h hr hp hof hl
 dsimp only
 have HC:=hid (priv_true M b mv t W v l h hr hp hof.1 hl)
 clear h hr hp hof hl
 go_enter Tryz.func101,Tryz.ntmps101
 go_wp2_with ((with_reducible refine HC.out.mono ?_);rintro e wn ⟨rfl,h3,h4⟩)
 go_end0
 exact⟨rfl,h3,h4⟩
theorem qj1:DoesR 102 (fun t l=>qeb t false l):=by
 intro M b mv t W v l h hr hp hof hl
 dsimp only
 have HC:=hid (priv_false M b mv t W v l h hr hp hof.1 hl)
 clear h hr hp hof hl
 go_enter Tryz.func102,Tryz.ntmps102
 go_wp2_with ((with_reducible refine HC.out.mono ?_);rintro e wn ⟨rfl,h3,h4⟩)
 go_end0
 exact⟨rfl,h3,h4⟩
end
set_option maxHeartbeats 4000000
set_option maxRecDepth 100000
def NewTP (W:World) (t:Tm) (e:Ending) (w':World):Prop :=
 ∃ A k c lg,e=.returned (.tuple #[.agg (t.cells (.slice A k c) (.slice none 0 0) (.slice none 0 0) (.slice none 0 0)),.int .i64 0])∧LR w' (.slice A k c) lg∧CesOf w' lg∧lg.map Prod.fst=t.g.ls∧Below W.heap.size W w'
theorem qdz {b:Nat} {W:World} (h:Box W b 35 #[.int .i64 0,.slice none 0 0,.bool false,.int .i64 0,.slice none 0 0,.int .i64 0,.int .i64 0,.bool false,.int .i64 0,.int .i64 0,.int .i64 0,.int .i64 0,.int .i64 0,.int .i64 0,.int .i64 0,.int .i64 0,.int .i64 0,.int .i64 0,.bool false,.bool false,.bool false,.bool false,.bool false,.int .i64 0,.int .i64 0,.slice none 0 0,.int .i64 0,.string ⟨#[]⟩,.string ⟨#[]⟩,.int .i64 0,.slice none 0 0,.string ⟨#[]⟩]) {v:Value} {cs:List Ce} (hr:CeRow W v cs) (hn:cs≠[]):qcq b v:=by
 obtain⟨A,c,rfl,_,hl⟩:=hr
 obtain⟨g,o,rfl,_,hc⟩:=hl hn
 rintro A' n' c' e
 cases e
 show g≠b
 rintro rfl
 obtain⟨x,xs,rfl⟩:=List.exists_cons_of_ne_nil hn
 have p0:=hc 0 x rfl 0 _ rfl
 have p1:=hc 0 x rfl 1 _ rfl
 have p2:=hc 0 x rfl 2 _ rfl
 rw[h.cell] at p0 p1 p2
 have hlt:o+0 * 5+0 < 32:=(Array.getElem?_eq_some_iff.1 p0).1
 have ho:o < 32:=by omega
 clear hc hlt
 match o,ho with
 | 0,_=>cases p0
 | 1,_=>cases p0
 | 2,_=>cases p0
 | 3,_=>cases p0
 | 4,_=>cases p0
 | 5,_=>cases p0
 | 6,_=>cases p0
 | 7,_=>cases p0
 | 8,_=>cases p0
 | 9,_=>cases p0
 | 10,_=>cases p0
 | 11,_=>cases p0
 | 12,_=>cases p0
 | 13,_=>cases p0
 | 14,_=>cases p0
 | 15,_=>cases p0
 | 16,_=>cases p0
 | 17,_=>cases p0
 | 18,_=>cases p0
 | 19,_=>cases p0
 | 20,_=>cases p0
 | 21,_=>cases p0
 | 22,_=>cases p0
 | 23,_=>cases p0
 | 24,_=>cases p0
 | 25,_=>cases p0
 | 26,_=>cases p0
 | 27,_=>cases p1
 | 28,_=>cases p2
 | 29,_=>cases p0
 | 30,_=>cases p0
 | 31,_=>simp at p1
theorem qgx {b:Nat} {W:World} (h:Box W b 35 #[.int .i64 0,.slice none 0 0,.bool false,.int .i64 0,.slice none 0 0,.int .i64 0,.int .i64 0,.bool false,.int .i64 0,.int .i64 0,.int .i64 0,.int .i64 0,.int .i64 0,.int .i64 0,.int .i64 0,.int .i64 0,.int .i64 0,.int .i64 0,.bool false,.bool false,.bool false,.bool false,.bool false,.int .i64 0,.int .i64 0,.slice none 0 0,.int .i64 0,.string ⟨#[]⟩,.string ⟨#[]⟩,.int .i64 0,.slice none 0 0,.string ⟨#[]⟩]) {v:Value} {lv:List (Ln×Value)} (hr:LR W v lv) (hc:CesOf W lv) (hcs:∀ e∈lv,e.1.cs≠[]) (hn:lv≠[]):qcq b v:=by
 obtain⟨A,c,rfl,_,hl⟩:=hr
 obtain⟨g,o,rfl,_,hl⟩:=hl hn
 rintro A' n' c' e
 cases e
 show g≠b
 rintro rfl
 obtain⟨x,xs,rfl⟩:=List.exists_cons_of_ne_nil hn
 obtain⟨p0,p1⟩:=hl 0 x rfl
 have hx:=hc x (by simp)
 have hxn:=hcs x (by simp)
 rw[h.cell] at p0 p1
 have hlt:o+0 * 2 < 32:=(Array.getElem?_eq_some_iff.1 p0).1
 have ho:o < 32:=by omega
 clear hl hlt
 have hv:x.2≠.slice none 0 0:=by
  intro e
  rw[e] at hx
  obtain⟨Ax,cx,ex,_,hxl⟩:=hx
  obtain⟨gx,ox,hAx,_,_⟩:=hxl hxn
  injection ex with e1
  rw[hAx] at e1
  cases e1
 match o,ho with
 | 0,_=>(obtain⟨Ax,cx,ex⟩:=hx.spell;rw[ex] at p0;cases p0)
 | 1,_=>(exact hv (Option.some.inj p0).symm)
 | 2,_=>(obtain⟨Ax,cx,ex⟩:=hx.spell;rw[ex] at p0;cases p0)
 | 3,_=>(obtain⟨Ax,cx,ex⟩:=hx.spell;rw[ex] at p0;cases p0)
 | 4,_=>(cases p1)
 | 5,_=>(obtain⟨Ax,cx,ex⟩:=hx.spell;rw[ex] at p0;cases p0)
 | 6,_=>(obtain⟨Ax,cx,ex⟩:=hx.spell;rw[ex] at p0;cases p0)
 | 7,_=>(obtain⟨Ax,cx,ex⟩:=hx.spell;rw[ex] at p0;cases p0)
 | 8,_=>(obtain⟨Ax,cx,ex⟩:=hx.spell;rw[ex] at p0;cases p0)
 | 9,_=>(obtain⟨Ax,cx,ex⟩:=hx.spell;rw[ex] at p0;cases p0)
 | 10,_=>(obtain⟨Ax,cx,ex⟩:=hx.spell;rw[ex] at p0;cases p0)
 | 11,_=>(obtain⟨Ax,cx,ex⟩:=hx.spell;rw[ex] at p0;cases p0)
 | 12,_=>(obtain⟨Ax,cx,ex⟩:=hx.spell;rw[ex] at p0;cases p0)
 | 13,_=>(obtain⟨Ax,cx,ex⟩:=hx.spell;rw[ex] at p0;cases p0)
 | 14,_=>(obtain⟨Ax,cx,ex⟩:=hx.spell;rw[ex] at p0;cases p0)
 | 15,_=>(obtain⟨Ax,cx,ex⟩:=hx.spell;rw[ex] at p0;cases p0)
 | 16,_=>(obtain⟨Ax,cx,ex⟩:=hx.spell;rw[ex] at p0;cases p0)
 | 17,_=>(obtain⟨Ax,cx,ex⟩:=hx.spell;rw[ex] at p0;cases p0)
 | 18,_=>(obtain⟨Ax,cx,ex⟩:=hx.spell;rw[ex] at p0;cases p0)
 | 19,_=>(obtain⟨Ax,cx,ex⟩:=hx.spell;rw[ex] at p0;cases p0)
 | 20,_=>(obtain⟨Ax,cx,ex⟩:=hx.spell;rw[ex] at p0;cases p0)
 | 21,_=>(obtain⟨Ax,cx,ex⟩:=hx.spell;rw[ex] at p0;cases p0)
 | 22,_=>(obtain⟨Ax,cx,ex⟩:=hx.spell;rw[ex] at p0;cases p0)
 | 23,_=>(obtain⟨Ax,cx,ex⟩:=hx.spell;rw[ex] at p0;cases p0)
 | 24,_=>(obtain⟨Ax,cx,ex⟩:=hx.spell;rw[ex] at p0;cases p0)
 | 25,_=>(cases p1)
 | 26,_=>(obtain⟨Ax,cx,ex⟩:=hx.spell;rw[ex] at p0;cases p0)
 | 27,_=>(obtain⟨Ax,cx,ex⟩:=hx.spell;rw[ex] at p0;cases p0)
 | 28,_=>(obtain⟨Ax,cx,ex⟩:=hx.spell;rw[ex] at p0;cases p0)
 | 29,_=>(obtain⟨Ax,cx,ex⟩:=hx.spell;rw[ex] at p0;cases p0)
 | 30,_=>(cases p1)
 | 31,_=>(obtain⟨Ax,cx,ex⟩:=hx.spell;rw[ex] at p0;cases p0)
theorem qmv (cols rows keep : Int) (W : World) (hC : 1 ≤ cols ∧ cols ≤ 80) (hR : 1 ≤ rows ∧ rows ≤ 50) (hK : 0 ≤ keep ∧ keep ≤ 40) (hT : Tab W) (hW : TabW W) :
  Calls Tryz.prog 15 #[.int .i64 cols,.int .i64 rows,.int .i64 keep] W (NewTP W (newT cols rows keep)):=by
 obtain⟨C,rfl⟩:∃ C:Nat,cols=C:=⟨cols.toNat,by omega⟩
 obtain⟨R,rfl⟩:∃ R:Nat,rows=R:=⟨rows.toNat,by omega⟩
 have hsz:qbl C R=true:=by
  unfold qbl
  rw[Bool.and_eq_true,decide_eq_true_iff,decide_eq_true_iff]
  exact⟨hC,hR⟩
 have hbx:=Box.new W 35 #[.int .i64 0,.slice none 0 0,.bool false,.int .i64 0,.slice none 0 0,.int .i64 0,.int .i64 0,.bool false,.int .i64 0,.int .i64 0,.int .i64 0,.int .i64 0,.int .i64 0,.int .i64 0,.int .i64 0,.int .i64 0,.int .i64 0,.int .i64 0,.bool false,.bool false,.bool false,.bool false,.bool false,.int .i64 0,.int .i64 0,.slice none 0 0,.int .i64 0,.string ⟨#[]⟩,.string ⟨#[]⟩,.int .i64 0,.slice none 0 0,.string ⟨#[]⟩]
 have hbl:=qa W (.cells #[.int .i64 0,.slice none 0 0,.bool false,.int .i64 0,.slice none 0 0,.int .i64 0,.int .i64 0,.bool false,.int .i64 0,.int .i64 0,.int .i64 0,.int .i64 0,.int .i64 0,.int .i64 0,.int .i64 0,.int .i64 0,.int .i64 0,.int .i64 0,.bool false,.bool false,.bool false,.bool false,.bool false,.int .i64 0,.int .i64 0,.slice none 0 0,.int .i64 0,.string ⟨#[]⟩,.string ⟨#[]⟩,.int .i64 0,.slice none 0 0,.string ⟨#[]⟩] 35)
 have HG:=hid (new_yes C R (W.alloc (.cells #[.int .i64 0,.slice none 0 0,.bool false,.int .i64 0,.slice none 0 0,.int .i64 0,.int .i64 0,.bool false,.int .i64 0,.int .i64 0,.int .i64 0,.int .i64 0,.int .i64 0,.int .i64 0,.int .i64 0,.int .i64 0,.int .i64 0,.int .i64 0,.bool false,.bool false,.bool false,.bool false,.bool false,.int .i64 0,.int .i64 0,.slice none 0 0,.int .i64 0,.string ⟨#[]⟩,.string ⟨#[]⟩,.int .i64 0,.slice none 0 0,.string ⟨#[]⟩] 35)) hsz)
 have hbk:(qdn keep []=true):=backB_iff.2 ⟨hK,by simp;omega,rfl⟩
 have HB:=hid (fun w' (hT:Tab w') (hW:TabW w')=>qjb keep (.slice none 0 0) [] w' (LR.nil _ _ _) (fun _ h=>(by cases h)) ⟨Nat.zero_le _,fun _ h=>(by cases h)⟩ hT hW)
 rw[hbk] at HB
 have HTT:=hid hT
 have HWW:=hid hW
 have HBX:=hid hbx
 have HBL:=hid hbl
 have hR1:=hR.1
 have hR2:=hR.2
 have hC0:1≤C:=by omega
 clear hC hR hK hsz hbx hbl hbk hT hW
 go_enter Tryz.func15,Tryz.ntmps15
 go_wp2_with fail
 with_reducible refine HG.out.mono ?_
 rintro e w1 ⟨v,lg,rfl,hm,hl,hcs,hb1⟩
 dsimp only
 obtain⟨A,c,hv⟩:=hl.spell
 subst hv
 have hbx1:=HBX.out.below hb1 (by simp)
 have h1:=HBL.out.trans (hb1.mono HBL.out.size)
 have hces:CesOf w1 lg:=fun x hx=>(hcs x hx).row
 have hlr:=hl.row
 have hlt1:=hbx1.lt
 have h2:=h1.alloc h1.size (.cells #[.int .i64 C,.slice A lg.length c] 24)
 have h3:=h2.alloc h2.size (.cells #[.int .i64 keep,.slice none 0 0] 33)
 have HBR:=hid (HB.out _ (HTT.out.below h3) (HWW.out.below h3))
 have hg3:=(Box.new w1 24 #[.int .i64 C,.slice A lg.length c]).alloc (.cells #[.int .i64 keep,.slice none 0 0] 33)
 have hk3:=Box.new (w1.alloc (.cells #[.int .i64 C,.slice A lg.length c] 24)) 33 #[.int .i64 keep,.slice none 0 0]
 have hx3:=(hbx1.alloc (.cells #[.int .i64 C,.slice A lg.length c] 24)).alloc (.cells #[.int .i64 keep,.slice none 0 0] 33)
 have hlr3:=(hlr.below (qa w1 (.cells #[.int .i64 C,.slice A lg.length c] 24))).below (qa _ (.cells #[.int .i64 keep,.slice none 0 0] 33))
 have hce3:=(hces.below (qa w1 (.cells #[.int .i64 C,.slice A lg.length c] 24))).below (qa _ (.cells #[.int .i64 keep,.slice none 0 0] 33))
 rw[World.size_alloc] at hk3
 have HM:=hid hm
 have HCS:=hid (show ∀ e∈lg,e.1.cs≠[] from fun e he=>by
  have h1:e.1∈lg.map Prod.fst:=List.mem_map.2 ⟨e,he,rfl⟩
  rw[hm] at h1
  rw[(List.mem_replicate.1 h1).2]
  intro h2
  have h3:(qbe C ⟨0,0,0⟩).cs.length=C:=List.length_replicate
  rw[h2] at h3
  have:=hC0
  simp at h3
  omega)
 clear hl hcs hb1 hbx1 h1 hces hlr hm h2
 go_upto_region 3 with fail
 generalize hw3:((w1.alloc (.cells #[.int .i64 C,.slice A lg.length c] 24)).alloc (.cells #[.int .i64 keep,.slice none 0 0] 33))=w3 at *
 clear hw3
 obtain⟨⟨g0,g1⟩,_⟩:=hg3.two
 obtain⟨⟨k0,k1⟩,_⟩:=hk3.two
 have HG3:=hid hg3
 have HK3:=hid hk3
 have HX3:=hid hx3
 have HLR3:=hid hlr3
 have HCE3:=hid hce3
 have H3:=hid h3
 clear hg3 hk3 hx3 hlr3 hce3 h3
 go_wp2_with fail
 with_reducible refine HBR.out.mono ?_
 rintro e w4 ⟨rfl,hb4⟩
 dsimp only
 clear g0 g1 k0 k1
 obtain⟨⟨g0,g1⟩,_⟩:=(HG3.out.below hb4 HG3.out.lt).two
 obtain⟨⟨k0,k1⟩,_⟩:=(HK3.out.below hb4 HK3.out.lt).two
 have hx4:=HX3.out.below hb4 HX3.out.lt
 have HX4:=hid hx4
 have HX5:=hid (hx4.setRow #[.int .i64 C,.slice A lg.length c,.bool false,.int .i64 0,.slice none 0 0,.int .i64 0,.int .i64 0,.bool false,.int .i64 0,.int .i64 0,.int .i64 0,.int .i64 0,.int .i64 (R - 1),.int .i64 0,.int .i64 0,.int .i64 0,.int .i64 0,.int .i64 0,.bool false,.bool false,.bool true,.bool false,.bool false,.int .i64 0,.int .i64 0,.slice none 0 0,.int .i64 0,.string ⟨#[]⟩,.string ⟨#[]⟩,.int .i64 keep,.slice none 0 0,.string ⟨#[]⟩])
 have HB5:=hid (qb6 ((H3.out.trans (hb4.mono H3.out.size))) (Nat.le_refl W.heap.size) #[.int .i64 C,.slice A lg.length c,.bool false,.int .i64 0,.slice none 0 0,.int .i64 0,.int .i64 0,.bool false,.int .i64 0,.int .i64 0,.int .i64 0,.int .i64 0,.int .i64 (R - 1),.int .i64 0,.int .i64 0,.int .i64 0,.int .i64 0,.int .i64 0,.bool false,.bool false,.bool true,.bool false,.bool false,.int .i64 0,.int .i64 0,.slice none 0 0,.int .i64 0,.string ⟨#[]⟩,.string ⟨#[]⟩,.int .i64 keep,.slice none 0 0,.string ⟨#[]⟩])
 have hbt:=qdb w4 W.heap.size #[.int .i64 C,.slice A lg.length c,.bool false,.int .i64 0,.slice none 0 0,.int .i64 0,.int .i64 0,.bool false,.int .i64 0,.int .i64 0,.int .i64 0,.int .i64 0,.int .i64 (R - 1),.int .i64 0,.int .i64 0,.int .i64 0,.int .i64 0,.int .i64 0,.bool false,.bool false,.bool true,.bool false,.bool false,.int .i64 0,.int .i64 0,.slice none 0 0,.int .i64 0,.string ⟨#[]⟩,.string ⟨#[]⟩,.int .i64 keep,.slice none 0 0,.string ⟨#[]⟩]
 have HLR5:=hid ((HLR3.out.below hb4).but hbt (fun hn=>qgx hx4 (HLR3.out.below hb4) (HCE3.out.below hb4) HCS.out hn))
 have HCE5:=hid (show CesOf (w4.setRow W.heap.size #[.int .i64 C,.slice A lg.length c,.bool false,.int .i64 0,.slice none 0 0,.int .i64 0,.int .i64 0,.bool false,.int .i64 0,.int .i64 0,.int .i64 0,.int .i64 0,.int .i64 (R - 1),.int .i64 0,.int .i64 0,.int .i64 0,.int .i64 0,.int .i64 0,.bool false,.bool false,.bool true,.bool false,.bool false,.int .i64 0,.int .i64 0,.slice none 0 0,.int .i64 0,.string ⟨#[]⟩,.string ⟨#[]⟩,.int .i64 keep,.slice none 0 0,.string ⟨#[]⟩]) lg from fun e he=>((HCE3.out e he).below hb4).but hbt (fun hn=>qdz hx4 ((HCE3.out e he).below hb4) hn))
 clear hx4 hb4 hbt
 go_upto_region 5 with fail
 go_wp2_with (first | (refine qbj rfl 35 (.tmp 6) (.tmp 31) rfl W.heap.size _ rfl rfl HX4.out (by simp) (by kernel_rfl) (by simp[Value.oneCell']) ?_) | fail)
 generalize hw5:w4.setRow W.heap.size #[.int .i64 C,.slice A lg.length c,.bool false,.int .i64 0,.slice none 0 0,.int .i64 0,.int .i64 0,.bool false,.int .i64 0,.int .i64 0,.int .i64 0,.int .i64 0,.int .i64 (R - 1),.int .i64 0,.int .i64 0,.int .i64 0,.int .i64 0,.int .i64 0,.bool false,.bool false,.bool true,.bool false,.bool false,.int .i64 0,.int .i64 0,.slice none 0 0,.int .i64 0,.string ⟨#[]⟩,.string ⟨#[]⟩,.int .i64 keep,.slice none 0 0,.string ⟨#[]⟩]=w5 at *
 clear hw5
 exact bodyPost_ret (v:=.tuple #[.agg #[.int .i64 C,.slice A lg.length c,.bool false,.int .i64 0,.slice none 0 0,.int .i64 0,.int .i64 0,.bool false,.int .i64 0,.int .i64 0,.int .i64 0,.int .i64 0,.int .i64 (R - 1),.int .i64 0,.int .i64 0,.int .i64 0,.int .i64 0,.int .i64 0,.bool false,.bool false,.bool true,.bool false,.bool false,.int .i64 0,.int .i64 0,.slice none 0 0,.int .i64 0,.string ⟨#[]⟩,.string ⟨#[]⟩,.int .i64 keep,.slice none 0 0,.string ⟨#[]⟩],.int .i64 0]) (qf4 (t:=35) (i:=6) (j:=7) (a:=⟨W.heap.size,0,none⟩) (by kernel_rfl) rfl rfl (HX5.out.loadVar Tryz.underlying35 rfl (by kernel_rfl))) rfl ⟨A,lg.length,c,lg,rfl,HLR5.out,HCE5.out,HM.out,HB5.out⟩
theorem offc_ce {b:Nat} {W:World} {t:Tm} {A1 A2 A3 A4:Option Addr} {n1 n2 n3 n4 c1 c2 c3 c4:Nat} (h:Box W b 35 (t.cells (.slice A1 n1 c1) (.slice A2 n2 c2) (.slice A3 n3 c3) (.slice A4 n4 c4))) {v:Value} {cs:List Ce} (hr:CeRow W v cs) (hn:cs≠[]):qcq b v:=by
 obtain⟨A,c,rfl,_,hl⟩:=hr
 obtain⟨g,o,rfl,_,hc⟩:=hl hn
 rintro A' n' c' e
 cases e
 show g≠b
 rintro rfl
 obtain⟨x,xs,rfl⟩:=List.exists_cons_of_ne_nil hn
 have p0:=hc 0 x rfl 0 _ rfl
 have p1:=hc 0 x rfl 1 _ rfl
 have p2:=hc 0 x rfl 2 _ rfl
 rw[h.cell] at p0 p1 p2
 have hlt:o+0 * 5+0 < 32:=(Array.getElem?_eq_some_iff.1 p0).1
 have ho:o < 32:=by omega
 clear hc hlt
 unfold Tm.cells at p0 p1 p2
 match o,ho with
 | 0,_=>cases p0
 | 1,_=>cases p0
 | 2,_=>cases p0
 | 3,_=>cases p0
 | 4,_=>cases p0
 | 5,_=>cases p0
 | 6,_=>cases p0
 | 7,_=>cases p0
 | 8,_=>cases p0
 | 9,_=>cases p0
 | 10,_=>cases p0
 | 11,_=>cases p0
 | 12,_=>cases p0
 | 13,_=>cases p0
 | 14,_=>cases p0
 | 15,_=>cases p0
 | 16,_=>cases p0
 | 17,_=>cases p0
 | 18,_=>cases p0
 | 19,_=>cases p0
 | 20,_=>cases p0
 | 21,_=>cases p0
 | 22,_=>cases p0
 | 23,_=>cases p0
 | 24,_=>cases p0
 | 25,_=>cases p0
 | 26,_=>cases p0
 | 27,_=>cases p1
 | 28,_=>cases p2
 | 29,_=>cases p0
 | 30,_=>cases p0
 | 31,_=>simp at p1
theorem offc_lr {b:Nat} {W:World} {t:Tm} {A1 A2 A3 A4:Option Addr} {n1 n2 n3 n4 c1 c2 c3 c4:Nat} (h:Box W b 35 (t.cells (.slice A1 n1 c1) (.slice A2 n2 c2) (.slice A3 n3 c3) (.slice A4 n4 c4))) {v:Value} {lv lg:List (Ln×Value)} (hg:LR W (.slice A1 n1 c1) lg) (hgc:CesOf W lg) (hgn:lg≠[]) (hr:LR W v lv) (hc:CesOf W lv) (hcs:∀ e∈lv,e.1.cs≠[]) (hn:lv≠[]):qcq b v:=by
 obtain⟨A,c,rfl,_,hl⟩:=hr
 obtain⟨g,o,rfl,_,hl⟩:=hl hn
 rintro A' n' c' e
 cases e
 show g≠b
 rintro rfl
 obtain⟨x,xs,rfl⟩:=List.exists_cons_of_ne_nil hn
 obtain⟨p0,p1⟩:=hl 0 x rfl
 have hx:=hc x (by simp)
 have hxn:=hcs x (by simp)
 rw[h.cell] at p0 p1
 have hlt:o+0 * 2 < 32:=(Array.getElem?_eq_some_iff.1 p0).1
 have ho:o < 32:=by omega
 clear hl hlt
 have hv:x.2≠.slice A1 n1 c1:=by
  intro e
  rw[e] at hx
  obtain⟨Ax,cx,ex,_,hxl⟩:=hx
  obtain⟨gx,ox,hAx,_,hxc⟩:=hxl hxn
  obtain⟨y,ys,hy⟩:=List.exists_cons_of_ne_nil hxn
  have q0:=hxc 0 y (by rw[hy];rfl) 0 _ rfl
  obtain⟨Ag,cg,eg,_,hgl⟩:=hg
  obtain⟨gg,og,hAg,_,hgl⟩:=hgl hgn
  obtain⟨z,zs,hz⟩:=List.exists_cons_of_ne_nil hgn
  have q1:=(hgl 0 z (by rw[hz];rfl)).1
  obtain⟨Az,cz,ez⟩:=(hgc z (by rw[hz];simp)).spell
  have e1:A1=Ax:=by cases ex;rfl
  have e2:A1=Ag:=by cases eg;rfl
  have e3:(some ⟨gx,ox,none⟩:Option Addr)=some ⟨gg,og,none⟩:=hAx.symm.trans (e1.symm.trans (e2.trans hAg))
  cases e3
  simp only[Nat.zero_mul,Nat.add_zero] at q0 q1
  rw[q1,ez] at q0
  cases q0
 unfold Tm.cells at p0 p1
 match o,ho with
 | 0,_=>(obtain⟨Ax,cx,ex⟩:=hx.spell;rw[ex] at p0;cases p0)
 | 1,_=>(exact hv (Option.some.inj p0).symm)
 | 2,_=>(obtain⟨Ax,cx,ex⟩:=hx.spell;rw[ex] at p0;cases p0)
 | 3,_=>(obtain⟨Ax,cx,ex⟩:=hx.spell;rw[ex] at p0;cases p0)
 | 4,_=>(cases p1)
 | 5,_=>(obtain⟨Ax,cx,ex⟩:=hx.spell;rw[ex] at p0;cases p0)
 | 6,_=>(obtain⟨Ax,cx,ex⟩:=hx.spell;rw[ex] at p0;cases p0)
 | 7,_=>(obtain⟨Ax,cx,ex⟩:=hx.spell;rw[ex] at p0;cases p0)
 | 8,_=>(obtain⟨Ax,cx,ex⟩:=hx.spell;rw[ex] at p0;cases p0)
 | 9,_=>(obtain⟨Ax,cx,ex⟩:=hx.spell;rw[ex] at p0;cases p0)
 | 10,_=>(obtain⟨Ax,cx,ex⟩:=hx.spell;rw[ex] at p0;cases p0)
 | 11,_=>(obtain⟨Ax,cx,ex⟩:=hx.spell;rw[ex] at p0;cases p0)
 | 12,_=>(obtain⟨Ax,cx,ex⟩:=hx.spell;rw[ex] at p0;cases p0)
 | 13,_=>(obtain⟨Ax,cx,ex⟩:=hx.spell;rw[ex] at p0;cases p0)
 | 14,_=>(obtain⟨Ax,cx,ex⟩:=hx.spell;rw[ex] at p0;cases p0)
 | 15,_=>(obtain⟨Ax,cx,ex⟩:=hx.spell;rw[ex] at p0;cases p0)
 | 16,_=>(obtain⟨Ax,cx,ex⟩:=hx.spell;rw[ex] at p0;cases p0)
 | 17,_=>(obtain⟨Ax,cx,ex⟩:=hx.spell;rw[ex] at p0;cases p0)
 | 18,_=>(obtain⟨Ax,cx,ex⟩:=hx.spell;rw[ex] at p0;cases p0)
 | 19,_=>(obtain⟨Ax,cx,ex⟩:=hx.spell;rw[ex] at p0;cases p0)
 | 20,_=>(obtain⟨Ax,cx,ex⟩:=hx.spell;rw[ex] at p0;cases p0)
 | 21,_=>(obtain⟨Ax,cx,ex⟩:=hx.spell;rw[ex] at p0;cases p0)
 | 22,_=>(obtain⟨Ax,cx,ex⟩:=hx.spell;rw[ex] at p0;cases p0)
 | 23,_=>(obtain⟨Ax,cx,ex⟩:=hx.spell;rw[ex] at p0;cases p0)
 | 24,_=>(obtain⟨Ax,cx,ex⟩:=hx.spell;rw[ex] at p0;cases p0)
 | 25,_=>(cases p1)
 | 26,_=>(obtain⟨Ax,cx,ex⟩:=hx.spell;rw[ex] at p0;cases p0)
 | 27,_=>(obtain⟨Ax,cx,ex⟩:=hx.spell;rw[ex] at p0;cases p0)
 | 28,_=>(obtain⟨Ax,cx,ex⟩:=hx.spell;rw[ex] at p0;cases p0)
 | 29,_=>(obtain⟨Ax,cx,ex⟩:=hx.spell;rw[ex] at p0;cases p0)
 | 30,_=>(cases p1)
 | 31,_=>(obtain⟨Ax,cx,ex⟩:=hx.spell;rw[ex] at p0;cases p0)
theorem TmIn.spared {b : Nat} {W W' : World} {t t2 : Tm} {vg vm vp vb ug um up ub : Value} {lg lm lb kg km kb : List (Ln × Value)} (h : TmIn W t vg vm vp vb lg lm lb) (hty : Typed W vp t.pa.params) (hr : RightT t)
  (h2:TmIn W t2 ug um up ub kg km kb) (hr2:RightT t2) (hb:Box W b 35 (t2.cells ug um up ub)) (hB:But b W W'):TmIn W' t vg vm vp vb lg lm lb∧Typed W' vp t.pa.params:=by
 obtain⟨A1,c1,rfl,_⟩:=h2.g.spell
 obtain⟨A2,c2,rfl,_⟩:=h2.m.spell
 obtain⟨A4,c4,rfl,_⟩:=h2.b.spell
 obtain⟨A3,c3,rfl,_⟩:=id h2.p
 have hg2:=(qdg hr2.g h2.gm).1
 have hg:=qdg hr.g h.gm
 have hm:∀ e∈lm,e.1.cs≠[]:=by
  cases ha:t.alt
  ·have h1:=h.mm
   rw[hr.main0 ha] at h1
   rw[List.map_eq_nil_iff.1 h1]
   exact fun _ he=>(by cases he)
  ·exact(qdg (hr.main1 ha).1 h.mm).2
 have hk:=(qiq hr.bk h.bm).2
 have hpo:=hty.off hb (by decide)
 exact⟨⟨h.g.but hB (fun hn=>offc_lr hb h2.g h2.gc hg2 h.g h.gc hg.2 hn),fun e he=>(h.gc e he).but hB (fun hn=>offc_ce hb (h.gc e he) hn),h.gm,
  h.m.but hB (fun hn=>offc_lr hb h2.g h2.gc hg2 h.m h.mc hm hn),fun e he=>(h.mc e he).but hB (fun hn=>offc_ce hb (h.mc e he) hn),h.mm,
  h.b.but hB (fun hn=>offc_lr hb h2.g h2.gc hg2 h.b h.bc hk hn),fun e he=>(h.bc e he).but hB (fun hn=>offc_ce hb (h.bc e he) hn),h.bm,
  h.p.but hB hpo⟩,(PRow.but ⟨h.p,hty⟩ hB hpo).2⟩
end Go.Proofs.YtpdaekmbpafenaaGreatDoor
