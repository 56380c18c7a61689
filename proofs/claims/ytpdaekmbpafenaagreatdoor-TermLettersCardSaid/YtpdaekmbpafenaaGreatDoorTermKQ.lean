
import Derived.Test.YtpdaekmbpafenaaGreatDoorTermIQ
import Derived.IntWalk
namespace Go.Proofs.YtpdaekmbpafenaaGreatDoor
set_option maxHeartbeats 4000000
set_option maxRecDepth 100000
open Go.RowKit
section
variable {M:World→Value→Prop} {b:Nat} {mv:Value} {t:Tm} {W:World}
def qje (cols:Int) (K:Nat) (caps:Array Value) (W:World) (ln tgt:Ln):Prop :=
 (∀ (args:Array Value) (W':World),Sem.run Tryz.prog (callFunc K args) W'=.ok (.enter K args) W')∧∀ (A:Option Addr) (c:Nat) (lvl:Value) (W':World),Below W.heap.size W W'→GIn W' (.slice A 1 c) [(ln,lvl)] →
  Calls Tryz.prog K (#[.agg #[.int .i64 cols,.slice A 1 c]] ++ caps) W' (qhk W' cols tgt)
def InCut (W:World) (cols:Int) (tgt:Ln) (p x:Value) (wx:World):Prop :=
 ∃ A c lvl s,NewG W wx p cols (.slice A 1 c) s∧x=.int .i64 0∧LR wx (.slice A 1 c) [(tgt,lvl)]∧CesOf wx [(tgt,lvl)]
theorem gin_one {W : World} {A : Option Addr} {n c : Nat} {lv : List (Ln × Value)} (h : GIn W (.slice A n c) lv) {r : Nat} {x : Ln × Value} (hx : lv[r]? = some x) :
  ∃ g o,A=some ⟨g,o,none⟩∧r < n∧n≤c∧n=lv.length∧GIn W (.slice (some ⟨g,o+r * 2,none⟩) 1 (c - r)) [x]:=by
 obtain⟨hlt,_⟩:=List.getElem?_eq_some_iff.1 hx
 obtain⟨A',c',e,hc,hl⟩:=h.lr
 cases e
 obtain⟨g,o,rfl,hg,hcell⟩:=hl (by rintro rfl;simp at hlt)
 refine⟨g,o,rfl,hlt,hc,rfl,⟨_,_,rfl,by show 1≤c - r;omega,fun _=>⟨g,o+r * 2,rfl,hg,fun j e he=>?_⟩⟩,fun e he=>?_,⟨by show 1≤1000;omega,fun e he=>?_⟩⟩
 ·match j,he with
  | 0,he =>
   have:x=e:=by simpa using he
   subst this
   have:=hcell r x hx
   rw[Nat.zero_mul,Nat.add_zero]
   exact this
 ·have:e=x:=by simpa using he
  subst this
  exact h.ces _ (List.mem_of_getElem? hx)
 ·have:e=x:=by simpa using he
  subst this
  exact h.sm.2 _ (List.mem_of_getElem? hx)
theorem inLine_any (h : TAt M b mv t W) (hg : qm t.g = true) (r : Nat) (hr : r < t.g.ls.length) (K : Nat) (caps : Array Value) (tgt : Ln) (hch : qje t.g.cols K caps W (qo t.g.ls r) tgt) (hft : qbv t.g.cols tgt.cs = true) :
  Calls Tryz.prog 198 #[.pointer (some ⟨b,0,none⟩),.int .i64 r,.func (.func K) #[] caps] W (qu M b mv W { t with g:=⟨t.g.cols,t.g.ls.set r tgt⟩ }):=by
 obtain⟨A,c,lv,⟨⟨k1,f1⟩,_⟩,hG,hgi,hmay⟩:=h.gin hg
 obtain⟨k0,f0⟩:=h.c_cols
 have hlt:=h.lt
 have hrl:r < lv.length:=by rw[hG.len];exact hr
 have hx:=List.getElem?_eq_getElem hrl
 have hln:qo t.g.ls r=lv[r].1:=by unfold qo;rw[← hG.mp,Int.toNat_natCast,List.getElem?_map,hx];rfl
 rw[hln] at hch
 generalize lv[r]=x at *
 obtain⟨g,o,rfl,hrn,hnc,hnl,hone⟩:=gin_one hgi hx
 obtain⟨ln,lvl⟩:=x
 have hbd:=qd hg
 have HCH:=hid (fun W' (hb:Below W.heap.size W W')=>hch.2 _ _ lvl W' hb (hone.below hb))
 have hK:=hch.1
 have HT:=hid h
 have HG:=hid hG
 have HRG:=hid (rg_set hg r hft)
 have HRT:=hid hg
 have HGI:=hid hgi
 have HX:=hid hx
 have hN:t.g.ls.length≤50:=by omega
 have HNL:=hid hnl
 obtain⟨N,hNN⟩:∃ N,t.g.ls.length=N:=⟨_,rfl⟩
 rw[hNN] at k1 hr hrn hnc HG HNL hN
 have hri:(r:Int) < N:=by omega
 have hri2:(r:Int)+1≤N:=by omega
 have hri3:(r:Int)≤50:=by omega
 have hrc:r < c:=by omega
 have HNN:=hid hNN
 clear h hG hgi hmay hg hch hone hbd hft hln hx hrl hnl hNN HGI
 have hw1:IntKind.i64.wrap ((r:Int)+1)=(r:Int)+1:=IntWalk.i64_in _ (by omega)
 have hw2:(0:Int)≤(r:Int)+1:=by omega
 have hw3:(r:Int)+1≤c:=by omega
 have hw4:((r:Int)+1).toNat=r+1:=by omega
 have hw5:¬ c=r:=by omega
 have hw6:r+1 - r=1:=by omega
 have hw7:r≤r+1:=by omega
 go_enter Tryz.func198,Tryz.ntmps198
 go_upto_region 0 with fail
 go_cut [6,7] (fun p x wx=>InCut W t.g.cols tgt p x wx)
 case first =>
  have hS0:Below W.heap.size W _:=qf W 1
  refine qh (fun _ w'=>Below W.heap.size W w') (by kernel_rfl) ?_
  refine tC 0 hS0 ?_
  refine tC 1 hS0 ?_
  refine tC 2 hS0 ?_
  refine tC 3 hS0 ?_
  refine tC 4 hS0 ?_
  refine tC 5 hS0 ?_
  refine tC 6 hS0 ?_ (hy:=fun w' hw'=>by obtain⟨hc,hf⟩:=qag hw';go_simp;try with_reducible rfl)
  refine tC 7 hS0 ?_
  refine tC 8 hS0 ?_
  refine tC 9 hS0 ?_
  refine tC 10 hS0 ?_
  refine tC 11 hS0 ?_
  refine tC 12 hS0 ?_ (hy:=fun w' hw'=>by obtain⟨hc,hf⟩:=qag hw';go_simp;try with_reducible rfl)
  refine tC 13 hS0 ?_
  refine tC 14 hS0 ?_
  refine tC 15 hS0 ?_
  refine tC 16 hS0 ?_
  refine tC 17 hS0 ?_
  refine qio (k1:=18) (k2:=22) (by kernel_rfl) rfl rfl (by rfl) (by rfl) (fun K0 hK0=>?_) (fun K0 hK0=>?_)
  ·go_simp
   refine(HCH.out _ hS0).mono ?_
   rintro e w9 ⟨A2,c2,lvl2,rfl,hb,q1,q2⟩
   dsimp only
   have HQ:=hid (And.intro q1 q2)
   clear q1 q2
   have HB:=hid hb
   have hS1:=hS0.trans (hb.mono hS0.size)
   have HB9:=hid hS1
   refine hK0 _ _ hS1 ?_
   clear hK0 K0
   (try simp only[zT]);(try simp only[zA]);(try simp only[zS]);(try simp only[zZ])
   clear hS0 hb
   have hS0:=hS1
   clear hS1
   refine tC 19 hS0 ?_
   refine tC 20 hS0 ?_
   refine tC 21 hS0 ?_
   refine qz (k:=22) (by kernel_rfl) rfl (by rfl) (fun K0 hK0=>?_)
   go_simp
   have HB0:=hid hS0
   have hS1:=hS0.alloc hS0.size gz
   refine hK0 _ _ hS1 ?_
   clear hK0 K0
   (try simp only[zT]);(try simp only[zA]);(try simp only[zS]);(try simp only[zZ])
   clear hS0
   have hS0:=hS1
   clear hS1
   refine qz (k:=23) (by kernel_rfl) rfl (by rfl) (fun K0 hK0=>?_)
   go_simp
   have hS1:=HB9.out.alloc HB9.out.size (.cells #[.int .i64 t.g.cols,.slice A2 1 c2] 24)
   refine hK0 _ _ hS1 ?_
   clear hK0 K0
   (try simp only[zT]);(try simp only[zA]);(try simp only[zS]);(try simp only[zZ])
   clear hS0
   have hS0:=hS1
   clear hS1
   refine tC 24 hS0 ?_
   refine qal (by kernel_rfl) ?_ _
   go_wp2_with fail
   go_meet
   have hn:=qhf (cols:=t.g.cols) (v:=.slice A2 1 c2) HB9.out
   exact⟨A2,c2,lvl2,_,hn.1,rfl,hn.2.1 _ _ HQ.out.1,hn.2.ces HQ.out.2⟩
  ·go_simp
   have HB0:=hid hS0
   have hS1:=hS0.alloc hS0.size gz
   refine hK0 _ _ hS1 ?_
   clear hK0 K0
   (try simp only[zT]);(try simp only[zA]);(try simp only[zS]);(try simp only[zZ])
   clear hS0
   have hS0:=hS1
   clear hS1
   refine qz (k:=18) (by kernel_rfl) rfl (by rfl) (fun K0 hK0=>?_)
   go_simp
   refine(HCH.out _ hS0).mono ?_
   rintro e w9 ⟨A2,c2,lvl2,rfl,hb,q1,q2⟩
   dsimp only
   have HQ:=hid (And.intro q1 q2)
   clear q1 q2
   have hz:Box w9 W.heap.size 24 #[.int .i64 0,.slice none 0 0]:=(Box.new W.drew _ _).below hb (by simp)
   obtain⟨⟨z0,z1⟩,y0,y1⟩:=hz.two
   clear hz
   have HB:=hid hb
   have hS1:=hS0.trans (hb.mono hS0.size)
   have HB9:=hid hS1
   refine hK0 _ _ hS1 ?_
   clear hK0 K0
   (try simp only[zT]);(try simp only[zA]);(try simp only[zS]);(try simp only[zZ])
   clear hS0 hb
   have hS0:=hS1
   clear hS1
   refine tC 19 hS0 ?_
   refine tC 20 hS0 ?_
   refine tC 21 hS0 ?_
   refine qz (k:=23) (by kernel_rfl) rfl (by rfl) (fun K0 hK0=>?_)
   go_simp
   have hS1:=(hS0.setCell (p:=⟨W.heap.size,0,none⟩) (Nat.le_refl _) (.int .i64 t.g.cols)).setCell (p:=⟨W.heap.size,1,none⟩) (Nat.le_refl _) (.slice A2 1 c2)
   refine hK0 _ _ hS1 ?_
   clear hK0 K0
   (try simp only[zT]);(try simp only[zA]);(try simp only[zS]);(try simp only[zZ])
   clear hS0
   have hS0:=hS1
   clear hS1
   refine tC 24 hS0 ?_
   refine qal (by kernel_rfl) ?_ _
   go_wp2_with fail
   go_meet
   have hn:=qb7 (cols:=t.g.cols) (v:=.slice A2 1 c2) (show Below W.heap.size W W.drew from qf W 1) HB.out
   exact⟨A2,c2,lvl2,_,hn.1,rfl,hn.2.1 _ _ HQ.out.1,hn.2.ces HQ.out.2⟩
 case rest =>
  obtain⟨A2,c2,lvl2,s,hng,rfl,q1,q2⟩:=hcut
  obtain⟨rfl,hs,hbx,hbel⟩:=hng
  obtain⟨A3,c3,e3⟩:=(q2 (tgt,lvl2) (by simp)).spell
  simp only at e3
  subst e3
  generalize hn3:tgt.cs.length=n3 at *
  clear hn3
  have hT2:=HT.out.below hbel
  have hG2:=HG.out.but (But.of_below hbel)
  have hgr:=hT2.grow HRT.out q1 q2 (ls:=[tgt]) rfl (fun e he=>by
   have:e=(tgt,.slice A3 n3 c3):=by simpa using he
   subst this
   exact(qdg (g:=⟨t.g.cols,t.g.ls.set r tgt⟩) HRG.out (lv:=(t.g.ls.set r tgt).map fun l=>(l,Value.bool false)) (by simp[Function.comp_def])).2 (tgt,.bool false) (List.mem_map.2 ⟨tgt,List.mem_iff_getElem?.2 ⟨r,List.getElem?_set_self (by rw[HNN.out];exact hr)⟩,rfl⟩))
  have hcl:=qiw _ lv wc hG2.lr hG2.ces (by have:=hG2.len;rw[HNN.out] at this;omega)
  obtain⟨⟨p0,p1⟩,_,_⟩:=hbx.two
  obtain⟨_,_,_,⟨hj,g1⟩,_⟩:=hT2.c_g
  clear hj
  have hlt2:=hT2.lt
  have k1n:wc.cell? ⟨b,1,none⟩=some (.slice (some ⟨g,o,none⟩) N c):=(hbel.cell (p:=⟨b,1,none⟩) hlt).trans k1
  have hsw:=hbx.lt
  have hsb:¬ s=b:=by omega
  have HCL:=hid hcl
  have HBX:=hid hbx
  have HBEL:=hid hbel
  have HT2:=hid hT2
  have HG2:=hid hG2
  have HGR:=hid hgr
  clear hcl hbel hT2 hG2 hgr hbx q1 q2 hK k0 k1 f0 f1
  go_wp2_with fail
  with_reducible refine HCL.out.mono ?_
  rintro e w3 ⟨v3,rfl,hl3,hb3⟩
  dsimp only
  have k1m:=(hb3.cell (p:=⟨b,1,none⟩) hlt2).trans k1n
  clear p0 p1 g1 k1n HCL
  have hrl:r < lv.length:=by have:=HG2.out.len;rw[HNN.out] at this;omega
  have hlvN:lv.length=N:=by have:=HG2.out.len;rw[HNN.out] at this;exact this
  rcases hl3 with ⟨rfl,_⟩ | ⟨g8,cap8,rfl,hg8,hl8⟩
  ·exact absurd hrl (by simp)
  have hbx3:=HBX.out.below hb3 HBX.out.lt
  obtain⟨⟨p0,p1⟩,_,_⟩:=hbx3.two
  have hgr3:=HGR.out.but (But.of_below hb3)
  obtain⟨A2',c2',e2,_,hl2⟩:=hgr3.lr
  cases e2
  obtain⟨ga,oa,rfl,hga,hcell⟩:=hl2 (by simp)
  obtain⟨m0,m1⟩:=hcell 0 (tgt,.slice A3 n3 c3) rfl
  simp only[Nat.zero_mul,Nat.add_zero] at m0 m1
  have hgb:¬ ga=b:=hgr3.off (by simp) _ _ _ rfl
  obtain⟨_,g1⟩:True∧w3.frozen? ⟨b,1,none⟩=false:=⟨trivial,by obtain⟨_,_,_,⟨_,q⟩,_⟩:=(HT2.out.below hb3).c_g;exact q⟩
  have h8b:¬ g8=b:=by omega
  have h8l:=hl8.lt
  obtain⟨⟨y0,y1⟩,z0,z1⟩:=hl8.two (List.getElem?_eq_getElem hrl)
  generalize lv[r]=xr0 at y0 y1
  have hbl:=hl8.only (Only.set (Only.refl b w3) (i:=1) (.slice (some ⟨g8,0,none⟩) lv.length cap8)) h8b
  have hb5:=hbl.set2 hrl (tgt,.slice A3 n3 c3)
  have hbt:But b wc ((((w3.setCell ⟨b,1,none⟩ (.slice (some ⟨g8,0,none⟩) lv.length cap8)).setCell ⟨g8,r * 2,none⟩ (.slice A3 n3 c3)).setCell ⟨g8,r * 2+1,none⟩ (.bool tgt.soft))):=(((But.of_below hb3).set _).setNew hg8 _).setNew hg8 _
  have hgrow:GRow b ((((w3.setCell ⟨b,1,none⟩ (.slice (some ⟨g8,0,none⟩) lv.length cap8)).setCell ⟨g8,r * 2,none⟩ (.slice A3 n3 c3)).setCell ⟨g8,r * 2+1,none⟩ (.bool tgt.soft))) (.slice (some ⟨g8,0,none⟩) lv.length cap8) (lv.set r (tgt,.slice A3 n3 c3)) (t.g.ls.set r tgt):=by
   have hr5:=hb5.row
   rw[List.length_set] at hr5
   have hG5:=HG2.out.but hbt
   have hT5:=HGR.out.but hbt
   refine⟨hr5,fun e he=>?_,by rw[List.map_set,HG2.out.mp],fun _=>?_,fun e he=>?_⟩
   ·rcases List.mem_or_eq_of_mem_set he with h | rfl
    ·exact hG5.ces e h
    ·exact hT5.ces _ (by simp)
   ·rintro A' n' c' e'
    cases e'
    exact h8b
   ·rcases List.mem_or_eq_of_mem_set he with h | rfl
    ·exact hG5.offs e h
    ·exact hT5.offs _ (by simp)
  have hend:=HT2.out.regrid hbt (fun cs h=>(((h.below hb3 hlt2).set _).other (fun e=>h8b e.symm) _).other (fun e=>h8b e.symm) _) hgrow
  have HEND:=hid hend.drew
  have HBT:=hid ((But.of_below HBEL.out).trans hbt).drew
  have hB:=(HT2.out.below hb3)
  obtain⟨_,_,_,_,_,_,_,_,hB,_⟩:=hB
  have n1:=(hB.set (i:=1) (.slice (some ⟨g8,0,none⟩) lv.length cap8)).cell 1
  have n1':(w3.setCell ⟨b,1,none⟩ (.slice (some ⟨g8,0,none⟩) lv.length cap8)).cell? ⟨b,1,none⟩=some (.slice (some ⟨g8,0,none⟩) lv.length cap8):=n1
  obtain⟨⟨n2,n9⟩,n4,n5⟩:=hbl.two (List.getElem?_eq_getElem hrl)
  generalize lv[r]=xr at n2 n9
  have hbx4:=hbx3.other (b':=b) (i:=1) hsb (.slice (some ⟨g8,0,none⟩) lv.length cap8)
  obtain⟨⟨_,n6⟩,_,_⟩:=hbx4.two
  have n7:=((qbb w3 b 1 (.slice (some ⟨g8,0,none⟩) lv.length cap8)).cell (p:=⟨ga,oa,none⟩) hga hgb).trans m0
  have n8:=((qbb w3 b 1 (.slice (some ⟨g8,0,none⟩) lv.length cap8)).cell (p:=⟨ga,oa+1,none⟩) hga hgb).trans m1
  clear hend hbt hgrow hb5 hbl hl8 hcell hl2 hgr3 hbx3 hb3 hg8 hB n1 hbx4
  rw[hlvN] at HEND HBT n1' n2 n9 n4 n5 n6 n7 n8 ⊢
  clear hlvN hrl
  go_wp2_with fail
  generalize hw4:w3.setCell ⟨b,1,none⟩ (.slice (some ⟨g8,0,none⟩) N cap8)=w4 at *
  clear hw4 p0 p1 y0 y1 z0 z1 m0 m1 k1m g1
  go_still_tail 12,(by kernel_rfl)
  change wpList _ _ _ _ _ w4.drew
  go_wp2
  go_end0
  exact⟨rfl,HEND.out,HBT.out⟩
end
set_option maxHeartbeats 2000000
set_option maxRecDepth 100000
section
variable {M:World→Value→Prop} {b:Nat} {mv:Value} {t:Tm} {W:World}
theorem qj4 {ls:List Ln} {row:Int} (h0:0≤row) (h1:row < ls.length):qo ls row∈ls:=by
 unfold qo
 rw[List.getElem?_eq_getElem (show row.toNat < ls.length by omega)]
 exact List.getElem_mem _
theorem qfs (h : TAt M b mv t W) (hg : qm t.g = true) {row : Int} (h0 : 0 ≤ row) (h1 : row < t.g.ls.length) (K : Nat) (caps : Array Value) (tgt : Ln) (hch : qje t.g.cols K caps W (qo t.g.ls row) tgt) (hnew : qm ⟨t.g.cols, t.g.ls.set row.toNat tgt⟩ = true) :
  Calls Tryz.prog 198 #[.pointer (some ⟨b,0,none⟩),.int .i64 row,.func (.func K) #[] caps] W (qu M b mv W { t with g:=⟨t.g.cols,t.g.ls.set row.toNat tgt⟩ }):=by
 obtain⟨r,rfl⟩:∃ r:Nat,row=r:=⟨row.toNat,by omega⟩
 have hr:r < t.g.ls.length:=by omega
 have hf:=rg_at hnew (l:=tgt) (List.mem_iff_getElem?.2 ⟨r,List.getElem?_set_self hr⟩)
 exact inLine_any h hg r hr K caps tgt hch hf
theorem qhg (col : Int) (x : Ce) (h : TAt M b mv t W) (hg : qm t.g = true) (h0r : 0 ≤ t.row) (h1r : t.row < t.g.ls.length) (hc0 : 0 ≤ col) (hc1 : col < t.g.cols) (hxr : qq x = true) (hxt : x.tx.size ≠ 0) (hxw : ¬ (x.wd = 2 ∧ col = t.g.cols - 1)) :
  Calls Tryz.prog 212 #[.pointer (some ⟨b,0,none⟩),.int .i64 col,.agg #[.string x.tx,.int .i64 x.wd,.int .i64 x.fg,.int .i64 x.bg,.int .i64 x.fl]] W (qu M b mv W (qc3 t col x)):=by
 have hr0:=hg
 have hrow0:=h0r
 have hrow1:=h1r
 have hnew:qm ⟨t.g.cols,t.g.ls.set t.row.toNat ⟨qac 1 (qga (qo t.g.ls t.row).cs col.toNat x),(qo t.g.ls t.row).soft⟩⟩=true:=rg_put hg h0r h1r col hxr
 have b0:=(((Bxs.nil W).alloc 3 #[.int .i64 col]).alloc 57 #[.string x.tx,.int .i64 x.wd,.int .i64 x.fg,.int .i64 x.bg,.int .i64 x.fl])
 simp only[World.size_alloc,List.nil_append,List.cons_append] at b0
 have h0:Below W.heap.size W ((W.alloc (.cells #[.int .i64 col] 3)).alloc (.cells #[.string x.tx,.int .i64 x.wd,.int .i64 x.fg,.int .i64 x.bg,.int .i64 x.fl] 57)):=((qa _ _).alloc (by simp <;> omega) _)
 have hx:=h.below h0
 generalize hw1:((W.alloc (.cells #[.int .i64 col] 3)).alloc (.cells #[.string x.tx,.int .i64 x.wd,.int .i64 x.fg,.int .i64 x.bg,.int .i64 x.fl] 57))=w1 at *
 have hb0:=b0.get 0 rfl
 have hb1:=b0.get 1 rfl
 have hch:qje t.g.cols 239 #[.pointer (some ⟨W.heap.size,0,none⟩),.pointer (some ⟨W.heap.size+1,0,none⟩)] w1 (qo t.g.ls t.row) ⟨qac 1 (qga (qo t.g.ls t.row).cs col.toNat x),(qo t.g.ls t.row).soft⟩:=⟨fun _ _=>by kernel_rfl,fun A cc lvl W' hb hgi=>by
  have hm:=qif hr0 (qj4 hrow0 hrow1) lvl
  have hok:qiy t.g.cols [(qo t.g.ls t.row,lvl)] 0 col x=true:=by
   unfold qiy qcx colB
   rw[hm,decide_eq_true (show 0≤(0:Int)∧(0:Int) < ([(qo t.g.ls t.row,lvl)]:List (Ln×Value)).length from ⟨Int.le_refl _,by show (0:Int) < 1;omega⟩),decide_eq_true (show 0≤col∧col < t.g.cols from ⟨hc0,hc1⟩),hxr,decide_eq_true hxt]
   rfl
  have htx:x.tx.size≤1000:=by have:=qc7 hxr;omega
  have hT:=(hx.below hb).tab
  have hW:=(hx.below hb).tabW
  exact putC_any t.g.cols A cc _ lvl col x _ _ hgi hT hW (hb0.below hb hb0.lt) (hb1.below hb hb1.lt) hok (decide_eq_false hxw) htx⟩
 have HC:=hid (qfs hx hr0 hrow0 hrow1 _ _ ⟨qac 1 (qga (qo t.g.ls t.row).cs col.toNat x),(qo t.g.ls t.row).soft⟩ hch hnew)
 have HW1:=hid hw1
 have HB:=hid (But.of_below (b:=b) h0)
 have k5:=hx.c_row.1
 have hlt:=h.lt
 have q0:=hb0.cell 0
 have q1:=hb1.cell 0
 clear h hg hx b0 h0 hch hnew hr0 hrow0 hrow1 h0r h1r hc0 hc1 hxr hxt hxw hb0 hb1
 subst hw1
 go_enter Tryz.func212,Tryz.ntmps212
 go_upto_region 1 with fail
 generalize hw1:((W.alloc (.cells #[.int .i64 col] 3)).alloc (.cells #[.string x.tx,.int .i64 x.wd,.int .i64 x.fg,.int .i64 x.bg,.int .i64 x.fl] 57))=w1 at *
 clear hw1 HW1
 go_wp2_with ((with_reducible refine HC.out.mono ?_);rintro e w' ⟨rfl,h1,h2⟩)
 go_end0
 exact⟨rfl,h1,HB.out.trans h2⟩
theorem qkq (row fr tt : Int) (h : TAt M b mv t W) (hg : qm t.g = true) (h0r : 0 ≤ row) (h1r : row < t.g.ls.length) (hf : 0 ≤ fr) (ht : fr ≤ tt) (htc : tt ≤ t.g.cols) (hl : qab t.lk = true) :
  Calls Tryz.prog 157 #[.pointer (some ⟨b,0,none⟩),.int .i64 row,.int .i64 fr,.int .i64 tt] W (qu M b mv W (qdl t row fr tt)):=by
 have hr0:=hg
 have hrow0:=h0r
 have hrow1:=h1r
 have hnew:qm ⟨t.g.cols,t.g.ls.set row.toNat ⟨qac 1 (qa2 (qo t.g.ls row).cs fr.toNat (tt - fr).toNat t.lk),(qo t.g.ls row).soft⟩⟩=true:=qlr hg h0r h1r hf ht htc hl
 have b0:=((((Bxs.nil W).alloc 85 #[.pointer (some ⟨b,0,none⟩)]).alloc 3 #[.int .i64 fr]).alloc 3 #[.int .i64 tt])
 simp only[World.size_alloc,List.nil_append,List.cons_append] at b0
 have h0:Below W.heap.size W (((W.alloc (.cells #[.pointer (some ⟨b,0,none⟩)] 85)).alloc (.cells #[.int .i64 fr] 3)).alloc (.cells #[.int .i64 tt] 3)):=(((qa _ _).alloc (by simp <;> omega) _).alloc (by simp <;> omega) _)
 have hx:=h.below h0
 generalize hw1:(((W.alloc (.cells #[.pointer (some ⟨b,0,none⟩)] 85)).alloc (.cells #[.int .i64 fr] 3)).alloc (.cells #[.int .i64 tt] 3))=w1 at *
 have hb0:=b0.get 0 rfl
 have hb1:=b0.get 1 rfl
 have hb2:=b0.get 2 rfl
 have hch:qje t.g.cols 199 #[.pointer (some ⟨W.heap.size+1,0,none⟩),.pointer (some ⟨W.heap.size+1+1,0,none⟩),.pointer (some ⟨W.heap.size,0,none⟩)] w1 (qo t.g.ls row) ⟨qac 1 (qa2 (qo t.g.ls row).cs fr.toNat (tt - fr).toNat t.lk),(qo t.g.ls row).soft⟩:=⟨fun _ _=>by kernel_rfl,fun A cc lvl W' hb hgi=>by
  have hm:=qif hr0 (qj4 hrow0 hrow1) lvl
  have hok:qjo t.g.cols [(qo t.g.ls row,lvl)] 0 fr tt t.lk=true:=by
   unfold qjo qcx
   rw[hm,decide_eq_true (show 0≤(0:Int)∧(0:Int) < ([(qo t.g.ls row,lvl)]:List (Ln×Value)).length from ⟨Int.le_refl _,by show (0:Int) < 1;omega⟩),decide_eq_true hf,decide_eq_true ht,decide_eq_true htc,hl]
   rfl
  have hT:=(hx.below hb).tab
  have hW:=(hx.below hb).tabW
  exact eraseC_any t.g.cols A cc _ lvl fr tt _ _ _ hgi hT hW (hb1.below hb hb1.lt) (hb2.below hb hb2.lt) (hb0.below hb hb0.lt) (hx.below hb) hok⟩
 have HC:=hid (qfs hx hr0 hrow0 hrow1 _ _ ⟨qac 1 (qa2 (qo t.g.ls row).cs fr.toNat (tt - fr).toNat t.lk),(qo t.g.ls row).soft⟩ hch hnew)
 have HW1:=hid hw1
 have HB:=hid (But.of_below (b:=b) h0)
 have k5:=hx.c_row.1
 have hlt:=h.lt
 have q0:=hb0.cell 0
 have q1:=hb1.cell 0
 have q2:=hb2.cell 0
 clear h hg hx b0 h0 hch hnew hr0 hrow0 hrow1 h0r h1r hf ht htc hl hb0 hb1 hb2
 subst hw1
 go_enter Tryz.func157,Tryz.ntmps157
 go_upto_region 1 with fail
 generalize hw1:(((W.alloc (.cells #[.pointer (some ⟨b,0,none⟩)] 85)).alloc (.cells #[.int .i64 fr] 3)).alloc (.cells #[.int .i64 tt] 3))=w1 at *
 clear hw1 HW1
 go_wp2_with ((with_reducible refine HC.out.mono ?_);rintro e w' ⟨rfl,h1,h2⟩)
 go_end0
 exact⟨rfl,h1,HB.out.trans h2⟩
theorem qhh (n : Int) (h : TAt M b mv t W) (hg : qm t.g = true) (h0r : 0 ≤ t.row) (h1r : t.row < t.g.ls.length) (hc0 : 0 ≤ t.col) (hc1 : t.col < t.g.cols) (hn : 0 ≤ n) (hl : qab t.lk = true) :
  Calls Tryz.prog 158 #[.pointer (some ⟨b,0,none⟩),.int .i64 n] W (qu M b mv W { t with g:=⟨t.g.cols,qbr t.g.ls t.row t.col n t.lk⟩ }):=by
 have hr0:=hg
 have hrow0:=h0r
 have hrow1:=h1r
 have hnew:qm ⟨t.g.cols,t.g.ls.set t.row.toNat ⟨qac 1 (qgc (qo t.g.ls t.row).cs t.col.toNat (min n.toNat ((qo t.g.ls t.row).cs.length - t.col.toNat)) t.lk),(qo t.g.ls t.row).soft⟩⟩=true:=qij hg h0r h1r hc1 hl
 have b0:=(((Bxs.nil W).alloc 85 #[.pointer (some ⟨b,0,none⟩)]).alloc 3 #[.int .i64 n])
 simp only[World.size_alloc,List.nil_append,List.cons_append] at b0
 have h0:Below W.heap.size W ((W.alloc (.cells #[.pointer (some ⟨b,0,none⟩)] 85)).alloc (.cells #[.int .i64 n] 3)):=((qa _ _).alloc (by simp <;> omega) _)
 have hx:=h.below h0
 generalize hw1:((W.alloc (.cells #[.pointer (some ⟨b,0,none⟩)] 85)).alloc (.cells #[.int .i64 n] 3))=w1 at *
 have hb0:=b0.get 0 rfl
 have hb1:=b0.get 1 rfl
 have hbd:Below w1.heap.size w1 w1.drew:=qf w1 1
 have hch:qje t.g.cols 201 #[.pointer (some ⟨W.heap.size,0,none⟩),.pointer (some ⟨W.heap.size+1,0,none⟩)] w1.drew (qo t.g.ls t.row) ⟨qac 1 (qgc (qo t.g.ls t.row).cs t.col.toNat (min n.toNat ((qo t.g.ls t.row).cs.length - t.col.toNat)) t.lk),(qo t.g.ls t.row).soft⟩:=⟨fun _ _=>by kernel_rfl,fun A cc lvl W' hb hgi=>by
  have hm:=qif hr0 (qj4 hrow0 hrow1) lvl
  have hok:qbo t.g.cols [(qo t.g.ls t.row,lvl)] 0 t.col n t.lk=true:=by
   unfold qbo qcx colB
   rw[hm,decide_eq_true (show 0≤(0:Int)∧(0:Int) < ([(qo t.g.ls t.row,lvl)]:List (Ln×Value)).length from ⟨Int.le_refl _,by show (0:Int) < 1;omega⟩),decide_eq_true (show 0≤t.col∧t.col < t.g.cols from ⟨hc0,hc1⟩),decide_eq_true hn,hl]
   rfl
  have hb':=hbd.trans hb
  have hT:=(hx.below hb').tab
  have hW:=(hx.below hb').tabW
  exact insertC_any t.g.cols A cc _ lvl n _ _ hgi hT hW (hb0.below hb' hb0.lt) (hb1.below hb' hb1.lt) (hx.below hb') hok⟩
 have HC:=hid (qfs hx.drew hr0 hrow0 hrow1 _ _ ⟨qac 1 (qgc (qo t.g.ls t.row).cs t.col.toNat (min n.toNat ((qo t.g.ls t.row).cs.length - t.col.toNat)) t.lk),(qo t.g.ls t.row).soft⟩ hch hnew)
 have HW1:=hid hw1
 have HB:=hid (But.of_below (b:=b) h0)
 have k5:=hx.c_row.1
 have hlt:=h.lt
 have q0:=hb0.cell 0
 have q1:=hb1.cell 0
 clear h hg hx b0 h0 hch hnew hr0 hrow0 hrow1 h0r h1r hc0 hc1 hn hl hb0 hb1
 clear hbd
 subst hw1
 go_enter Tryz.func158,Tryz.ntmps158
 go_upto_region 1 with fail
 generalize hw1:((W.alloc (.cells #[.pointer (some ⟨b,0,none⟩)] 85)).alloc (.cells #[.int .i64 n] 3))=w1 at *
 clear hw1 HW1
 go_wp2_with fail
 go_still_tail 7,(by kernel_rfl)
 change wpList _ _ _ _ _ w1.drew
 go_wp2_with ((with_reducible refine HC.out.mono ?_);rintro e w' ⟨rfl,h1,h2⟩)
 go_end0
 exact⟨rfl,h1,HB.out.trans ((But.refl b w1).drew.trans h2)⟩
theorem remove_any (n : Int) (h : TAt M b mv t W) (hg : qm t.g = true) (h0r : 0 ≤ t.row) (h1r : t.row < t.g.ls.length) (hc0 : 0 ≤ t.col) (hc1 : t.col < t.g.cols) (hn : 0 ≤ n) (hl : qab t.lk = true) :
  Calls Tryz.prog 159 #[.pointer (some ⟨b,0,none⟩),.int .i64 n] W (qu M b mv W { t with g:=⟨t.g.cols,qd6 t.g.ls t.row t.col n t.lk⟩ }):=by
 have hr0:=hg
 have hrow0:=h0r
 have hrow1:=h1r
 have hnew:qm ⟨t.g.cols,t.g.ls.set t.row.toNat ⟨qac 1 (qfw (qo t.g.ls t.row).cs t.col.toNat (min n.toNat ((qo t.g.ls t.row).cs.length - t.col.toNat)) t.lk),(qo t.g.ls t.row).soft⟩⟩=true:=rg_delete hg h0r h1r hl
 have b0:=(((Bxs.nil W).alloc 85 #[.pointer (some ⟨b,0,none⟩)]).alloc 3 #[.int .i64 n])
 simp only[World.size_alloc,List.nil_append,List.cons_append] at b0
 have h0:Below W.heap.size W ((W.alloc (.cells #[.pointer (some ⟨b,0,none⟩)] 85)).alloc (.cells #[.int .i64 n] 3)):=((qa _ _).alloc (by simp <;> omega) _)
 have hx:=h.below h0
 generalize hw1:((W.alloc (.cells #[.pointer (some ⟨b,0,none⟩)] 85)).alloc (.cells #[.int .i64 n] 3))=w1 at *
 have hb0:=b0.get 0 rfl
 have hb1:=b0.get 1 rfl
 have hbd:Below w1.heap.size w1 w1.drew:=qf w1 1
 have hch:qje t.g.cols 203 #[.pointer (some ⟨W.heap.size,0,none⟩),.pointer (some ⟨W.heap.size+1,0,none⟩)] w1.drew (qo t.g.ls t.row) ⟨qac 1 (qfw (qo t.g.ls t.row).cs t.col.toNat (min n.toNat ((qo t.g.ls t.row).cs.length - t.col.toNat)) t.lk),(qo t.g.ls t.row).soft⟩:=⟨fun _ _=>by kernel_rfl,fun A cc lvl W' hb hgi=>by
  have hm:=qif hr0 (qj4 hrow0 hrow1) lvl
  have hok:qbo t.g.cols [(qo t.g.ls t.row,lvl)] 0 t.col n t.lk=true:=by
   unfold qbo qcx colB
   rw[hm,decide_eq_true (show 0≤(0:Int)∧(0:Int) < ([(qo t.g.ls t.row,lvl)]:List (Ln×Value)).length from ⟨Int.le_refl _,by show (0:Int) < 1;omega⟩),decide_eq_true (show 0≤t.col∧t.col < t.g.cols from ⟨hc0,hc1⟩),decide_eq_true hn,hl]
   rfl
  have hb':=hbd.trans hb
  have hT:=(hx.below hb').tab
  have hW:=(hx.below hb').tabW
  exact removeC_any t.g.cols A cc _ lvl n _ _ hgi hT hW (hb0.below hb' hb0.lt) (hb1.below hb' hb1.lt) (hx.below hb') hok⟩
 have HC:=hid (qfs hx.drew hr0 hrow0 hrow1 _ _ ⟨qac 1 (qfw (qo t.g.ls t.row).cs t.col.toNat (min n.toNat ((qo t.g.ls t.row).cs.length - t.col.toNat)) t.lk),(qo t.g.ls t.row).soft⟩ hch hnew)
 have HW1:=hid hw1
 have HB:=hid (But.of_below (b:=b) h0)
 have k5:=hx.c_row.1
 have hlt:=h.lt
 have q0:=hb0.cell 0
 have q1:=hb1.cell 0
 clear h hg hx b0 h0 hch hnew hr0 hrow0 hrow1 h0r h1r hc0 hc1 hn hl hb0 hb1
 clear hbd
 subst hw1
 go_enter Tryz.func159,Tryz.ntmps159
 go_upto_region 1 with fail
 generalize hw1:((W.alloc (.cells #[.pointer (some ⟨b,0,none⟩)] 85)).alloc (.cells #[.int .i64 n] 3))=w1 at *
 clear hw1 HW1
 go_wp2_with fail
 go_still_tail 7,(by kernel_rfl)
 change wpList _ _ _ _ _ w1.drew
 go_wp2_with ((with_reducible refine HC.out.mono ?_);rintro e w' ⟨rfl,h1,h2⟩)
 go_end0
 exact⟨rfl,h1,HB.out.trans ((But.refl b w1).drew.trans h2)⟩
theorem qk7 (row : Int) (so : Bool) (h : TAt M b mv t W) (hg : qm t.g = true) (h0r : 0 ≤ row) (h1r : row < t.g.ls.length) :
  Calls Tryz.prog 197 #[.pointer (some ⟨b,0,none⟩),.int .i64 row,.bool so] W (qu M b mv W { t with g:=⟨t.g.cols,qci t.g.ls row so⟩ }):=by
 have hr0:=hg
 have hrow0:=h0r
 have hrow1:=h1r
 have hnew:qm ⟨t.g.cols,t.g.ls.set row.toNat ⟨(qo t.g.ls row).cs,so⟩⟩=true:=rg_soft hg h0r h1r so
 have b0:=((Bxs.nil W).alloc 4 #[.bool so])
 simp only[List.nil_append] at b0
 have h0:Below W.heap.size W (W.alloc (.cells #[.bool so] 4)):=(qa _ _)
 have hx:=h.below h0
 generalize hw1:(W.alloc (.cells #[.bool so] 4))=w1 at *
 have hb0:=b0.get 0 rfl
 have hch:qje t.g.cols 221 #[.pointer (some ⟨W.heap.size,0,none⟩)] w1 (qo t.g.ls row) ⟨(qo t.g.ls row).cs,so⟩:=⟨fun _ _=>by kernel_rfl,fun A cc lvl W' hb hgi=>by
  have hm:=qif hr0 (qj4 hrow0 hrow1) lvl
  have hok:softOk t.g.cols [(qo t.g.ls row,lvl)] 0=true:=by
   unfold softOk qcx
   rw[hm,decide_eq_true (show 0≤(0:Int)∧(0:Int) < ([(qo t.g.ls row,lvl)]:List (Ln×Value)).length from ⟨Int.le_refl _,by show (0:Int) < 1;omega⟩)]
   rfl
  have hT:=(hx.below hb).tab
  have hW:=(hx.below hb).tabW
  exact softC_any t.g.cols A cc _ lvl so _ hgi hT hW (hb0.below hb hb0.lt) hok⟩
 have HC:=hid (qfs hx hr0 hrow0 hrow1 _ _ ⟨(qo t.g.ls row).cs,so⟩ hch hnew)
 have HW1:=hid hw1
 have HB:=hid (But.of_below (b:=b) h0)
 have k5:=hx.c_row.1
 have hlt:=h.lt
 have q0:=hb0.cell 0
 clear h hg hx b0 h0 hch hnew hr0 hrow0 hrow1 h0r h1r  hb0
 subst hw1
 go_enter Tryz.func197,Tryz.ntmps197
 go_upto_region 1 with fail
 generalize hw1:(W.alloc (.cells #[.bool so] 4))=w1 at *
 clear hw1 HW1
 go_wp2_with ((with_reducible refine HC.out.mono ?_);rintro e w' ⟨rfl,h1,h2⟩)
 go_end0
 exact⟨rfl,h1,HB.out.trans h2⟩
end
end Go.Proofs.YtpdaekmbpafenaaGreatDoor
