
import Derived.Test.YtpdaekmbpafenaaGreatDoorGridOQ
import Derived.Test.YtpdaekmbpafenaaGreatDoorCellZQ
import Derived.StillTailTactics
import Derived.Test.YtpdaekmbpafenaaGreatDoorGridSoftQ
import Derived.Test.YtpdaekmbpafenaaGreatDoorGridEraseQ
import Derived.Test.YtpdaekmbpafenaaGreatDoorGridPdQ
import Derived.Test.YtpdaekmbpafenaaGreatDoorGridMnQ
import Derived.Deep.DeepCutAuto
namespace Go.Proofs.YtpdaekmbpafenaaGreatDoor
open Go.RowKit
set_option maxHeartbeats 1000000
set_option maxRecDepth 100000
def Sz (lv:List (Ln×Value)):Prop:=lv.length≤1000∧∀ e∈lv,e.1.cs.length≤1000
def SzL (ls:List Ln):Prop:=ls.length≤1000∧∀ l∈ls,l.cs.length≤1000
theorem Sz.of_map {lv:List (Ln×Value)} {ls:List Ln} (h:lv.map Prod.fst=ls) (hs:SzL ls):Sz lv:=by
 subst h
 exact⟨by have:=hs.1;rwa [List.length_map] at this,fun e he=>hs.2 _ (List.mem_map.2 ⟨e,he,rfl⟩)⟩
theorem Sm.szl {lv:List (Ln×Value)} (h:Sm lv):SzL (lv.map Prod.fst):=by
 refine⟨by rw[List.length_map];exact h.1,fun l hl=>?_⟩
 obtain⟨e,he,rfl⟩:=List.mem_map.1 hl
 exact(h.2 e he).1
theorem same_any (v1 v2 : Value) (l1 l2 : List (Ln × Value)) (W : World) (r1 : LR W v1 l1) (r2 : LR W v2 l2) (c1 : CesOf W l1) (c2 : CesOf W l2) (hm : l1.map Prod.fst = l2.map Prod.fst) (s1 : Sz l1) :
  Calls Tryz.prog 20 #[v1,v2] W fun e w'=>e=.returned (.bool true)∧Below W.heap.size W w':=by
 have hlen:l1.length=l2.length:=by have:=congrArg List.length hm;simpa using this
 obtain⟨A1,k1,rfl,_,h1⟩:=r1
 obtain⟨A2,k2,rfl,_,h2⟩:=r2
 obtain⟨n,hn⟩:∃ n,l1.length=n:=⟨_,rfl⟩
 rw[← hlen,hn]
 have HN:=hid hn
 have HM:=hid hm
 have HL2:Hid (l2.length=n):=by unfold Hid;rw[← hlen,hn]
 have hn1:n≤1000:=by rw[← hn];exact s1.1
 have C1:=hid c1
 have C2:=hid c2
 have S1:=hid s1
 clear hn hm hlen c1 c2 s1
 go_enter Tryz.func20,Tryz.ntmps20
 go_wp2
 go_loopw [13] (fun i wr=>∃ k:Nat,k≤n∧i=.int .i64 k∧Below W.heap.size W wr) (fun i _=>n - (intOf i).toNat)
 case atStart=>exact⟨0,by omega,rfl,Below.refl _ _⟩
 case round =>
  obtain⟨k,hk,rfl,hb⟩:=hrel
  by_cases hlt:k < n
  ·have hki:(k:Int) < n:=by omega
   have kl1:k < l1.length:=by rw[HN.out];exact hlt
   have kl2:k < l2.length:=by rw[HL2.out];exact hlt
   obtain⟨g1,o1,rfl,hg1,hc1⟩:=h1 (by intro e;rw[e] at kl1;simp at kl1)
   obtain⟨g2,o2,rfl,hg2,hc2⟩:=h2 (by intro e;rw[e] at kl2;simp at kl2)
   have hx1:=List.getElem?_eq_getElem kl1
   have hx2:=List.getElem?_eq_getElem kl2
   obtain⟨p0,p1⟩:=hc1 k _ hx1
   obtain⟨q0,q1⟩:=hc2 k _ hx2
   have p0:=(hb.cell (p:=⟨g1,o1+k * 2,none⟩) hg1).trans p0
   have p1:=(hb.cell (p:=⟨g1,o1+k * 2+1,none⟩) hg1).trans p1
   have q0:=(hb.cell (p:=⟨g2,o2+k * 2,none⟩) hg2).trans q0
   have q1:=(hb.cell (p:=⟨g2,o2+k * 2+1,none⟩) hg2).trans q1
   have hf:l1[k].1=l2[k].1:=by
    have h:=congrArg (fun l=>l[k]?) HM.out
    simp only[List.getElem?_map,hx1,hx2,Option.map_some] at h
    exact Option.some.inj h
   have e1:=C1.out l1[k] (List.getElem_mem _)
   have e2:=C2.out l2[k] (List.getElem_mem _)
   have z1:=S1.out.2 l1[k] (List.getElem_mem _)
   generalize l1[k]=x1 at *
   generalize l2[k]=x2 at *
   obtain⟨⟨cs,soft⟩,u1⟩:=x1
   obtain⟨L2,u2⟩:=x2
   simp only at hf e1 e2 z1 p0 p1 q0 q1
   subst hf
   simp only at e2 q1
   have hS:=rSameLine_eq u1 u2 soft cs wr.drew (((e1.below hb)).below (Below.refl _ _).drew) (((e2.below hb)).below (Below.refl _ _).drew) (by omega)
   obtain⟨B1,d1,rfl⟩:=e1.spell
   obtain⟨B2,d2,rfl⟩:=e2.spell
   have HS:=hid hS
   have HB:=hid hb
   clear hx1 hx2 e1 e2 hS hb hc1 hc2 h1 h2
   go_wp2_with fail
   go_still_tail 8,(by kernel_rfl)
   change wpList _ _ _ _ _ wr.drew
   go_wp2_with fail
   with_reducible refine HS.out.mono ?_
   rintro e w2 ⟨rfl,hb2⟩
   dsimp only
   have hb3:=HB.out.trans (((Below.refl _ _).drew.trans hb2).mono HB.out.size)
   have HB3:=hid hb3
   clear hb2 hb3 p0 p1 q0 q1
   go_wp2
   go_roundw
   case rel=>exact⟨k+1,by omega,by go_num,HB3.out⟩
   case measure=>simp[intOf];omega
  ·have hkm:k=n:=by omega
   subst hkm
   clear h1 h2
   go_wp2
   go_ret
   exact⟨rfl,hb⟩
def GOut (W:World) (cols:Int) (lv:List (Ln×Value)) (ok:Bool) (n:Int) (tgt:List Ln) (e:Ending) (w':World):Prop :=
 ∃ xc A k c xn,e=.returned (.tuple #[.agg #[.int .i64 xc,.slice A k c],.int .i64 xn])∧Below W.heap.size W w' ∧
  ((ok=true∧xc=cols∧xn=0∧∃ lv',lv'.map Prod.fst=tgt∧LSl w' W.heap.size (.slice A k c) lv'∧NewOf w' W.heap.size lv lv')∨(ok=false∧xc=0∧(.slice A k c:Value)=.slice none 0 0∧xn=n))
theorem GNo.out {W:World} {cols n:Int} {lv:List (Ln×Value)} {ok:Bool} {tgt:List Ln} {e:Ending} {w':World} (h:GNo W n e w') (hk:ok=false):GOut W cols lv ok n tgt e w' :=
 ⟨0,none,0,0,n,h.1,h.2,.inr ⟨hk,rfl,rfl,rfl⟩⟩
theorem GYes.out {W:World} {cols n:Int} {lv:List (Ln×Value)} {ok:Bool} {tgt:List Ln} {e:Ending} {w':World} (h:GYes W cols lv tgt e w') (hk:ok=true):GOut W cols lv ok n tgt e w':=by
 obtain⟨v,lv',h1,h2,h3,h4,h5⟩:=h
 obtain⟨A,c,rfl⟩:=h3.spell
 exact⟨cols,A,_,c,0,h1,h5,.inl ⟨hk,rfl,rfl,lv',h2,h3,h4⟩⟩
def qo (ls:List Ln) (row:Int):Ln:=(ls[row.toNat]?).getD ⟨[],false⟩
theorem qgo {row:Int} {lv:List (Ln×Value)} (h:qcx row lv.length=true):∃ (r:Nat) (cs:List Ce) (soft:Bool) (u:Value),row=r∧lv[r]?=some (⟨cs,soft⟩,u)∧qo (lv.map Prod.fst) row=⟨cs,soft⟩:=by
 have h':0≤row∧row < lv.length:=of_decide_eq_true h
 obtain⟨r,rfl⟩:∃ r:Nat,row=r:=⟨row.toNat,by omega⟩
 have hr:r < lv.length:=by omega
 have hx:=List.getElem?_eq_getElem hr
 refine⟨r,lv[r].1.cs,lv[r].1.soft,lv[r].2,rfl,hx,?_⟩
 unfold qo
 rw[Int.toNat_natCast,List.getElem?_map,hx]
 rfl
def qiy (cols:Int) (lv:List (Ln×Value)) (row col:Int) (c:Ce):Bool:=qbd cols lv && (qcx row lv.length && (colB col cols && (qq c && decide (c.tx.size≠0))))
def roomB (cols col:Int) (c:Ce):Bool:=decide (c.wd=2∧col=cols - 1)
def putT (ls:List Ln) (row col:Int) (c:Ce):List Ln:=ls.set row.toNat ⟨qac 1 (qga (qo ls row).cs col.toNat c),(qo ls row).soft⟩
theorem mayB_cols {cols:Int} {lv:List (Ln×Value)} (h:qbd cols lv=true):(1≤cols∧cols≤80)∧1≤(lv.length:Int)∧(lv.length:Int)≤50:=by
 unfold qbd qbl at h
 rw[Bool.and_eq_true,Bool.and_eq_true,decide_eq_true_iff,decide_eq_true_iff] at h
 exact h.1
theorem put_out (cols row col : Int) (v : Value) (lv : List (Ln × Value)) (c : Ce) (W : World) (hg : GIn W v lv) (htx : c.tx.size ≤ 1000) (hT : Tab W) (hW : TabW W) :
  Calls Tryz.prog 240 #[.agg #[.int .i64 cols,v],.int .i64 row,.int .i64 col,c.agg] W (GOut W cols lv (qiy cols lv row col c && !roomB cols col c) (if qiy cols lv row col c=true then 9 else 1) (putT (lv.map Prod.fst) row col c)):=by
 have hok:qiy cols lv row col c=(qbd cols lv && (qcx row lv.length && (colB col cols && (qq c && decide (c.tx.size≠0))))):=rfl
 have no:∀ (h:qiy cols lv row col c=false) {e w'},GNo W 1 e w'→GOut W cols lv (qiy cols lv row col c && !roomB cols col c) (if qiy cols lv row col c=true then 9 else 1) (putT (lv.map Prod.fst) row col c) e w':=fun h e w' hn=>by
  rw[h]
  exact GNo.out hn rfl
 cases a0:qbd cols lv
 ·exact(put_no cols row col v lv c W hg htx hT hW (by simp[a0])).mono fun _ _ h=>no (by rw[hok,a0];rfl) h
 cases a1:qcx row lv.length
 ·exact(put_no cols row col v lv c W hg htx hT hW (by simp[a1])).mono fun _ _ h=>no (by rw[hok,a0,a1];rfl) h
 cases a2:colB col cols
 ·exact(put_no cols row col v lv c W hg htx hT hW (by simp[a2])).mono fun _ _ h=>no (by rw[hok,a0,a1,a2];rfl) h
 cases a3:qq c
 ·exact(put_no cols row col v lv c W hg htx hT hW (by simp[a3])).mono fun _ _ h=>no (by rw[hok,a0,a1,a2,a3];rfl) h
 by_cases a4:c.tx.size=0
 ·exact(put_no4 cols row col v lv c W hg htx hT hW a0 a1 a2 a3 a4).mono fun _ _ h=>no (by rw[hok,a0,a1,a2,a3,decide_eq_false (by simpa using a4)];rfl) h
 have hyes:qiy cols lv row col c=true:=by rw[hok,a0,a1,a2,a3,decide_eq_true a4];rfl
 have hcc:=mayB_cols a0
 rw[hyes]
 by_cases a5:c.wd=2∧col=cols - 1
 ·have hr:roomB cols col c=true:=decide_eq_true a5
  rw[hr]
  exact(put_room cols row col v lv c W hg htx hT hW a0 a1 a2 a3 a4 a5.1 a5.2 hcc.1).mono fun _ _ h=>GNo.out h rfl
 ·have hr:roomB cols col c=false:=decide_eq_false a5
  rw[hr]
  obtain⟨r,cs,soft,u,rfl,hx,hrow⟩:=qgo a1
  have h2:0≤col∧col < cols:=of_decide_eq_true a2
  obtain⟨q,rfl⟩:∃ q:Nat,col=q:=⟨col.toNat,by omega⟩
  have ht:putT (lv.map Prod.fst) r q c=(lv.map Prod.fst).set r ⟨qac 1 (qga cs q c),soft⟩:=by
   unfold putT
   rw[hrow,Int.toNat_natCast,Int.toNat_natCast]
  rw[ht]
  by_cases hw:c.wd=2
  ·exact(put_yes2 cols r q v lv c cs soft u W hg htx hT hW hx a0 a1 a2 a3 a4 hw (fun h=>a5 ⟨hw,h⟩)).mono fun _ _ h=>GYes.out h rfl
  ·exact(put_yes1 cols r q v lv c cs soft u W hg htx hT hW hx a0 a1 a2 a3 a4 hw).mono fun _ _ h=>GYes.out h rfl
def qjo (cols:Int) (lv:List (Ln×Value)) (row fr tt:Int) (a:At):Bool:=(qbd cols lv && qcx row lv.length) && (decide (0≤fr) && (decide (fr≤tt) && (decide (tt≤cols) && qab a)))
def qe0 (ls:List Ln) (row fr tt:Int) (a:At):List Ln:=ls.set row.toNat ⟨qac 1 (qa2 (qo ls row).cs fr.toNat (tt - fr).toNat a),(qo ls row).soft⟩
theorem erase_out (cols row fr tt : Int) (a : At) (v : Value) (lv : List (Ln × Value)) (W : World) (hg : GIn W v lv) (hT : Tab W) (hW : TabW W) :
  Calls Tryz.prog 200 #[.agg #[.int .i64 cols,v],.int .i64 row,.int .i64 fr,.int .i64 tt,a.agg] W (GOut W cols lv (qjo cols lv row fr tt a) 1 (qe0 (lv.map Prod.fst) row fr tt a)):=by
 have hok:qjo cols lv row fr tt a=((qbd cols lv && qcx row lv.length) && (decide (0≤fr) && (decide (fr≤tt) && (decide (tt≤cols) && qab a)))):=rfl
 cases a0:qbd cols lv
 ·exact(qgp cols row fr tt a v lv W hg hT hW (by simp[a0])).mono fun _ _ h=>h.out (by rw[hok,a0];rfl)
 cases a1:qcx row lv.length
 ·exact(qgp cols row fr tt a v lv W hg hT hW (by simp[a1])).mono fun _ _ h=>h.out (by rw[hok,a0,a1];rfl)
 by_cases a2:fr < 0
 ·exact(qgp cols row fr tt a v lv W hg hT hW (by simp[a2])).mono fun _ _ h=>h.out (by rw[hok,a0,a1,decide_eq_false (by omega)];rfl)
 by_cases a3:tt < fr
 ·exact(qgp cols row fr tt a v lv W hg hT hW (by simp[a3])).mono fun _ _ h=>h.out (by rw[hok,decide_eq_false (p:=fr≤tt) (by omega),Bool.false_and,Bool.and_false,Bool.and_false])
 by_cases a4:cols < tt
 ·exact(qgp cols row fr tt a v lv W hg hT hW (by simp[a4])).mono fun _ _ h=>h.out (by rw[hok,decide_eq_false (p:=tt≤cols) (by omega),Bool.false_and,Bool.and_false,Bool.and_false,Bool.and_false])
 cases a5:qab a
 ·exact(qgp cols row fr tt a v lv W hg hT hW (by simp[a5])).mono fun _ _ h=>h.out (by rw[hok,a5,Bool.and_false,Bool.and_false,Bool.and_false,Bool.and_false])
 obtain⟨r,cs,soft,u,rfl,hx,hrow⟩:=qgo a1
 obtain⟨o,rfl⟩:∃ o:Nat,fr=o:=⟨fr.toNat,by omega⟩
 obtain⟨m,rfl⟩:∃ m:Nat,tt=((o+m:Nat):Int):=⟨(tt - o).toNat,by omega⟩
 have ht:qe0 (lv.map Prod.fst) r o ((o+m:Nat):Int) a=(lv.map Prod.fst).set r ⟨qac 1 (qa2 cs o m a),soft⟩:=by
  unfold qe0
  rw[hrow,Int.toNat_natCast,Int.toNat_natCast,show (((o+m:Nat):Int) - (o:Int)).toNat=m by omega]
 rw[ht]
 exact(erase_yes cols r o m a v lv cs soft u W hg hT hW hx a0 a1 (by omega) a5).mono fun _ _ h=>h.out (by rw[hok,a0,a1,a5,decide_eq_true (p:=0≤(o:Int)) (by omega),decide_eq_true (p:=(o:Int)≤((o+m:Nat):Int)) (by omega),decide_eq_true (p:=((o+m:Nat):Int)≤cols) (by omega)];rfl)
def softOk (cols:Int) (lv:List (Ln×Value)) (row:Int):Bool:=qbd cols lv && qcx row lv.length
def qci (ls:List Ln) (row:Int) (s:Bool):List Ln:=ls.set row.toNat ⟨(qo ls row).cs,s⟩
theorem soft_out (cols row : Int) (s : Bool) (v : Value) (lv : List (Ln × Value)) (W : World) (hg : GIn W v lv) (hT : Tab W) (hW : TabW W) :
  Calls Tryz.prog 222 #[.agg #[.int .i64 cols,v],.int .i64 row,.bool s] W (GOut W cols lv (softOk cols lv row) 1 (qci (lv.map Prod.fst) row s)):=by
 have hok:softOk cols lv row=(qbd cols lv && qcx row lv.length):=rfl
 cases a0:qbd cols lv
 ·exact(soft_no0 cols row s v lv W hg hT hW a0).mono fun _ _ h=>h.out (by rw[hok,a0];rfl)
 cases a1:qcx row lv.length
 ·exact(soft_no1 cols row s v lv W hg hT hW a0 a1).mono fun _ _ h=>h.out (by rw[hok,a0,a1];rfl)
 obtain⟨r,cs,soft,u,rfl,hx,hrow⟩:=qgo a1
 have hfit:=qg2 a0 hx
 have ht:qci (lv.map Prod.fst) r s=(lv.map Prod.fst).set r ⟨qac 1 cs,s⟩:=by
  unfold qci
  rw[hrow,Int.toNat_natCast,mend_fits hfit]
 rw[ht]
 exact(soft_yes cols r s v lv cs soft u W hg hT hW hx a0 a1).mono fun _ _ h=>h.out (by rw[hok,a0,a1];rfl)
set_option maxHeartbeats 2000000
set_option maxRecDepth 100000
theorem insert_no (cols row col num : Int) (a : At) (v : Value) (lv : List (Ln × Value)) (W : World) (hg : GIn W v lv) (hT : Tab W) (hW : TabW W) (a0 : qbo cols lv row col num a = false) :
  Calls Tryz.prog 202 #[.agg #[.int .i64 cols,v],.int .i64 row,.int .i64 col,.int .i64 num,a.agg] W (GNo W 1):=by
 obtain⟨A,c0,rfl⟩:=hg.lr.spell
 have HG:=hid hg
 have HTT:=hid hT
 have HWW:=hid hW
 have hmay:=fun w (hb:Below W.heap.size W w)=>qe8 cols row col num a _ lv w (hg.below hb) (hT.below hb) (hW.below hb)
 obtain⟨fg,bg,fl⟩:=a
 obtain⟨n,hn⟩:∃ n,lv.length=n:=⟨_,rfl⟩
 have HN:=hid hn
 have b0:=((((((Bxs.nil W).alloc 24 #[.int .i64 cols,.slice A n c0]).alloc 3 #[.int .i64 col]).alloc 3 #[.int .i64 num]).alloc 26 #[.int .i64 fg,.int .i64 bg,.int .i64 fl]).alloc 24 #[.int .i64 0,.slice none 0 0])
 simp only[World.size_alloc,List.nil_append,List.cons_append] at b0
 have h0:Below W.heap.size W (((((W.alloc (.cells #[.int .i64 cols,.slice A n c0] 24)).alloc (.cells #[.int .i64 col] 3)).alloc (.cells #[.int .i64 num] 3)).alloc (.cells #[.int .i64 fg,.int .i64 bg,.int .i64 fl] 26)).alloc (.cells #[.int .i64 0,.slice none 0 0] 24)):=(((((qa _ _).alloc (by simp <;> omega) _).alloc (by simp <;> omega) _).alloc (by simp <;> omega) _).alloc (by simp <;> omega) _)
 have s0:W.heap.size+1+1+1+1+1≤(((((W.alloc (.cells #[.int .i64 cols,.slice A n c0] 24)).alloc (.cells #[.int .i64 col] 3)).alloc (.cells #[.int .i64 num] 3)).alloc (.cells #[.int .i64 fg,.int .i64 bg,.int .i64 fl] 26)).alloc (.cells #[.int .i64 0,.slice none 0 0] 24)).heap.size:=by simp
 have BX0:=hid b0
 have H0:=hid h0
 have S0:=hid s0
 rw[hn] at hmay ⊢
 rw[a0] at hmay
 unfold At.agg at hmay ⊢
 simp only at hmay ⊢
 have HMAY:=hid hmay
 clear hg hT hW hn b0 h0 s0 hmay a0
 go_enter Tryz.func202,Tryz.ntmps202
 go_upto_region 1 with fail
 generalize (((((W.alloc (.cells #[.int .i64 cols,.slice A n c0] 24)).alloc (.cells #[.int .i64 col] 3)).alloc (.cells #[.int .i64 num] 3)).alloc (.cells #[.int .i64 fg,.int .i64 bg,.int .i64 fl] 26)).alloc (.cells #[.int .i64 0,.slice none 0 0] 24))=w0 at *
 obtain⟨⟨k0_0,k0_1⟩,f0_0,f0_1⟩:=(BX0.out.get 0 rfl).two
 have k1_0:=(BX0.out.get 1 rfl).cell 0
 have f1_0:=(BX0.out.get 1 rfl).free 0
 have k2_0:=(BX0.out.get 2 rfl).cell 0
 have f2_0:=(BX0.out.get 2 rfl).free 0
 obtain⟨⟨k3_0,k3_1,k3_2⟩,f3_0,f3_1,f3_2⟩:=(BX0.out.get 3 rfl).three
 obtain⟨⟨k4_0,k4_1⟩,f4_0,f4_1⟩:=(BX0.out.get 4 rfl).two
 have hcall:=HMAY.out w0 H0.out
 have HCALL:=hid hcall
 clear hcall
 go_wp2_with fail
 with_reducible refine HCALL.out.mono ?_
 rintro e w1 ⟨rfl,hb⟩
 dsimp only
 have BX1:=hid (BX0.out.below hb)
 have H1:=hid (H0.out.trans (hb.mono H0.out.size))
 have S1:=hid (Nat.le_trans S0.out hb.size)
 clear hb HCALL
 clear k0_0 k0_1 k1_0 k2_0 k3_0 k3_1 k3_2 k4_0 k4_1 f0_0 f0_1 f1_0 f2_0 f3_0 f3_1 f3_2 f4_0 f4_1
 obtain⟨⟨k0_0,k0_1⟩,f0_0,f0_1⟩:=(BX1.out.get 0 rfl).two
 have k1_0:=(BX1.out.get 1 rfl).cell 0
 have f1_0:=(BX1.out.get 1 rfl).free 0
 have k2_0:=(BX1.out.get 2 rfl).cell 0
 have f2_0:=(BX1.out.get 2 rfl).free 0
 obtain⟨⟨k3_0,k3_1,k3_2⟩,f3_0,f3_1,f3_2⟩:=(BX1.out.get 3 rfl).three
 obtain⟨⟨k4_0,k4_1⟩,f4_0,f4_1⟩:=(BX1.out.get 4 rfl).two
 go_wp2
 refine bodyPost_ret (v:=.tuple #[.agg #[.int .i64 0,.slice none 0 0],.int .i64 1]) (by simp[results,Tryz.results202,go_sem,k4_0,k4_1]) rfl ⟨rfl,?_⟩
 exact(H1.out.setCell (p:=⟨W.heap.size+1+1+1+1,0,none⟩) (by show W.heap.size≤W.heap.size+1+1+1+1;omega) _).setCell (p:=⟨W.heap.size+1+1+1+1,1,none⟩) (by show W.heap.size≤W.heap.size+1+1+1+1;omega) _
theorem insert_yes (cols num : Int) (r q m : Nat) (a : At) (v : Value) (lv : List (Ln × Value)) (cs : List Ce) (soft : Bool) (lvl : Value) (W : World) (hg : GIn W v lv) (hT : Tab W) (hW : TabW W) (hx : lv[r]? = some (⟨cs, soft⟩, lvl)) (a0 : qbo cols lv r q num a = true) (hm : (num ≤ ((cs.length - q : Nat) : Int) ∧ num = m) ∨ (((cs.length - q : Nat) : Int) < num ∧ m = cs.length - q)) :
  Calls Tryz.prog 202 #[.agg #[.int .i64 cols,v],.int .i64 r,.int .i64 q,.int .i64 num,a.agg] W (GYes W cols lv ((lv.map Prod.fst).set r ⟨qac 1 (qgc cs q m a),soft⟩)):=by
 have a0':=a0
 unfold qbo at a0'
 simp only[Bool.and_eq_true,decide_eq_true_iff] at a0'
 obtain⟨z0,z1,z2,z3,z4⟩:=a0'
 have hfit:=fits_iff.1 (qg2 z0 hx)
 simp only at hfit
 have hcc:=z0
 unfold qbd qbl at hcc
 rw[Bool.and_eq_true,Bool.and_eq_true,decide_eq_true_iff,decide_eq_true_iff] at hcc
 have hq:0≤(q:Int)∧(q:Int) < cols:=of_decide_eq_true z2
 have hcs:cs.length≤1000:=by omega
 have hql:q < cs.length:=by omega
 have hlen:(qgc cs q m a).length≤1000:=by
  unfold qgc
  rw[qai _ (by rw[qw];omega),qw]
  exact hcs
 obtain⟨A,c0,rfl⟩:=hg.lr.spell
 have HG:=hid hg
 have HTT:=hid hT
 have HWW:=hid hW
 have hmay:=fun w (hb:Below W.heap.size W w)=>qe8 cols r q num a _ lv w (hg.below hb) (hT.below hb) (hW.below hb)
 have hchg:=fun w (b1 b2 b3:Nat) h1 h2 h3 k1 k2 k3=>insert_chg w.heap.size w cs soft q m num a b1 b2 b3 h1 h2 h3 k1 k2 k3 hql hcs z3 hm
 obtain⟨fg,bg,fl⟩:=a
 obtain⟨n,hn⟩:∃ n,lv.length=n:=⟨_,rfl⟩
 have HN:=hid hn
 have b0:=((((((Bxs.nil W).alloc 24 #[.int .i64 cols,.slice A n c0]).alloc 3 #[.int .i64 q]).alloc 3 #[.int .i64 num]).alloc 26 #[.int .i64 fg,.int .i64 bg,.int .i64 fl]).alloc 24 #[.int .i64 0,.slice none 0 0])
 simp only[World.size_alloc,List.nil_append,List.cons_append] at b0
 have h0:Below W.heap.size W (((((W.alloc (.cells #[.int .i64 cols,.slice A n c0] 24)).alloc (.cells #[.int .i64 q] 3)).alloc (.cells #[.int .i64 num] 3)).alloc (.cells #[.int .i64 fg,.int .i64 bg,.int .i64 fl] 26)).alloc (.cells #[.int .i64 0,.slice none 0 0] 24)):=(((((qa _ _).alloc (by simp <;> omega) _).alloc (by simp <;> omega) _).alloc (by simp <;> omega) _).alloc (by simp <;> omega) _)
 have s0:W.heap.size+1+1+1+1+1≤(((((W.alloc (.cells #[.int .i64 cols,.slice A n c0] 24)).alloc (.cells #[.int .i64 q] 3)).alloc (.cells #[.int .i64 num] 3)).alloc (.cells #[.int .i64 fg,.int .i64 bg,.int .i64 fl] 26)).alloc (.cells #[.int .i64 0,.slice none 0 0] 24)).heap.size:=by simp
 have BX0:=hid b0
 have H0:=hid h0
 have S0:=hid s0
 rw[hn] at hmay ⊢
 rw[a0] at hmay
 unfold At.agg at hmay ⊢
 simp only at hmay ⊢
 have HMAY:=hid hmay
 have HX:=hid hx
 have HCH:=hid hchg
 have HPL:=hid hlen
 clear hg hT hW hn b0 h0 s0 hmay a0 z0 z1 z2 z3 z4 hfit hcc hq hql hlen hx hchg hm
 go_enter Tryz.func202,Tryz.ntmps202
 go_upto_region 1 with fail
 generalize (((((W.alloc (.cells #[.int .i64 cols,.slice A n c0] 24)).alloc (.cells #[.int .i64 q] 3)).alloc (.cells #[.int .i64 num] 3)).alloc (.cells #[.int .i64 fg,.int .i64 bg,.int .i64 fl] 26)).alloc (.cells #[.int .i64 0,.slice none 0 0] 24))=w0 at *
 obtain⟨⟨k0_0,k0_1⟩,f0_0,f0_1⟩:=(BX0.out.get 0 rfl).two
 have k1_0:=(BX0.out.get 1 rfl).cell 0
 have f1_0:=(BX0.out.get 1 rfl).free 0
 have k2_0:=(BX0.out.get 2 rfl).cell 0
 have f2_0:=(BX0.out.get 2 rfl).free 0
 obtain⟨⟨k3_0,k3_1,k3_2⟩,f3_0,f3_1,f3_2⟩:=(BX0.out.get 3 rfl).three
 obtain⟨⟨k4_0,k4_1⟩,f4_0,f4_1⟩:=(BX0.out.get 4 rfl).two
 have hcall:=HMAY.out w0 H0.out
 have HCALL:=hid hcall
 clear hcall
 go_wp2_with fail
 with_reducible refine HCALL.out.mono ?_
 rintro e w1 ⟨rfl,hb⟩
 dsimp only
 have BX1:=hid (BX0.out.below hb)
 have H1:=hid (H0.out.trans (hb.mono H0.out.size))
 have S1:=hid (Nat.le_trans S0.out hb.size)
 clear hb HCALL
 clear k0_0 k0_1 k1_0 k2_0 k3_0 k3_1 k3_2 k4_0 k4_1 f0_0 f0_1 f1_0 f2_0 f3_0 f3_1 f3_2 f4_0 f4_1
 obtain⟨⟨k0_0,k0_1⟩,f0_0,f0_1⟩:=(BX1.out.get 0 rfl).two
 have k1_0:=(BX1.out.get 1 rfl).cell 0
 have f1_0:=(BX1.out.get 1 rfl).free 0
 have k2_0:=(BX1.out.get 2 rfl).cell 0
 have f2_0:=(BX1.out.get 2 rfl).free 0
 obtain⟨⟨k3_0,k3_1,k3_2⟩,f3_0,f3_1,f3_2⟩:=(BX1.out.get 3 rfl).three
 obtain⟨⟨k4_0,k4_1⟩,f4_0,f4_1⟩:=(BX1.out.get 4 rfl).two
 have hin:=HG.out.below H1.out
 have hcall:=qdw cols _ lv r 228 #[.pointer (some ⟨W.heap.size+1,0,none⟩),.pointer (some ⟨W.heap.size+1+1,0,none⟩),.pointer (some ⟨W.heap.size+1+1+1,0,none⟩)] w1 cs _ soft soft lvl hin.lr hin.ces hin.sm HX.out (HCH.out w1 _ _ _ (by have:=S1.out;omega) (by have:=S1.out;omega) (by have:=S1.out;omega) (BX1.out.get 1 rfl) (BX1.out.get 2 rfl) (BX1.out.get 3 rfl)) (HPL.out)
 rw[HN.out] at hcall
 have HCALL:=hid hcall
 clear hcall hin HCH
 go_wp2_with fail
 with_reducible refine HCALL.out.mono ?_
 rintro e w2 ⟨v5,lv5,rfl,hm5,hl5,hn5,hb5⟩
 dsimp only
 have BX2:=hid (BX1.out.below hb5)
 have H2:=hid (H1.out.trans (hb5.mono H1.out.size))
 obtain⟨A5,c5,hs5⟩:=hl5.spell
 subst hs5
 have HM5:=hid hm5
 have HL5:=hid hl5
 have HN5:=hid hn5
 clear hm5 hl5 hn5 hb5 HCALL
 clear k0_0 k0_1 k1_0 k2_0 k3_0 k3_1 k3_2 k4_0 k4_1 f0_0 f0_1 f1_0 f2_0 f3_0 f3_1 f3_2 f4_0 f4_1
 obtain⟨⟨k0_0,k0_1⟩,f0_0,f0_1⟩:=(BX2.out.get 0 rfl).two
 have k1_0:=(BX2.out.get 1 rfl).cell 0
 have f1_0:=(BX2.out.get 1 rfl).free 0
 have k2_0:=(BX2.out.get 2 rfl).cell 0
 have f2_0:=(BX2.out.get 2 rfl).free 0
 obtain⟨⟨k3_0,k3_1,k3_2⟩,f3_0,f3_1,f3_2⟩:=(BX2.out.get 3 rfl).three
 obtain⟨⟨k4_0,k4_1⟩,f4_0,f4_1⟩:=(BX2.out.get 4 rfl).two
 have hm3:=(BX2.out.get 4 rfl)
 have HM3:=hid hm3
 clear hm3
 go_wp2
 refine bodyPost_ret (v:=.tuple #[.agg #[.int .i64 cols,.slice A5 lv5.length c5],.int .i64 0]) (by simp[results,Tryz.results202,go_sem,k4_0,k4_1]) rfl ?_
 exact qgi HM5.out HL5.out HN5.out H1.out.size H2.out HM3.out (by show W.heap.size≤W.heap.size+1+1+1+1;omega) rfl
def qbr (ls:List Ln) (row col num:Int) (a:At):List Ln:=ls.set row.toNat ⟨qac 1 (qgc (qo ls row).cs col.toNat (min num.toNat ((qo ls row).cs.length - col.toNat)) a),(qo ls row).soft⟩
theorem insert_out (cols row col num : Int) (a : At) (v : Value) (lv : List (Ln × Value)) (W : World) (hg : GIn W v lv) (hT : Tab W) (hW : TabW W) :
  Calls Tryz.prog 202 #[.agg #[.int .i64 cols,v],.int .i64 row,.int .i64 col,.int .i64 num,a.agg] W (GOut W cols lv (qbo cols lv row col num a) 1 (qbr (lv.map Prod.fst) row col num a)):=by
 cases a0:qbo cols lv row col num a
 ·exact(insert_no cols row col num a v lv W hg hT hW a0).mono fun _ _ h=>h.out rfl
 ·have a0':=a0
  unfold qbo at a0'
  simp only[Bool.and_eq_true,decide_eq_true_iff] at a0'
  obtain⟨z0,z1,z2,z3,z4⟩:=a0'
  obtain⟨r,cs,soft,u,rfl,hx,hrow⟩:=qgo z1
  have h2:0≤col∧col < cols:=of_decide_eq_true z2
  obtain⟨q,rfl⟩:∃ q:Nat,col=q:=⟨col.toNat,by omega⟩
  have ht:qbr (lv.map Prod.fst) r q num a=(lv.map Prod.fst).set r ⟨qac 1 (qgc cs q (min num.toNat (cs.length - q)) a),soft⟩:=by
   unfold qbr
   rw[hrow,Int.toNat_natCast,Int.toNat_natCast]
  rw[ht]
  exact(insert_yes cols num r q (min num.toNat (cs.length - q)) a v lv cs soft u W hg hT hW hx a0 (by omega)).mono fun _ _ h=>h.out rfl
theorem delete_no (cols row col num : Int) (a : At) (v : Value) (lv : List (Ln × Value)) (W : World) (hg : GIn W v lv) (hT : Tab W) (hW : TabW W) (a0 : qbo cols lv row col num a = false) :
  Calls Tryz.prog 204 #[.agg #[.int .i64 cols,v],.int .i64 row,.int .i64 col,.int .i64 num,a.agg] W (GNo W 1):=by
 obtain⟨A,c0,rfl⟩:=hg.lr.spell
 have HG:=hid hg
 have HTT:=hid hT
 have HWW:=hid hW
 have hmay:=fun w (hb:Below W.heap.size W w)=>qe8 cols row col num a _ lv w (hg.below hb) (hT.below hb) (hW.below hb)
 obtain⟨fg,bg,fl⟩:=a
 obtain⟨n,hn⟩:∃ n,lv.length=n:=⟨_,rfl⟩
 have HN:=hid hn
 have b0:=((((((Bxs.nil W).alloc 24 #[.int .i64 cols,.slice A n c0]).alloc 3 #[.int .i64 col]).alloc 3 #[.int .i64 num]).alloc 26 #[.int .i64 fg,.int .i64 bg,.int .i64 fl]).alloc 24 #[.int .i64 0,.slice none 0 0])
 simp only[World.size_alloc,List.nil_append,List.cons_append] at b0
 have h0:Below W.heap.size W (((((W.alloc (.cells #[.int .i64 cols,.slice A n c0] 24)).alloc (.cells #[.int .i64 col] 3)).alloc (.cells #[.int .i64 num] 3)).alloc (.cells #[.int .i64 fg,.int .i64 bg,.int .i64 fl] 26)).alloc (.cells #[.int .i64 0,.slice none 0 0] 24)):=(((((qa _ _).alloc (by simp <;> omega) _).alloc (by simp <;> omega) _).alloc (by simp <;> omega) _).alloc (by simp <;> omega) _)
 have s0:W.heap.size+1+1+1+1+1≤(((((W.alloc (.cells #[.int .i64 cols,.slice A n c0] 24)).alloc (.cells #[.int .i64 col] 3)).alloc (.cells #[.int .i64 num] 3)).alloc (.cells #[.int .i64 fg,.int .i64 bg,.int .i64 fl] 26)).alloc (.cells #[.int .i64 0,.slice none 0 0] 24)).heap.size:=by simp
 have BX0:=hid b0
 have H0:=hid h0
 have S0:=hid s0
 rw[hn] at hmay ⊢
 rw[a0] at hmay
 unfold At.agg at hmay ⊢
 simp only at hmay ⊢
 have HMAY:=hid hmay
 clear hg hT hW hn b0 h0 s0 hmay a0
 go_enter Tryz.func204,Tryz.ntmps204
 go_upto_region 1 with fail
 generalize (((((W.alloc (.cells #[.int .i64 cols,.slice A n c0] 24)).alloc (.cells #[.int .i64 col] 3)).alloc (.cells #[.int .i64 num] 3)).alloc (.cells #[.int .i64 fg,.int .i64 bg,.int .i64 fl] 26)).alloc (.cells #[.int .i64 0,.slice none 0 0] 24))=w0 at *
 obtain⟨⟨k0_0,k0_1⟩,f0_0,f0_1⟩:=(BX0.out.get 0 rfl).two
 have k1_0:=(BX0.out.get 1 rfl).cell 0
 have f1_0:=(BX0.out.get 1 rfl).free 0
 have k2_0:=(BX0.out.get 2 rfl).cell 0
 have f2_0:=(BX0.out.get 2 rfl).free 0
 obtain⟨⟨k3_0,k3_1,k3_2⟩,f3_0,f3_1,f3_2⟩:=(BX0.out.get 3 rfl).three
 obtain⟨⟨k4_0,k4_1⟩,f4_0,f4_1⟩:=(BX0.out.get 4 rfl).two
 have hcall:=HMAY.out w0 H0.out
 have HCALL:=hid hcall
 clear hcall
 go_wp2_with fail
 with_reducible refine HCALL.out.mono ?_
 rintro e w1 ⟨rfl,hb⟩
 dsimp only
 have BX1:=hid (BX0.out.below hb)
 have H1:=hid (H0.out.trans (hb.mono H0.out.size))
 have S1:=hid (Nat.le_trans S0.out hb.size)
 clear hb HCALL
 clear k0_0 k0_1 k1_0 k2_0 k3_0 k3_1 k3_2 k4_0 k4_1 f0_0 f0_1 f1_0 f2_0 f3_0 f3_1 f3_2 f4_0 f4_1
 obtain⟨⟨k0_0,k0_1⟩,f0_0,f0_1⟩:=(BX1.out.get 0 rfl).two
 have k1_0:=(BX1.out.get 1 rfl).cell 0
 have f1_0:=(BX1.out.get 1 rfl).free 0
 have k2_0:=(BX1.out.get 2 rfl).cell 0
 have f2_0:=(BX1.out.get 2 rfl).free 0
 obtain⟨⟨k3_0,k3_1,k3_2⟩,f3_0,f3_1,f3_2⟩:=(BX1.out.get 3 rfl).three
 obtain⟨⟨k4_0,k4_1⟩,f4_0,f4_1⟩:=(BX1.out.get 4 rfl).two
 go_wp2
 refine bodyPost_ret (v:=.tuple #[.agg #[.int .i64 0,.slice none 0 0],.int .i64 1]) (by simp[results,Tryz.results204,go_sem,k4_0,k4_1]) rfl ⟨rfl,?_⟩
 exact(H1.out.setCell (p:=⟨W.heap.size+1+1+1+1,0,none⟩) (by show W.heap.size≤W.heap.size+1+1+1+1;omega) _).setCell (p:=⟨W.heap.size+1+1+1+1,1,none⟩) (by show W.heap.size≤W.heap.size+1+1+1+1;omega) _
theorem delete_yes (cols num : Int) (r q m : Nat) (a : At) (v : Value) (lv : List (Ln × Value)) (cs : List Ce) (soft : Bool) (lvl : Value) (W : World) (hg : GIn W v lv) (hT : Tab W) (hW : TabW W) (hx : lv[r]? = some (⟨cs, soft⟩, lvl)) (a0 : qbo cols lv r q num a = true) (hm : (num ≤ ((cs.length - q : Nat) : Int) ∧ num = m) ∨ (((cs.length - q : Nat) : Int) < num ∧ m = cs.length - q)) :
  Calls Tryz.prog 204 #[.agg #[.int .i64 cols,v],.int .i64 r,.int .i64 q,.int .i64 num,a.agg] W (GYes W cols lv ((lv.map Prod.fst).set r ⟨qac 1 (qfw cs q m a),soft⟩)):=by
 have a0':=a0
 unfold qbo at a0'
 simp only[Bool.and_eq_true,decide_eq_true_iff] at a0'
 obtain⟨z0,z1,z2,z3,z4⟩:=a0'
 have hfit:=fits_iff.1 (qg2 z0 hx)
 simp only at hfit
 have hcc:=z0
 unfold qbd qbl at hcc
 rw[Bool.and_eq_true,Bool.and_eq_true,decide_eq_true_iff,decide_eq_true_iff] at hcc
 have hq:0≤(q:Int)∧(q:Int) < cols:=of_decide_eq_true z2
 have hcs:cs.length≤1000:=by omega
 have hql:q < cs.length:=by omega
 have hlen:(qfw cs q m a).length≤1000:=by
  unfold qfw
  rw[qai _ (by rw[qw];omega),qw]
  exact hcs
 obtain⟨A,c0,rfl⟩:=hg.lr.spell
 have HG:=hid hg
 have HTT:=hid hT
 have HWW:=hid hW
 have hmay:=fun w (hb:Below W.heap.size W w)=>qe8 cols r q num a _ lv w (hg.below hb) (hT.below hb) (hW.below hb)
 have hchg:=fun w (b1 b2 b3:Nat) h1 h2 h3 k1 k2 k3=>delete_chg w.heap.size w cs soft q m num a b1 b2 b3 h1 h2 h3 k1 k2 k3 hql hcs z3 hm
 obtain⟨fg,bg,fl⟩:=a
 obtain⟨n,hn⟩:∃ n,lv.length=n:=⟨_,rfl⟩
 have HN:=hid hn
 have b0:=((((((Bxs.nil W).alloc 24 #[.int .i64 cols,.slice A n c0]).alloc 3 #[.int .i64 q]).alloc 3 #[.int .i64 num]).alloc 26 #[.int .i64 fg,.int .i64 bg,.int .i64 fl]).alloc 24 #[.int .i64 0,.slice none 0 0])
 simp only[World.size_alloc,List.nil_append,List.cons_append] at b0
 have h0:Below W.heap.size W (((((W.alloc (.cells #[.int .i64 cols,.slice A n c0] 24)).alloc (.cells #[.int .i64 q] 3)).alloc (.cells #[.int .i64 num] 3)).alloc (.cells #[.int .i64 fg,.int .i64 bg,.int .i64 fl] 26)).alloc (.cells #[.int .i64 0,.slice none 0 0] 24)):=(((((qa _ _).alloc (by simp <;> omega) _).alloc (by simp <;> omega) _).alloc (by simp <;> omega) _).alloc (by simp <;> omega) _)
 have s0:W.heap.size+1+1+1+1+1≤(((((W.alloc (.cells #[.int .i64 cols,.slice A n c0] 24)).alloc (.cells #[.int .i64 q] 3)).alloc (.cells #[.int .i64 num] 3)).alloc (.cells #[.int .i64 fg,.int .i64 bg,.int .i64 fl] 26)).alloc (.cells #[.int .i64 0,.slice none 0 0] 24)).heap.size:=by simp
 have BX0:=hid b0
 have H0:=hid h0
 have S0:=hid s0
 rw[hn] at hmay ⊢
 rw[a0] at hmay
 unfold At.agg at hmay ⊢
 simp only at hmay ⊢
 have HMAY:=hid hmay
 have HX:=hid hx
 have HCH:=hid hchg
 have HPL:=hid hlen
 clear hg hT hW hn b0 h0 s0 hmay a0 z0 z1 z2 z3 z4 hfit hcc hq hql hlen hx hchg hm
 go_enter Tryz.func204,Tryz.ntmps204
 go_upto_region 1 with fail
 generalize (((((W.alloc (.cells #[.int .i64 cols,.slice A n c0] 24)).alloc (.cells #[.int .i64 q] 3)).alloc (.cells #[.int .i64 num] 3)).alloc (.cells #[.int .i64 fg,.int .i64 bg,.int .i64 fl] 26)).alloc (.cells #[.int .i64 0,.slice none 0 0] 24))=w0 at *
 obtain⟨⟨k0_0,k0_1⟩,f0_0,f0_1⟩:=(BX0.out.get 0 rfl).two
 have k1_0:=(BX0.out.get 1 rfl).cell 0
 have f1_0:=(BX0.out.get 1 rfl).free 0
 have k2_0:=(BX0.out.get 2 rfl).cell 0
 have f2_0:=(BX0.out.get 2 rfl).free 0
 obtain⟨⟨k3_0,k3_1,k3_2⟩,f3_0,f3_1,f3_2⟩:=(BX0.out.get 3 rfl).three
 obtain⟨⟨k4_0,k4_1⟩,f4_0,f4_1⟩:=(BX0.out.get 4 rfl).two
 have hcall:=HMAY.out w0 H0.out
 have HCALL:=hid hcall
 clear hcall
 go_wp2_with fail
 with_reducible refine HCALL.out.mono ?_
 rintro e w1 ⟨rfl,hb⟩
 dsimp only
 have BX1:=hid (BX0.out.below hb)
 have H1:=hid (H0.out.trans (hb.mono H0.out.size))
 have S1:=hid (Nat.le_trans S0.out hb.size)
 clear hb HCALL
 clear k0_0 k0_1 k1_0 k2_0 k3_0 k3_1 k3_2 k4_0 k4_1 f0_0 f0_1 f1_0 f2_0 f3_0 f3_1 f3_2 f4_0 f4_1
 obtain⟨⟨k0_0,k0_1⟩,f0_0,f0_1⟩:=(BX1.out.get 0 rfl).two
 have k1_0:=(BX1.out.get 1 rfl).cell 0
 have f1_0:=(BX1.out.get 1 rfl).free 0
 have k2_0:=(BX1.out.get 2 rfl).cell 0
 have f2_0:=(BX1.out.get 2 rfl).free 0
 obtain⟨⟨k3_0,k3_1,k3_2⟩,f3_0,f3_1,f3_2⟩:=(BX1.out.get 3 rfl).three
 obtain⟨⟨k4_0,k4_1⟩,f4_0,f4_1⟩:=(BX1.out.get 4 rfl).two
 have hin:=HG.out.below H1.out
 have hcall:=qdw cols _ lv r 229 #[.pointer (some ⟨W.heap.size+1,0,none⟩),.pointer (some ⟨W.heap.size+1+1,0,none⟩),.pointer (some ⟨W.heap.size+1+1+1,0,none⟩)] w1 cs _ soft soft lvl hin.lr hin.ces hin.sm HX.out (HCH.out w1 _ _ _ (by have:=S1.out;omega) (by have:=S1.out;omega) (by have:=S1.out;omega) (BX1.out.get 1 rfl) (BX1.out.get 2 rfl) (BX1.out.get 3 rfl)) (HPL.out)
 rw[HN.out] at hcall
 have HCALL:=hid hcall
 clear hcall hin HCH
 go_wp2_with fail
 with_reducible refine HCALL.out.mono ?_
 rintro e w2 ⟨v5,lv5,rfl,hm5,hl5,hn5,hb5⟩
 dsimp only
 have BX2:=hid (BX1.out.below hb5)
 have H2:=hid (H1.out.trans (hb5.mono H1.out.size))
 obtain⟨A5,c5,hs5⟩:=hl5.spell
 subst hs5
 have HM5:=hid hm5
 have HL5:=hid hl5
 have HN5:=hid hn5
 clear hm5 hl5 hn5 hb5 HCALL
 clear k0_0 k0_1 k1_0 k2_0 k3_0 k3_1 k3_2 k4_0 k4_1 f0_0 f0_1 f1_0 f2_0 f3_0 f3_1 f3_2 f4_0 f4_1
 obtain⟨⟨k0_0,k0_1⟩,f0_0,f0_1⟩:=(BX2.out.get 0 rfl).two
 have k1_0:=(BX2.out.get 1 rfl).cell 0
 have f1_0:=(BX2.out.get 1 rfl).free 0
 have k2_0:=(BX2.out.get 2 rfl).cell 0
 have f2_0:=(BX2.out.get 2 rfl).free 0
 obtain⟨⟨k3_0,k3_1,k3_2⟩,f3_0,f3_1,f3_2⟩:=(BX2.out.get 3 rfl).three
 obtain⟨⟨k4_0,k4_1⟩,f4_0,f4_1⟩:=(BX2.out.get 4 rfl).two
 have hm3:=(BX2.out.get 4 rfl)
 have HM3:=hid hm3
 clear hm3
 go_wp2
 refine bodyPost_ret (v:=.tuple #[.agg #[.int .i64 cols,.slice A5 lv5.length c5],.int .i64 0]) (by simp[results,Tryz.results204,go_sem,k4_0,k4_1]) rfl ?_
 exact qgi HM5.out HL5.out HN5.out H1.out.size H2.out HM3.out (by show W.heap.size≤W.heap.size+1+1+1+1;omega) rfl
def qd6 (ls:List Ln) (row col num:Int) (a:At):List Ln:=ls.set row.toNat ⟨qac 1 (qfw (qo ls row).cs col.toNat (min num.toNat ((qo ls row).cs.length - col.toNat)) a),(qo ls row).soft⟩
theorem delete_out (cols row col num : Int) (a : At) (v : Value) (lv : List (Ln × Value)) (W : World) (hg : GIn W v lv) (hT : Tab W) (hW : TabW W) :
  Calls Tryz.prog 204 #[.agg #[.int .i64 cols,v],.int .i64 row,.int .i64 col,.int .i64 num,a.agg] W (GOut W cols lv (qbo cols lv row col num a) 1 (qd6 (lv.map Prod.fst) row col num a)):=by
 cases a0:qbo cols lv row col num a
 ·exact(delete_no cols row col num a v lv W hg hT hW a0).mono fun _ _ h=>h.out rfl
 ·have a0':=a0
  unfold qbo at a0'
  simp only[Bool.and_eq_true,decide_eq_true_iff] at a0'
  obtain⟨z0,z1,z2,z3,z4⟩:=a0'
  obtain⟨r,cs,soft,u,rfl,hx,hrow⟩:=qgo z1
  have h2:0≤col∧col < cols:=of_decide_eq_true z2
  obtain⟨q,rfl⟩:∃ q:Nat,col=q:=⟨col.toNat,by omega⟩
  have ht:qd6 (lv.map Prod.fst) r q num a=(lv.map Prod.fst).set r ⟨qac 1 (qfw cs q (min num.toNat (cs.length - q)) a),soft⟩:=by
   unfold qd6
   rw[hrow,Int.toNat_natCast,Int.toNat_natCast]
  rw[ht]
  exact(delete_yes cols num r q (min num.toNat (cs.length - q)) a v lv cs soft u W hg hT hW hx a0 (by omega)).mono fun _ _ h=>h.out rfl
theorem rblank_any (a : At) (w : World) :
  Calls Tryz.prog 51 #[a.agg] w fun e w'=>e=.returned (qd0 a).agg∧Below w.heap.size w w':=by
 obtain⟨fg,bg,fl⟩:=a
 unfold At.agg
 go_enter Tryz.func51,Tryz.ntmps51
 go_wp2
 refine bodyPost_ret (v:=Ce.agg ⟨⟨#[]⟩,1,0,bg,0⟩) (by simp[results,Tryz.results51,go_sem,Ce.agg,Ce.cells]) rfl ⟨rfl,?_⟩
 exact(qa _ _).alloc (by simp) _
end Go.Proofs.YtpdaekmbpafenaaGreatDoor
