
import Derived.Test.YtpdaekmbpafenaaGreatDoorLtRowQ
import Derived.Test.YtpdaekmbpafenaaGreatDoorCellHQ
import Derived.Laws.AppendOwn
import Derived.Maps.AppendAt
namespace Go.Proofs.YtpdaekmbpafenaaGreatDoor
set_option maxHeartbeats 1000000
set_option maxRecDepth 100000
open Go.RowKit
def Only (b:Nat) (W W':World):Prop:=W.grownBy W' (some b)
theorem Only.refl (b:Nat) (W:World):Only b W W:=World.grownBy.refl W _
theorem Only.trans {b:Nat} {W W1 W2:World} (h:Only b W W1) (h2:Only b W1 W2):Only b W W2:=World.grownBy.trans h h2
theorem Only.of_below {b:Nat} {W W1:World} (h:Below W.heap.size W W1):Only b W W1:=⟨h.os,h.tape,h.output,h.size,fun k hk _=>h.block k hk⟩
theorem Only.set {b i:Nat} {W W1:World} (h:Only b W W1) (u:Value):Only b W (W1.setCell ⟨b,i,none⟩ u) :=
 ⟨h.os,h.tape,h.output,by rw[qfn];exact h.size,fun k hk hne=>(Below.heap_setCell W1 ⟨b,i,none⟩ u k (fun e=>hne (by rw[e]))).trans (h.block k hk hne)⟩
theorem Only.below {b:Nat} {W W1:World} (h:Only b W W1) {B:Nat} (hB:B≤W.heap.size) (hb:B≤b):Below B W W1:=(Below.refl B W).grown h hB (fun k hk=>by cases hk;exact hb)
theorem Box.only {W W':World} {b c:Nat} {t:TypeId} {cs:Array Value} (h:Box W c t cs) (hb:Only b W W') (hne:c≠b):Box W' c t cs:=h.grown hb (by simpa using hne)
def CBox (W:World) (g:Nat) (l:List Ce) (cap:Nat):Prop :=
 ∃ cur:Array Value,Box W g 57 cur∧cur.size=cap * 5∧l.length≤cap∧∀ j e,l[j]?=some e→∀ i u,e.cells[i]?=some u→cur[j * 5+i]?=some u
theorem CBox.lt {W:World} {g cap:Nat} {l:List Ce} (h:CBox W g l cap):g < W.heap.size:=by obtain⟨cur,hb,_⟩:=h;exact hb.lt
theorem CBox.cell {W:World} {g cap:Nat} {l:List Ce} (h:CBox W g l cap) {j:Nat} {e:Ce} (hj:l[j]?=some e) {i:Nat} {u:Value} (hu:e.cells[i]?=some u):W.cell? ⟨g,j * 5+i,none⟩=some u:=by
 obtain⟨cur,hb,_,_,hc⟩:=h
 rw[hb.cell]
 exact hc j e hj i u hu
theorem CBox.free {W:World} {g cap:Nat} {l:List Ce} (h:CBox W g l cap) (i:Nat):W.frozen? ⟨g,i,none⟩=false:=by obtain⟨cur,hb,_⟩:=h;exact hb.free i
theorem CBox.below {W W':World} {g cap B:Nat} {l:List Ce} (h:CBox W g l cap) (hb:Below B W W') (hB:g < B):CBox W' g l cap:=by
 obtain⟨cur,h1,h2⟩:=h
 exact⟨cur,h1.below hb hB,h2⟩
theorem CBox.only {W W':World} {g cap b:Nat} {l:List Ce} (h:CBox W g l cap) (hb:Only b W W') (hne:g≠b):CBox W' g l cap:=by
 obtain⟨cur,h1,h2⟩:=h
 exact⟨cur,h1.only hb hne,h2⟩
theorem CBox.drewN {W:World} {g cap n:Nat} {l:List Ce} (h:CBox W g l cap):CBox (W.drewN n) g l cap:=h
theorem CBox.drew {W:World} {g cap:Nat} {l:List Ce} (h:CBox W g l cap):CBox W.drew g l cap:=h
theorem Only.drew {b:Nat} {W W1:World} (h:Only b W W1):Only b W W1.drew:=⟨h.os,h.tape,h.output,h.size,h.block⟩
theorem CBox.row {W:World} {g cap:Nat} {l:List Ce} (h:CBox W g l cap):CeRow W (.slice (some ⟨g,0,none⟩) l.length cap) l:=by
 have hg:=h.lt
 have hc:l.length≤cap:=by obtain⟨_,_,_,hc,_⟩:=h;exact hc
 exact⟨_,_,rfl,hc,fun _=>⟨g,0,rfl,hg,fun j e he i u hu=>by rw[Nat.zero_add];exact h.cell he hu⟩⟩
def set5 (W:World) (g o:Nat) (e:Ce):World :=
 ((((W.setCell ⟨g,o,none⟩ (.string e.tx)).setCell ⟨g,o+1,none⟩ (.int .i64 e.wd)).setCell ⟨g,o+2,none⟩ (.int .i64 e.fg)).setCell ⟨g,o+3,none⟩ (.int .i64 e.bg)).setCell ⟨g,o+4,none⟩ (.int .i64 e.fl)
theorem CBox.set5 {W:World} {g cap:Nat} {l:List Ce} (h:CBox W g l cap) {k:Nat} (hk:k < l.length) (e:Ce):CBox (set5 W g (k * 5) e) g (l.set k e) cap:=by
 obtain⟨cur,hb,hs,hl,hc⟩:=h
 refine⟨_,((((hb.set (i:=k * 5) _).set (i:=k * 5+1) _).set (i:=k * 5+2) _).set (i:=k * 5+3) _).set (i:=k * 5+4) _,by simp[hs],by rw[List.length_set];exact hl,?_⟩
 intro j e' hj i u hu
 have hi:i < 5:=by have:=(Array.getElem?_eq_some_iff.1 hu).1;simpa [Ce.cells] using this
 by_cases hjk:j=k
 ·subst hjk
  rw[List.getElem?_set_self hk] at hj
  cases hj
  have hz:j * 5+4 < cur.size:=by omega
  obtain rfl | rfl | rfl | rfl | rfl:i=0∨i=1∨i=2∨i=3∨i=4:=by omega
  all_goals
   simp[Ce.cells] at hu
   subst hu
   simp only[Array.getElem?_setIfInBounds,Array.size_setIfInBounds]
   repeat (first | rw[if_neg (by omega)] | rw[if_pos trivial] | rw[if_pos (by omega)])
 ·rw[List.getElem?_set_ne (Ne.symm hjk)] at hj
  have:=hc j e' hj i u hu
  simp only[Array.getElem?_setIfInBounds,Array.size_setIfInBounds]
  repeat rw[if_neg (by omega)]
  exact this
theorem Only.set5 {W W1:World} {g o:Nat} (h:Only g W W1) (e:Ce):Only g W (set5 W1 g o e):=((((h.set _).set _).set _).set _).set _
theorem CBox.five {W : World} {g cap : Nat} {l : List Ce} (h : CBox W g l cap) {k : Nat} (hk : k < l.length) {q : Nat} (hq : q = k * 5) :
  ∃ e:Ce,l[k]?=some e∧(W.cell? ⟨g,q,none⟩=some (.string e.tx)∧W.cell? ⟨g,q+1,none⟩=some (.int .i64 e.wd)∧W.cell? ⟨g,q+2,none⟩=some (.int .i64 e.fg)∧W.cell? ⟨g,q+3,none⟩=some (.int .i64 e.bg)∧W.cell? ⟨g,q+4,none⟩=some (.int .i64 e.fl)) ∧
   (W.frozen? ⟨g,q,none⟩=false∧W.frozen? ⟨g,q+1,none⟩=false∧W.frozen? ⟨g,q+2,none⟩=false∧W.frozen? ⟨g,q+3,none⟩=false∧W.frozen? ⟨g,q+4,none⟩=false):=by
 subst hq
 have he:=List.getElem?_eq_getElem hk
 exact⟨l[k],he,⟨h.cell (i:=0) he rfl,h.cell (i:=1) he rfl,h.cell (i:=2) he rfl,h.cell (i:=3) he rfl,h.cell (i:=4) he rfl⟩,h.free _,h.free _,h.free _,h.free _,h.free _⟩
def qa2 (l:List Ce) (o n:Nat) (a:At):List Ce:=l.take o ++ (List.replicate n (qd0 a) ++ l.drop (o+n))
theorem qai {l:List Ce} {o n:Nat} (a:At) (h:o+n≤l.length):(qa2 l o n a).length=l.length:=by
 unfold qa2
 simp
 omega
theorem qlw (l:List Ce) (o:Nat) (a:At):qa2 l o 0 a=l:=by
 unfold qa2
 simp
theorem eraseL_at {l:List Ce} {o n:Nat} (a:At) (h:o+n≤l.length) (j:Nat):(qa2 l o n a)[j]?=if o≤j∧j < o+n then some (qd0 a) else l[j]?:=by
 unfold qa2
 by_cases h1:j < o
 ·rw[if_neg (by omega),List.getElem?_append_left (by simp;omega),List.getElem?_take,if_pos h1]
 ·rw[List.getElem?_append_right (by simp;omega)]
  have e1:(l.take o).length=o:=by simp;omega
  rw[e1]
  by_cases h2:j < o+n
  ·rw[if_pos (by omega),List.getElem?_append_left (by simp;omega),List.getElem?_replicate,if_pos (by omega)]
  ·rw[if_neg (by omega),List.getElem?_append_right (by simp;omega),List.length_replicate,List.getElem?_drop]
   congr 1
   omega
theorem eraseL_step {l:List Ce} {o k:Nat} (a:At) (h:o+k < l.length):(qa2 l o k a).set (o+k) (qd0 a)=qa2 l o (k+1) a:=by
 apply List.ext_getElem?
 intro j
 rw[eraseL_at a (by omega)]
 by_cases hj:j=o+k
 ·subst hj
  rw[List.getElem?_set_self (by rw[qai a (by omega)];exact h),if_pos (by omega)]
 ·rw[List.getElem?_set_ne (Ne.symm hj),eraseL_at a (by omega)]
  exact qhw (by omega)
theorem blk_agg (a:At):Ce.agg ⟨⟨#[]⟩,1,0,a.bg,0⟩=(qd0 a).agg:=rfl
def ErPost (W:World) (g cap:Nat) (l:List Ce) (e:Ending) (w':World):Prop:=e=.returned (.tuple #[])∧CBox w' g l cap∧Only g W w'
theorem qdo (g o n c cap : Nat) (l : List Ce) (a : At) (W : World) (hb : CBox W g l cap) (hn : o + n ≤ l.length) (hl : l.length ≤ 1000000) :
  Calls Tryz.prog 116 #[.slice (some ⟨g,o * 5,none⟩) n c,a.agg] W (ErPost W g cap (qa2 l o n a)):=by
 have hbl:=blank_any a
 rw[blk_agg] at hbl
 have hbx:=Box.new W 26 a.cells
 have hb1:=hb.below (qa W (.cells a.cells 26)) hb.lt
 have hg:=hb.lt
 obtain⟨x,hx⟩:∃ x,qd0 a=x:=⟨_,rfl⟩
 have HX:=hid hx
 obtain⟨fg,bg,fl⟩:=a
 unfold At.agg At.cells at *
 simp only at *
 rw[hx] at hbl
 unfold Ce.agg Ce.cells at hbl
 have HB:=hid hbx
 have HC:=hid hb1
 clear hx hbx hb1 hb
 go_enter Tryz.func116,Tryz.ntmps116
 go_wp2
 go_loopw [7] (fun i wr=>∃ k:Nat,k≤n∧i=.int .i64 k∧Box wr W.heap.size 26 #[.int .i64 fg,.int .i64 bg,.int .i64 fl]∧CBox wr g (qa2 l o k ⟨fg,bg,fl⟩) cap∧Only g W wr) (fun i _=>n - (intOf i).toNat)
 case atStart=>exact⟨0,by omega,rfl,HB.out,by rw[qlw];exact HC.out,Only.of_below (qa _ _)⟩
 case round =>
  obtain⟨k,hk,rfl,hbA,hcb,hon⟩:=hrel
  by_cases hlt:k < n
  ·have hki:(k:Int) < n:=by omega
   obtain⟨⟨a0,a1,a2⟩,af0,af1,af2⟩:=hbA.three
   have hgr:=Nat.lt_of_lt_of_le hg hon.size
   clear HB HC
   go_wp2_with fail
   refine(hbl _).mono ?_
   rintro e w2 ⟨rfl,hb2⟩
   dsimp only
   obtain⟨old,_,⟨k0,k1,k2,k3,k4⟩,f0,f1,f2,f3,f4⟩:=(hcb.below hb2 hgr).five (k:=o+k) (by rw[qai _ (by omega)];omega) (q:=o * 5+k * 5) (by omega)
   clear a0 a1 a2 af0 af1 af2
   go_wp2
   go_roundw
   case rel =>
    have hq:o * 5+k * 5=(o+k) * 5:=by omega
    rw[hq]
    have h5:=(hcb.below hb2 hgr).set5 (k:=o+k) (by rw[qai _ (by omega)];omega) x
    refine⟨k+1,by omega,by go_num,(hbA.below hb2 hbA.lt).only (Only.set5 (Only.refl g w2) x) (by omega),?_,Only.set5 (hon.trans (Only.of_below hb2)) x⟩
    rw[← eraseL_step _ (by omega),HX.out]
    exact h5
   case measure=>simp[intOf];omega
  ·have hkm:k=n:=by omega
   subst hkm
   go_wp2
   go_end0
   exact⟨rfl,hcb,hon⟩
theorem qlx (A : Option Addr) (c : Nat) (a : At) (W : World) :
  Calls Tryz.prog 116 #[.slice A 0 c,a.agg] W fun e w'=>e=.returned (.tuple #[])∧Below W.heap.size W w':=by
 obtain⟨fg,bg,fl⟩:=a
 unfold At.agg
 go_enter Tryz.func116,Tryz.ntmps116
 go_wp2
 go_loopw [7] (fun i wr=>i=.int .i64 0∧Below W.heap.size W wr) (fun _ _=>0)
 case atStart=>exact⟨rfl,qa _ _⟩
 case round =>
  obtain⟨rfl,hb⟩:=hrel
  go_wp2
  go_end0
  exact⟨rfl,hb⟩
set_option maxHeartbeats 1000000
set_option maxRecDepth 100000
theorem mend_none (A : Option Addr) (c : Nat) (W : World) :
  Calls Tryz.prog 187 #[.slice A 0 c] W fun e w'=>e=.returned (.tuple #[])∧Below W.heap.size W w':=by
 go_enter Tryz.func187,Tryz.ntmps187
 go_wp2
 go_loopw [6] (fun i wr=>i=.int .i64 0∧Below W.heap.size W wr) (fun _ _=>0)
 case atStart=>exact⟨rfl,Below.refl _ _⟩
 case round =>
  obtain⟨rfl,hb⟩:=hrel
  go_wp2
  go_end0
  exact⟨rfl,hb⟩
def MendRel (W:World) (g cap:Nat) (l:List Ce) (k:Nat) (wr:World):Prop :=
 ∃ done rest:List Ce,done.length=k∧k+rest.length=l.length∧done ++ qac (qd1 done) rest=qac 1 l∧CBox wr g (done ++ rest) cap∧Only g W wr
theorem mend_some (g n cap : Nat) (l : List Ce) (W : World) (hb : CBox W g l cap) (hn : l.length = n) (hl : l.length ≤ 1000000) :
  Calls Tryz.prog 187 #[.slice (some ⟨g,0,none⟩) n cap] W (ErPost W g cap (qac 1 l)):=by
 have HC:=hid hb
 have hg:=hb.lt
 have HN:=hid hn
 rw[hn] at hl
 clear hb hn
 go_enter Tryz.func187,Tryz.ntmps187
 go_wp2
 go_loopw [6] (fun i wr=>∃ k:Nat,k≤n∧i=.int .i64 k∧MendRel W g cap l k wr) (fun i _=>n - (intOf i).toNat)
 case atStart=>exact⟨0,by omega,rfl,[],l,rfl,by omega,rfl,HC.out,Only.refl _ _⟩
 case round =>
  obtain⟨k,hk,rfl,done,rest,hd,hr,hm,hcb,hon⟩:=hrel
  have hgr:=Nat.lt_of_lt_of_le hg hon.size
  by_cases hlt:k < n
  ·have hki:(k:Int) < n:=by omega
   obtain⟨x,r,rfl⟩:∃ x r,rest=x :: r:=by
    cases rest with
    | nil=>have:=HN.out;simp at hr;omega
    | cons x r=>exact⟨x,r,rfl⟩
   have hkl:k < (done ++ x :: r).length:=by simp;omega
   obtain⟨e,he,⟨k0,k1,k2,k3,k4⟩,f0,f1,f2,f3,f4⟩:=hcb.five (k:=k) hkl (q:=k * 5) rfl
   have hex:e=x:=by
    rw[← hd,List.getElem?_append_right (by omega)] at he
    simpa using he.symm
   subst hex
   have hdn:(done ++ e :: r).length=n:=by have:=HN.out;rw[List.length_append];omega
   have hb1:=hcb.below (qa wr (.cells e.cells 57)) hgr
   have hc1:=cut_any _ (done ++ e :: r) k _ hb1.row (by rw[hdn];exact hlt) (by rw[hdn];exact hl)
   rw[hdn] at hc1
   rw[← hd,half_at,hd] at hc1
   have hms:=mend_step done e r
   rw[hm] at hms
   have hbl:=blank_any e.at
   rw[blk_agg] at hbl
   have hbx:=Box.new wr 57 e.cells
   have HS:=hid hms
   have HM:=hid hm
   have HR:=hid hr
   have HD:=hid hd
   have HDN:=hid hdn
   have HB:=hid hb1
   have HL:=hid hkl
   have HX:=hid hbx
   clear hms hm hr hd hdn hb1 hkl hbx he
   obtain⟨tx,wd,fg,bg,fl⟩:=e
   unfold At.agg Ce.at at hbl
   unfold Ce.cells at hc1 HX
   simp only at *
   obtain⟨⟨a0,a1,a2,a3,a4⟩,_⟩:=HX.out.five
   cases hh:hf (qd1 done) ⟨tx,wd,fg,bg,fl⟩ r
   ·rw[hh] at hc1
    have HH:=hid hh
    clear hh hbl
    go_wp2_with fail
    with_reducible refine hc1.mono ?_
    rintro e2 w2 ⟨rfl,rfl⟩
    dsimp only
    go_wp2
    go_roundw
    case rel =>
     refine⟨k+1,by omega,by go_num,done ++ [⟨tx,wd,fg,bg,fl⟩],r,by have:=HD.out;simp;omega,by have:=HR.out;simp at this;omega,?_,?_,hon.trans (Only.of_below (qa _ _))⟩
     ·have h:=HS.out
      rw[HH.out,if_neg (by simp)] at h
      exact h.symm
     ·rw[List.append_assoc];exact HB.out
    case measure=>simp[intOf];omega
   ·rw[hh] at hc1
    have HH:=hid hh
    obtain⟨x,hx⟩:∃ x,qd0 ⟨fg,bg,fl⟩=x:=⟨_,rfl⟩
    rw[hx] at hbl
    have HY:=hid hx
    unfold Ce.agg Ce.cells at hbl
    clear hh hx
    go_wp2_with fail
    with_reducible refine hc1.mono ?_
    rintro e2 w2 ⟨rfl,rfl⟩
    dsimp only
    go_wp2_with fail
    with_reducible refine(hbl _).mono ?_
    rintro e2 w2 ⟨rfl,hb2⟩
    dsimp only
    obtain⟨old,_,⟨q0,q1,q2,q3,q4⟩,p0,p1,p2,p3,p4⟩:=(HB.out.below hb2 (by simp;omega)).five (k:=k) HL.out (q:=k * 5) rfl
    clear k0 k1 k2 k3 k4 f0 f1 f2 f3 f4
    go_wp2
    go_roundw
    case rel =>
     have h5:=(HB.out.below hb2 (by simp;omega)).set5 (k:=k) HL.out x
     refine⟨k+1,by omega,by go_num,done ++ [x],r,by have:=HD.out;simp;omega,by have:=HR.out;simp at this;omega,?_,?_,Only.set5 ((hon.trans (Only.of_below (qa _ _))).trans (Only.of_below hb2)) x⟩
     ·have h:=HS.out
      rw[HH.out,if_pos rfl] at h
      have hy:=HY.out
      unfold Ce.at at h
      simp only at h
      rw[hy] at h
      exact h.symm
     ·have e : (done ++ ⟨tx, wd, fg, bg, fl⟩ :: r).set k x = done ++ [x] ++ r := by
       have hd:=HD.out
       rw[← hd,List.set_append_right (h:=Nat.le_refl _)]
       simp
      rw[← e]
      exact h5
    case measure=>simp[intOf];omega
  ·have hkm:k=n:=by omega
   subst hkm
   have hr0:rest=[]:=by have:=HN.out;apply List.length_eq_zero_iff.1;omega
   subst hr0
   rw[qac,List.append_nil] at hm
   rw[List.append_nil] at hcb
   rw[hm] at hcb
   have HCB:=hid hcb
   clear hm hcb
   go_wp2
   go_end0
   exact⟨rfl,HCB.out,hon⟩
end Go.Proofs.YtpdaekmbpafenaaGreatDoor
