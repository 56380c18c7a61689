
import Derived.Test.YtpdaekmbpafenaaGreatDoorLaidQ
import Derived.Test.YtpdaekmbpafenaaGreatDoorLtRowQ
namespace Go.Proofs.YtpdaekmbpafenaaGreatDoor
open Go.ChangeShapes Go.WideShapes Go.ChangeAt Go.RowKit Go.Joins Go.Deep Go.WideMaps Go.WideElems
theorem pCells:Tryz.prog.cellsOf 31=6:=by kernel_rfl
theorem pInts:Tryz.prog.cellsOf 29=1:=by kernel_rfl
theorem open_nums {H : Type} {enc : TypeId × Value → H} {W : World} {base : Nat} {sp : Nat → Bool} {held : Bool} {fuel : Nat} {k : Value} {y : DataW H × List MemPlace} (h : DataW.trod enc Tryz.prog W base sp held fuel 29 [k] = some y) :
  ∃ A c l,k=.slice A (List.length l) c∧IRow W (.slice A (List.length l) c) l∧l.length≤c∧c≤maxLen:=by
 rcases Go.ChangeShapes.open_ints Tryz.underlying29 Tryz.underlying3 (by kernel_rfl) h with ⟨hcs,_⟩ | ⟨a,len,cap,zs,hcs,hb,hl,hm,hzl,hx,hc,hw⟩
 ·simp at hcs
  subst hcs
  exact⟨none,0,[],rfl,IRow.nil _ _,Nat.le_refl _,Nat.zero_le _⟩
 ·simp at hcs
  subst hcs
  have hmz:len≤zs.length:=by rw[hzl];split <;> omega
  have hlen:(zs.take len).length=len:=by rw[List.length_take,Nat.min_eq_left hmz]
  refine⟨some a,cap,zs.take len,by rw[hlen],⟨some a,cap,rfl,fun hne=>?_⟩,by rw[hlen];exact hl,hm⟩
  have hpos:0 < zs.length:=by
   rcases Nat.eq_zero_or_pos zs.length with h | h
   ·rw[List.length_eq_zero_iff.1 h] at hne;simp at hne
   ·exact h
  have hb:=qe3 (hc 0 hpos)
  rw[qc9] at hb
  refine⟨a,rfl,hb,fun j x hx=>?_⟩
  rw[List.getElem?_take] at hx
  split at hx
  ·have hj:=(List.getElem?_eq_some_iff.1 hx).1
   rw[hc j hj,List.getD_eq_getElem?_getD,hx]
   rfl
  ·cases hx
end Go.Proofs.YtpdaekmbpafenaaGreatDoor
