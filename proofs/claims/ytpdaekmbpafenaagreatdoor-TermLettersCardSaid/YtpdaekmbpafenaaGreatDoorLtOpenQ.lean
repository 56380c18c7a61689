
import Derived.Test.YtpdaekmbpafenaaGreatDoorLaidQ
import Derived.Test.YtpdaekmbpafenaaGreatDoorLtRowQ
import Derived.Test.YtpdaekmbpafenaaGreatDoorIRowQ
namespace Go.Proofs.YtpdaekmbpafenaaGreatDoor
set_option maxRecDepth 100000
open Go.ChangeShapes Go.WideShapes Go.ChangeAt Go.RowKit Go.Joins Go.Deep Go.WideMaps Go.WideElems
theorem open_ltrow {H : Type} {enc : TypeId × Value → H} {W : World} {r : Reach} {b0 base : Nat} {sp : Nat → Bool} {held : Bool} {v : Value} {d : DataW H} {p : List MemPlace} (hv : Value.okWide Tryz.prog W r b0 47 v) (h : DataW.Trod enc Tryz.prog W base sp held 47 v d p) :
  ∃ l,LtRow W v l∧l.length≤maxLen:=by
 obtain⟨B,m,cp,rfl⟩:=okWide_slice Tryz.underlying47 hv
 obtain⟨fuel,hf⟩:=h
 have hf':DataW.trod enc Tryz.prog W base sp held fuel 47 [.slice B m cp]=some (d,p):=hf
 rcases Go.ChangeShapes.open_ints Tryz.underlying47 Tryz.underlying21 (by kernel_rfl) hf' with ⟨hcs,_⟩ | ⟨a,len,cap,zs,hcs,hb,hl,hm,hzl,hx,hc,hw⟩
 ·simp at hcs
  obtain⟨rfl,rfl,rfl⟩:=hcs
  exact⟨[],⟨none,0,rfl,fun h=>absurd rfl h⟩,Nat.zero_le _⟩
 ·simp at hcs
  obtain⟨rfl,rfl,rfl⟩:=hcs
  have hmz:m≤zs.length:=by rw[hzl];split <;> omega
  have hlen:(zs.take m).length=m:=by rw[List.length_take,Nat.min_eq_left hmz]
  refine⟨zs.take m,⟨some a,cp,by rw[hlen],fun hne=>?_⟩,by rw[hlen];exact Nat.le_trans hl hm⟩
  have hpos:0 < zs.length:=by
   rcases Nat.eq_zero_or_pos zs.length with h | h
   ·rw[List.length_eq_zero_iff.1 h] at hne;simp at hne
   ·exact h
  have hb:=qnb (hc 0 hpos)
  rw[qdf] at hb
  refine⟨a,rfl,hb,fun j x hx=>?_⟩
  rw[List.getElem?_take] at hx
  split at hx
  ·have hj:=(List.getElem?_eq_some_iff.1 hx).1
   rw[hc j hj,List.getD_eq_getElem?_getD,hx]
   rfl
  ·cases hx
end Go.Proofs.YtpdaekmbpafenaaGreatDoor
