
import Derived.Test.YtpdaekmbpafenaaGreatDoorParseTQ
import Derived.Test.YtpdaekmbpafenaaGreatDoorCloneQ
import Derived.Laws.OwnMore
namespace Go.Proofs.YtpdaekmbpafenaaGreatDoor
set_option maxHeartbeats 1000000
set_option maxRecDepth 100000
open Go.RowKit
def p_ClonePost (W:World) (l:List Int) (e:Ending) (w':World):Prop:=∃ v,e=.returned v∧NumO w' W.heap.size w'.heap.size v l∧Below W.heap.size W w'
theorem iclone_any (v : Value) (l : List Int) (W : World) (hr : IRow W v l) (hn : l.length ≤ 1000000) :
  Calls Tryz.prog 134 #[v] W (p_ClonePost W l):=by
 obtain⟨A,c,rfl,hA⟩:=hr
 cases A with
 | none =>
  have hl:l=[]:=by
   apply Classical.byContradiction
   intro h
   obtain⟨ad,h1,_⟩:=hA h
   cases h1
  subst hl
  clear hA
  have hq:=fun W=>Lib.run_eql_slice_nil (P:=Tryz.prog) W 29 3 none 0 c 0 0 Tryz.underlying29
  simp only[List.length_nil]
  go_enter Tryz.func134,Tryz.ntmps134
  go_wp2
  go_ret
  exact⟨_,rfl,NumO.nil _ _ _,Below.refl _ _⟩
 | some ad =>
  have hc:∀ j u,(qfo l)[j]?=some u→(W.alloc (.cells #[] 3)).cell? (ad.add j)=some u:=by
   intro j u hu
   unfold qfo at hu
   rw[List.getElem?_map] at hu
   cases hx:l[j]? with
   | none=>rw[hx] at hu;cases hu
   | some x =>
    rw[hx] at hu
    cases hu
    obtain⟨ad',h1,hlt,h2⟩:=hA (by intro e;rw[e] at hx;simp at hx)
    cases h1
    rw[(qa W _).cell (p:=ad.add j) (by rw[qdf];exact hlt)]
    exact h2 j x hx
  have HC:=hid hc
  have HO:Hid (OwnI (W.alloc (.cells #[] 3)) W.heap.size (.slice (some ⟨W.heap.size,0,none⟩) 0 0) []):=OwnI.lit [] (by simp) (Nat.le_refl _)
  have HN:=hid hn
  clear hA hc hn
  have hq:=fun W=>Lib.run_eql_slice_nil (P:=Tryz.prog) W 29 3 (some ad) l.length c 0 0 Tryz.underlying29
  go_enter Tryz.func134,Tryz.ntmps134
  go_wp2_with (at_builtin;refine qja rfl _ _ rfl W.heap.size _ [] rfl HO.out l ad l.length c rfl rfl HC.out (by have:=HN.out;simp;omega) (by simp) ?_;intro v' w' h1 h2;have H1:=hid h1;clear h1)
  go_ret
  have hb:=(qa W (.cells #[] 3)).grown h2 (by simp) (fun k e=>by cases e;exact Nat.le_refl _)
  have h1:=H1.out
  rw[List.nil_append] at h1
  exact⟨_,rfl,.inr ⟨h1,fun g e=>(World.ownsRow.lt h1 g e).2⟩,hb⟩
end Go.Proofs.YtpdaekmbpafenaaGreatDoor
