/- Layer 6, the package: lines cut. -/
import Derived.Test.YteebbmmgbjpihaaDoorGridLaQ
import Derived.Test.YteebbmmgbjpihaaDoorHeldSQ
namespace Go.Proofs.YteebbmmgbjpihaaDoor
open Go.RowKit

theorem LR.sub {W : World} {g o n c : Nat} {l : List (Ln × Value)} (h : LR W (.slice (some ⟨g, o, none⟩) n c) l) (hl : l.length = n) (k m cap : Nat) (hm : k + m ≤ n) (hc : m ≤ cap) : LR W (.slice (some ⟨g, o + k * 2, none⟩) m cap) ((l.drop k).take m) := by
  obtain ⟨A', c', e, _, hcell⟩ := h
  cases e
  have hlen : ((l.drop k).take m).length = m := by rw [List.length_take, List.length_drop]; omega
  refine ⟨_, _, by rw [hlen], by rw [hlen]; exact hc, fun hn => ?_⟩
  have hm0 : 0 < m := by rw [← hlen]; exact List.length_pos_iff.2 hn
  obtain ⟨g', o', e', hg, hcell⟩ := hcell (List.length_pos_iff.1 (by omega))
  cases e'
  refine ⟨g, o + k * 2, rfl, hg, fun j e he => ?_⟩
  rw [List.getElem?_take] at he
  split at he
  · rw [List.getElem?_drop] at he
    have := hcell (k + j) e he
    rwa [show o + k * 2 + j * 2 = o + (k + j) * 2 by omega]
  · cases he
theorem oper_append_runL {o : Oper} {a : Act} {w : World} {K : Act → World → Prop} {Q : Exit → Act → World → Prop} (s x : Operand)
    (ho : o.op = .call { callee := .builtin .append, args := #[s, x], argTypes := #[22, 22] }) (v u : Value) (hs : a.eval s = v) (hx : a.eval x = u) {v' : Value} {w' : World}
    (hr : ∀ ty, (Builtin.append_ #[22, 22] ty #[v, u]).run Tryd.prog w = .ok v' w') (h : K (a.put o.dst v') w') : Oper.wp Tryd.prog o a w K Q := by
  unfold Oper.wp
  simp [execOp, ho, resolve, invoke, builtin, hs, hx, hr o.type, Result.andThen]
  exact h

/-- What is cut, and what is left: a row of the call's own, or the first ones, without room behind them. -/
def CutPost (W : World) (A : Option Addr) (lv : List (Ln × Value)) (f t : Nat) (e : Ending) (w' : World) : Prop :=
  ∃ gone left, e = .returned (.tuple #[gone, left]) ∧ LR W gone ((lv.drop f).take (t - f)) ∧ Below W.heap.size W w' ∧
    (OwnL w' W.heap.size left (lv.take f ++ lv.drop t) ∨ (left = .slice A f f ∧ t = lv.length))
end Go.Proofs.YteebbmmgbjpihaaDoor
