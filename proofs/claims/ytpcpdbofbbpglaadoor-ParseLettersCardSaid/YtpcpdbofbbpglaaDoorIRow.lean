/- A slice that reads as these numbers, wherever it lies. -/
import Derived.Test.YtpcpdbofbbpglaaDoorBase
namespace Go.Proofs.YtpcpdbofbbpglaaDoor
open Go.RowKit

theorem add_blk (a : Addr) (n : Nat) : (a.add n).block = a.block := by unfold Addr.add; split <;> rfl
def IRow (W : World) (v : Value) (l : List Int) : Prop :=
  ∃ A c, v = .slice A l.length c ∧ (l ≠ [] → ∃ ad : Addr, A = some ad ∧ ad.block < W.heap.size ∧ ∀ j x, l[j]? = some x → W.cell? (ad.add j) = some (.int .i64 x))
theorem IRow.below {W W' : World} {v : Value} {l : List Int} (h : IRow W v l) (hb : Below W.heap.size W W') : IRow W' v l := by
  obtain ⟨A, c, rfl, hl⟩ := h
  refine ⟨A, c, rfl, fun hn => ?_⟩
  obtain ⟨ad, hA, hg, hc⟩ := hl hn
  exact ⟨ad, hA, Nat.lt_of_lt_of_le hg hb.size, fun j x hx => (hb.cell (p := ad.add j) (by rw [add_blk]; exact hg)).trans (hc j x hx)⟩
theorem IRow.nil (W : World) (c : Nat) : IRow W (.slice none 0 c) [] := ⟨none, c, rfl, fun h => absurd rfl h⟩
end Go.Proofs.YtpcpdbofbbpglaaDoor
