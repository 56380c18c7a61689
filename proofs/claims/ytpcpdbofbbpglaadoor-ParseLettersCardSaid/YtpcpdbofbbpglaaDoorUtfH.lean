/- The document's own answers of layer 1, walked: how wide, how many bytes, the bytes. -/
import Derived.Test.YtpcpdbofbbpglaaDoorUtfG
import Derived.Deep.RegionWith
namespace Go.Proofs.YtpcpdbofbbpglaaDoor
open Go.RowKit

theorem withinB_t {r a b : Int} (h : a ≤ r ∧ r ≤ b) : withinB r a b = true := decide_eq_true h
theorem withinB_f {r a b : Int} (h : ¬ (a ≤ r ∧ r ≤ b)) : withinB r a b = false := decide_eq_false h

set_option maxHeartbeats 400000 in
theorem refIs_any (r : Int) (w : World) :
    Calls Tryd.prog 15 #[.int .i32 r] w fun e w' => e = .returned (.bool (letterB r)) ∧ w = w' := by
  have hc : r < 0 ∨ 1114111 < r ∨ (0 ≤ r ∧ r < 55296) ∨ (57343 < r ∧ r ≤ 1114111) ∨ (55296 ≤ r ∧ r ≤ 57343) := by omega
  rcases hc with h | h | ⟨h, h'⟩ | ⟨h, h'⟩ | ⟨h, h'⟩
  all_goals
    go_enter Tryd.func15, Tryd.ntmps15
    go_wp2
    go_ret
    exact ⟨ret_bool (by unfold letterB; first | exact (decide_eq_true (by omega)).symm | exact (decide_eq_false (by omega)).symm | (rw [Bool.eq_iff_iff]; simp; omega)), rfl⟩

end Go.Proofs.YtpcpdbofbbpglaaDoor
