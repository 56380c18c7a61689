/- The reference of layer 4, walked: in, Look. -/
import Derived.Test.YtokefclleoaagaaDoorCellM
namespace Go.Proofs.YtokefclleoaagaaDoor
open Go.RowKit

set_option maxHeartbeats 400000 in
theorem rIn_any (n a b : Int) (w : World) :
    Calls Tryd.prog 45 #[.int .i64 n, .int .i64 a, .int .i64 b] w fun e w' => e = .returned (.bool (inI n a b)) ∧ w = w' := by
  by_cases h1 : a ≤ n
  · by_cases h2 : n ≤ b
    all_goals
      go_enter Tryd.func45, Tryd.ntmps45
      go_wp2
      go_ret
      exact ⟨ret_bool (by simp [inI]; omega), rfl⟩
  · go_enter Tryd.func45, Tryd.ntmps45
    go_wp2
    go_ret
    exact ⟨ret_bool (by simp [inI]; omega), rfl⟩

set_option maxHeartbeats 400000 in
theorem rLook_any (a : At) (w : World) :
    Calls Tryd.prog 12 #[a.agg] w fun e w' => e = .returned (.bool (lookB a)) ∧ Below w.heap.size w w' := by
  obtain ⟨fg, bg, fl⟩ := a
  have h1 := rIn_any fg 0 256
  have h2 := rIn_any bg 0 256
  have h3 := rIn_any fl 0 255
  have HR : Hid (lookB ⟨fg, bg, fl⟩ = (inI fg 0 256 && inI bg 0 256 && inI fl 0 255)) := rfl
  generalize inI fg 0 256 = x at *
  generalize inI bg 0 256 = y at *
  generalize inI fl 0 255 = z at *
  unfold At.agg
  cases x <;> cases y
  all_goals
    go_enter Tryd.func12, Tryd.ntmps12
    go_wp2_with (first | (go_at_call 45; (with_reducible refine (h1 _).mono ?_); rintro e w' ⟨rfl, rfl⟩) | (go_at_call 45; (with_reducible refine (h2 _).mono ?_); rintro e w' ⟨rfl, rfl⟩) | (go_at_call 45; (with_reducible refine (h3 _).mono ?_); rintro e w' ⟨rfl, rfl⟩))
    go_ret
    exact ⟨ret_bool (by rw [HR.out]; simp), below_alloc _ _⟩

end Go.Proofs.YtokefclleoaagaaDoor
