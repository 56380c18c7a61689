/- The reference of layer 4, walked: in, Look, flag, cleared, without. -/
import Derived.Test.YtlcahkbbefcjnaaCellM
namespace Go.Proofs.Ytlcahkbbefcjnaa
open Go.RowKit

set_option maxHeartbeats 400000 in
theorem rIn_any (n a b : Int) (w : World) :
    Calls Try.prog 13 #[.int .i64 n, .int .i64 a, .int .i64 b] w fun e w' => e = .returned (.bool (inI n a b)) ∧ w = w' := by
  by_cases h1 : a ≤ n
  · by_cases h2 : n ≤ b
    all_goals
      go_enter Try.func13, Try.ntmps13
      go_wp2
      go_ret
      exact ⟨ret_bool (by simp [inI]; omega), rfl⟩
  · go_enter Try.func13, Try.ntmps13
    go_wp2
    go_ret
    exact ⟨ret_bool (by simp [inI]; omega), rfl⟩

set_option maxHeartbeats 400000 in
theorem rLook_any (a : At) (w : World) :
    Calls Try.prog 7 #[a.agg] w fun e w' => e = .returned (.bool (lookB a)) ∧ Below w.heap.size w w' := by
  obtain ⟨fg, bg, fl⟩ := a
  have h1 := rIn_any fg 0 256
  have h2 := rIn_any bg 0 256
  have h3 := rIn_any fl 0 255
  have HR : Hid (lookB ⟨fg, bg, fl⟩ = (inI fg 0 256 && inI bg 0 256 && inI fl 0 255)) := rfl
  generalize inI fg 0 256 = x at *
  generalize inI bg 0 256 = y at *
  generalize inI fl 0 255 = z at *
  unfold At.agg
  cases x <;> cases y
  all_goals
    go_enter Try.func7, Try.ntmps7
    go_wp2_with (first | (go_at_call 13; (with_reducible refine (h1 _).mono ?_); rintro e w' ⟨rfl, rfl⟩) | (go_at_call 13; (with_reducible refine (h2 _).mono ?_); rintro e w' ⟨rfl, rfl⟩) | (go_at_call 13; (with_reducible refine (h3 _).mono ?_); rintro e w' ⟨rfl, rfl⟩))
    go_ret
    exact ⟨ret_bool (by rw [HR.out]; simp), below_alloc _ _⟩

set_option maxHeartbeats 400000 in
theorem rFlag_any (n : Int) (w : World) :
    Calls Try.prog 14 #[.int .i64 n] w fun e w' => e = .returned (.int .i64 (flagG n)) ∧ Below w.heap.size w w' := by
  have h := rIn_any n 1 9
  by_cases hn : 1 ≤ n ∧ n ≤ 9
  · rw [inI_t hn] at h
    have hc : n = 1 ∨ n = 2 ∨ n = 3 ∨ n = 4 ∨ n = 5 ∨ n = 6 ∨ n = 7 ∨ n = 8 ∨ n = 9 := by omega
    clear hn
    rcases hc with rfl | rfl | rfl | rfl | rfl | rfl | rfl | rfl | rfl
    all_goals
      go_enter Try.func14, Try.ntmps14
      go_wp2_with (go_at_call 13; refine (h _).mono ?_; rintro e w' ⟨rfl, rfl⟩)
      go_ret
      exact ⟨rfl, below_alloc _ _⟩
  · have HR := hid (flagG_no hn)
    rw [inI_f hn] at h
    clear hn
    go_enter Try.func14, Try.ntmps14
    go_wp2_with (go_at_call 13; refine (h _).mono ?_; rintro e w' ⟨rfl, rfl⟩)
    go_ret
    exact ⟨ret_int HR.out.symm, Below.refl _ _⟩

set_option maxHeartbeats 400000 in
theorem rCleared_any (n : Int) (w : World) :
    Calls Try.prog 20 #[.int .i64 n] w fun e w' => e = .returned (.int .i64 (clrG n)) ∧ Below w.heap.size w w' := by
  have h := rIn_any n 22 29
  by_cases hn : 22 ≤ n ∧ n ≤ 29
  · rw [inI_t hn] at h
    have hc : n = 22 ∨ n = 23 ∨ n = 24 ∨ n = 25 ∨ n = 26 ∨ n = 27 ∨ n = 28 ∨ n = 29 := by omega
    clear hn
    rcases hc with rfl | rfl | rfl | rfl | rfl | rfl | rfl | rfl
    all_goals
      go_enter Try.func20, Try.ntmps20
      go_wp2_with (go_at_call 13; refine (h _).mono ?_; rintro e w' ⟨rfl, rfl⟩)
      go_ret
      exact ⟨rfl, below_alloc _ _⟩
  · have HR := hid (clrG_no hn)
    rw [inI_f hn] at h
    clear hn
    go_enter Try.func20, Try.ntmps20
    go_wp2_with (go_at_call 13; refine (h _).mono ?_; rintro e w' ⟨rfl, rfl⟩)
    go_ret
    exact ⟨ret_int HR.out.symm, Below.refl _ _⟩
end Go.Proofs.Ytlcahkbbefcjnaa
