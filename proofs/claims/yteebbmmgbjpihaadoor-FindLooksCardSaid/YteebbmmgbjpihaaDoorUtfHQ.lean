/- The document's own answers of layer 1, walked: how wide, how many bytes, the bytes. -/
import Derived.Test.YteebbmmgbjpihaaDoorGridMQ
import Derived.Deep.RegionWith
namespace Go.Proofs.YteebbmmgbjpihaaDoor
open Go.RowKit

set_option maxHeartbeats 400000 in
theorem refIn_any (r a b : Int) (w : World) :
    Calls Tryd.prog 60 #[.int .i32 r, .int .i32 a, .int .i32 b] w fun e w' => e = .returned (.bool (withinB r a b)) ∧ w = w' := by
  by_cases h1 : a ≤ r
  · by_cases h2 : r ≤ b
    all_goals
      go_enter Tryd.func60, Tryd.ntmps60
      go_wp2
      go_ret
      exact ⟨ret_bool (by simp [withinB]; omega), rfl⟩
  · go_enter Tryd.func60, Tryd.ntmps60
    go_wp2
    go_ret
    exact ⟨ret_bool (by simp [withinB]; omega), rfl⟩

theorem withinB_t {r a b : Int} (h : a ≤ r ∧ r ≤ b) : withinB r a b = true := decide_eq_true h
theorem withinB_f {r a b : Int} (h : ¬ (a ≤ r ∧ r ≤ b)) : withinB r a b = false := decide_eq_false h

set_option maxHeartbeats 400000 in
theorem refIs_any (r : Int) (w : World) :
    Calls Tryd.prog 59 #[.int .i32 r] w fun e w' => e = .returned (.bool (letterB r)) ∧ w = w' := by
  have hc : r < 0 ∨ 1114111 < r ∨ (0 ≤ r ∧ r < 55296) ∨ (57343 < r ∧ r ≤ 1114111) ∨ (55296 ≤ r ∧ r ≤ 57343) := by omega
  rcases hc with h | h | ⟨h, h'⟩ | ⟨h, h'⟩ | ⟨h, h'⟩
  all_goals
    go_enter Tryd.func59, Tryd.ntmps59
    go_wp2
    go_ret
    exact ⟨ret_bool (by unfold letterB; first | exact (decide_eq_true (by omega)).symm | exact (decide_eq_false (by omega)).symm | (rw [Bool.eq_iff_iff]; simp; omega)), rfl⟩

set_option maxHeartbeats 1600000 in
theorem refWidth_any (r : Int) (w : World) :
    Calls Tryd.prog 48 #[.int .i32 r] w fun e w' => e = .returned (.int .i64 (widthI r)) ∧ w = w' := by
  have hIs := refIs_any r
  have hIn := refIn_any r
  cases hl : letterB r
  · have HM := hid (widthI_m (r := r) (Or.inl (of_decide_eq_false hl)))
    rw [hl] at hIs
    clear hl
    go_enter Tryd.func48, Tryd.ntmps48
    go_wp2_with (go_at_call 59; refine (hIs _).mono ?_; rintro e w' ⟨rfl, rfl⟩)
    go_ret
    exact ⟨ret_int HM.out.symm, rfl⟩
  · have hlr := letter_iff.1 hl
    rw [hl] at hIs
    clear hl
    have HLR := hid hlr
    have e0 := hIn 127 159
    have e1 := hIn 768 879
    have e2 := hIn 8203 8205
    have e3 := hIn 65024 65039
    have e4 := hIn 4352 4447
    have e5 := hIn 12353 19903
    have e6 := hIn 19968 40959
    have e7 := hIn 44032 55203
    have e8 := hIn 63744 64255
    have e9 := hIn 65281 65376
    have e10 := hIn 127744 129791
    have e11 := hIn 131072 262141
    clear hlr
    by_cases c0 : 127 ≤ r ∧ r ≤ 159
    · rw [withinB_t c0] at e0
      have HM := hid (widthI_m (r := r) (Or.inr (Or.inr c0)))
      have h32 : ¬ r < 32 := by omega
      clear e1 e2 e3 e4 e5 e6 e7 e8 e9 e10 e11 hIn c0
      go_enter Tryd.func48, Tryd.ntmps48
      go_wp2_with (first | (go_at_call 59; refine (hIs _).mono ?_; rintro e w' ⟨rfl, rfl⟩) | (go_at_call 60; refine (e0 _).mono ?_; rintro e w' ⟨rfl, rfl⟩))
      go_ret
      exact ⟨ret_int HM.out.symm, rfl⟩
    · rw [withinB_f c0] at e0
      by_cases h32 : r < 32
      · have HM := hid (widthI_m (r := r) (Or.inr (Or.inl h32)))
        clear e1 e2 e3 e4 e5 e6 e7 e8 e9 e10 e11 hIn c0
        go_enter Tryd.func48, Tryd.ntmps48
        go_wp2_with (go_at_call 59; refine (hIs _).mono ?_; rintro e w' ⟨rfl, rfl⟩)
        go_ret
        exact ⟨ret_int HM.out.symm, rfl⟩
      · clear hIn
        have hcs : (768 ≤ r ∧ r ≤ 879) ∨ (8203 ≤ r ∧ r ≤ 8205) ∨ (65024 ≤ r ∧ r ≤ 65039) ∨ (4352 ≤ r ∧ r ≤ 4447) ∨ (12353 ≤ r ∧ r ≤ 19903) ∨ (19968 ≤ r ∧ r ≤ 40959) ∨ (44032 ≤ r ∧ r ≤ 55203) ∨ (63744 ≤ r ∧ r ≤ 64255) ∨ (65281 ≤ r ∧ r ≤ 65376) ∨ (127744 ≤ r ∧ r ≤ 129791) ∨ (131072 ≤ r ∧ r ≤ 262141) ∨ ((r < 768 ∨ 879 < r) ∧ (r < 8203 ∨ 8205 < r) ∧ (r < 65024 ∨ 65039 < r) ∧ (r < 4352 ∨ 4447 < r) ∧ (r < 12353 ∨ 19903 < r) ∧ (r < 19968 ∨ 40959 < r) ∧ (r < 44032 ∨ 55203 < r) ∧ (r < 63744 ∨ 64255 < r) ∧ (r < 65281 ∨ 65376 < r) ∧ (r < 127744 ∨ 129791 < r) ∧ (r < 131072 ∨ 262141 < r)) := by omega
        rcases hcs with h | h | h | h | h | h | h | h | h | h | h | h
        all_goals
          (first | rw [withinB_t (by omega)] at e1 | rw [withinB_f (by omega)] at e1)
          (first | rw [withinB_t (by omega)] at e2 | rw [withinB_f (by omega)] at e2)
          (first | rw [withinB_t (by omega)] at e3 | rw [withinB_f (by omega)] at e3)
          (first | rw [withinB_t (by omega)] at e4 | rw [withinB_f (by omega)] at e4)
          (first | rw [withinB_t (by omega)] at e5 | rw [withinB_f (by omega)] at e5)
          (first | rw [withinB_t (by omega)] at e6 | rw [withinB_f (by omega)] at e6)
          (first | rw [withinB_t (by omega)] at e7 | rw [withinB_f (by omega)] at e7)
          (first | rw [withinB_t (by omega)] at e8 | rw [withinB_f (by omega)] at e8)
          (first | rw [withinB_t (by omega)] at e9 | rw [withinB_f (by omega)] at e9)
          (first | rw [withinB_t (by omega)] at e10 | rw [withinB_f (by omega)] at e10)
          (first | rw [withinB_t (by omega)] at e11 | rw [withinB_f (by omega)] at e11)
          have HH := hid h
          have H0 := hid c0
          clear h c0
          go_enter Tryd.func48, Tryd.ntmps48
          go_wp2_with (first | (go_at_call 59; refine (hIs _).mono ?_; rintro e w' ⟨rfl, rfl⟩) | (go_at_call_of 60 (Value.int .i32 127); refine (e0 _).mono ?_; rintro e w' ⟨rfl, rfl⟩) | (go_at_call_of 60 (Value.int .i32 768); refine (e1 _).mono ?_; rintro e w' ⟨rfl, rfl⟩) | (go_at_call_of 60 (Value.int .i32 8203); refine (e2 _).mono ?_; rintro e w' ⟨rfl, rfl⟩) | (go_at_call_of 60 (Value.int .i32 65024); refine (e3 _).mono ?_; rintro e w' ⟨rfl, rfl⟩) | (go_at_call_of 60 (Value.int .i32 4352); refine (e4 _).mono ?_; rintro e w' ⟨rfl, rfl⟩) | (go_at_call_of 60 (Value.int .i32 12353); refine (e5 _).mono ?_; rintro e w' ⟨rfl, rfl⟩) | (go_at_call_of 60 (Value.int .i32 19968); refine (e6 _).mono ?_; rintro e w' ⟨rfl, rfl⟩) | (go_at_call_of 60 (Value.int .i32 44032); refine (e7 _).mono ?_; rintro e w' ⟨rfl, rfl⟩) | (go_at_call_of 60 (Value.int .i32 63744); refine (e8 _).mono ?_; rintro e w' ⟨rfl, rfl⟩) | (go_at_call_of 60 (Value.int .i32 65281); refine (e9 _).mono ?_; rintro e w' ⟨rfl, rfl⟩) | (go_at_call_of 60 (Value.int .i32 127744); refine (e10 _).mono ?_; rintro e w' ⟨rfl, rfl⟩) | (go_at_call_of 60 (Value.int .i32 131072); refine (e11 _).mono ?_; rintro e w' ⟨rfl, rfl⟩))
          go_ret
          have h1 := HH.out
          have h2 := H0.out
          have h3 := HLR.out
          first
          | exact ⟨ret_int (widthI_0 (by omega)).symm, rfl⟩
          | exact ⟨ret_int (widthI_2 (by omega)).symm, rfl⟩
          | exact ⟨ret_int (widthI_1 (by omega) (by omega) (by omega) (by omega) (by omega)).symm, rfl⟩
end Go.Proofs.YteebbmmgbjpihaaDoor
