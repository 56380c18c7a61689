/- The package utf, its small functions: which numbers are letters, and what a first byte tells. -/
import Derived.Test.YtdpicbfpjnampaaDoorCellEqQ
namespace Go.Proofs.YtdpicbfpjnampaaDoor
open Go.RowKit

def withinB (r a b : Int) : Bool := decide (a ≤ r ∧ r ≤ b)

set_option maxHeartbeats 400000 in
theorem within_any (r a b c : Int) (w : World) :
    Calls Tryd.prog 95 #[.int .i32 r, .agg #[.int .i32 a, .int .i32 b, .int .i32 c]] w fun e w' => e = .returned (.bool (withinB r a b)) ∧ Below w.heap.size w w' := by
  by_cases h1 : a ≤ r
  · by_cases h2 : r ≤ b
    all_goals
      go_enter Tryd.func95, Tryd.ntmps95
      go_wp2
      go_ret
      refine ⟨ret_bool ?_, ?_⟩
      · simp [withinB, h1, h2]
      · exact (Below.refl _ _).alloc (Nat.le_refl _) _
  · go_enter Tryd.func95, Tryd.ntmps95
    go_wp2
    go_ret
    refine ⟨ret_bool ?_, ?_⟩
    · simp [withinB]; omega
    · exact (Below.refl _ _).alloc (Nat.le_refl _) _

def lett : Array Value := #[.int .i32 0, .int .i32 127, .int .i32 1, .int .i32 128, .int .i32 2047, .int .i32 2, .int .i32 2048, .int .i32 55295, .int .i32 3, .int .i32 57344, .int .i32 65535, .int .i32 3, .int .i32 65536, .int .i32 1114111, .int .i32 4]

theorem step5 {P : Nat → Prop} {k : Nat} (h : ∀ j < k, P j) (hk : P k) : ∀ j < k + 1, P j := fun j hj => by
  by_cases e : j = k
  · subst e; exact hk
  · exact h j (by omega)

/-- The variable of the letters' ranges holds what its text lays. -/
def Tab (w : World) : Prop := ∃ t, w.heap[1]? = some (.cells #[.int .i32 0, .int .i32 127, .int .i32 1, .int .i32 128, .int .i32 2047, .int .i32 2, .int .i32 2048, .int .i32 55295, .int .i32 3, .int .i32 57344, .int .i32 65535, .int .i32 3, .int .i32 65536, .int .i32 1114111, .int .i32 4] t (0, 0))

theorem Tab.lt {w : World} (h : Tab w) : 1 < w.heap.size := by
  obtain ⟨t, h⟩ := h
  exact (Array.getElem?_eq_some_iff.1 h).1

theorem Tab.below {w w' : World} (h : Tab w) (hb : Below w.heap.size w w') : Tab w' := by
  have hl := h.lt
  obtain ⟨t, h⟩ := h
  exact ⟨t, (hb.block _ hl).trans h⟩

def letterB (r : Int) : Bool := decide ((0 ≤ r ∧ r ≤ 55295) ∨ (57344 ≤ r ∧ r ≤ 1114111))
def lo5 (k : Nat) : Int := [0, 128, 2048, 57344, 65536].getD k 0
def hi5 (k : Nat) : Int := [127, 2047, 55295, 65535, 1114111].getD k 0
def sz5 (k : Nat) : Int := [1, 2, 3, 3, 4].getD k 0

theorem letter_yes (r : Int) (k : Nat) (hk : k < 5) (h : withinB r (lo5 k) (hi5 k) = true) : letterB r = true := by
  unfold withinB at h
  unfold letterB
  have hk5 : k = 0 ∨ k = 1 ∨ k = 2 ∨ k = 3 ∨ k = 4 := by omega
  simp only [decide_eq_true_eq] at *
  rcases hk5 with rfl | rfl | rfl | rfl | rfl <;> simp [lo5, hi5] at h <;> omega

theorem letter_no (r : Int) (h : ∀ j < 5, withinB r (lo5 j) (hi5 j) = false) : letterB r = false := by
  have h0 := h 0 (by omega)
  have h1 := h 1 (by omega)
  have h2 := h 2 (by omega)
  have h3 := h 3 (by omega)
  have h4 := h 4 (by omega)
  unfold withinB at *
  unfold letterB
  simp only [decide_eq_false_iff_not] at *
  simp [lo5, hi5] at *
  omega

theorem ix (k : Nat) (hk : k < 5) (w : World) : (Instr.index 121 (.agg #[.int .i32 0, .int .i32 127, .int .i32 1, .int .i32 128, .int .i32 2047, .int .i32 2, .int .i32 2048, .int .i32 55295, .int .i32 3, .int .i32 57344, .int .i32 65535, .int .i32 3, .int .i32 65536, .int .i32 1114111, .int .i32 4]) (.int .i64 (k : Int))).run Tryd.prog w = .ok (.agg #[.int .i32 (lo5 k), .int .i32 (hi5 k), .int .i32 (sz5 k)]) w := by
  have hk5 : k = 0 ∨ k = 1 ∨ k = 2 ∨ k = 3 ∨ k = 4 := by omega
  rcases hk5 with rfl | rfl | rfl | rfl | rfl <;> (show _ = _; kernel_rfl)

set_option maxHeartbeats 400000 in
theorem letter_any (r : Int) (w : World) (hT : Tab w) :
    Calls Tryd.prog 94 #[.int .i32 r] w fun e w' => e = .returned (.bool (letterB r)) ∧ Below w.heap.size w w' := by
  obtain ⟨tt, hg⟩ := hT
  go_enter Tryd.func94, Tryd.ntmps94
  go_wp2_with (refine wpList_load_row rfl 121 _ rfl 1 rfl tt _ (0, 0) _ hg Tryd.underlying121 rfl (by kernel_rfl) ?_)
  go_loopw [6] (fun i wr => ∃ k : Nat, k ≤ 5 ∧ i = .int .i64 k ∧ (∀ j < k, withinB r (lo5 j) (hi5 j) = false) ∧ Below w.heap.size w wr) (fun i _ => 5 - (intOf i).toNat)
  case atStart => exact ⟨0, by omega, rfl, fun j h => absurd h (by omega), Below.refl _ _⟩
  case round =>
    obtain ⟨k, hk, rfl, hno, hb⟩ := hrel
    have hsz := hb.size
    by_cases hlt : k < 5
    · have hix := ix k hlt
      have HN : Hid (∀ j < k, withinB r (lo5 j) (hi5 j) = false) := hno
      clear hno
      by_cases hw : withinB r (lo5 k) (hi5 k) = true
      · have hl := letter_yes r k hlt hw
        go_wp2_with (go_at_call 95; refine (within_any _ _ _ _ _).mono ?_; rintro e w' ⟨rfl, hb1⟩)
        go_ret
        exact ⟨ret_bool hl.symm, (hb.alloc hsz _).trans (hb1.mono (by simp; omega))⟩
      · have hw : withinB r (lo5 k) (hi5 k) = false := by simpa using hw
        go_wp2_with (go_at_call 95; refine (within_any _ _ _ _ _).mono ?_; rintro e w' ⟨rfl, hb1⟩)
        go_roundw
        case rel => exact ⟨k + 1, by omega, by go_num, step5 HN.out hw, (hb.alloc hsz _).trans (hb1.mono (by simp; omega))⟩
        case measure => simp [intOf]; omega
    · have hl := letter_no r (fun j hj => hno j (by omega))
      clear hno
      go_wp2
      go_ret
      exact ⟨ret_bool hl.symm, hb⟩

def leadR (b : Int) : Int := if b < 128 then b else if b < 192 then 0 else if b < 224 then b - 192 else if b < 240 then b - 224 else if b < 248 then b - 240 else 0
def leadN (b : Int) : Int := if b < 128 then 1 else if b < 192 then 0 else if b < 224 then 2 else if b < 240 then 3 else if b < 248 then 4 else 0

set_option maxHeartbeats 400000 in
theorem lead_any (b : Int) (h0 : 0 ≤ b) (h1 : b ≤ 255) (w : World) :
    Calls Tryd.prog 92 #[.int .u8 b] w fun e w' => e = .returned (.tuple #[.int .i32 (leadR b), .int .i64 (leadN b)]) ∧ w = w' := by
  have hc : b < 128 ∨ (128 ≤ b ∧ b < 192) ∨ (192 ≤ b ∧ b < 224) ∨ (224 ≤ b ∧ b < 240) ∨ (240 ≤ b ∧ b < 248) ∨ 248 ≤ b := by omega
  rcases hc with h | ⟨h, h'⟩ | ⟨h, h'⟩ | ⟨h, h'⟩ | ⟨h, h'⟩ | h
  all_goals
    go_enter Tryd.func92, Tryd.ntmps92
    go_wp2
    go_ret2
    exact ⟨ret_two (by unfold leadR; repeat (first | rw [if_pos (by omega)] | rw [if_neg (by omega)])) (by unfold leadN; repeat (first | rw [if_pos (by omega)] | rw [if_neg (by omega)])), rfl⟩

def begK (bits size : Int) (left k : Nat) : Bool := decide (sz5 k = size ∧ lo5 k / 2 ^ (6 * left) ≤ bits ∧ bits ≤ hi5 k / 2 ^ (6 * left))
theorem begK_no1 {bits size : Int} {left k : Nat} (h : ¬ sz5 k = size) : begK bits size left k = false := by simp [begK, h]
theorem begK_no2 {bits size : Int} {left k : Nat} (h : ¬ lo5 k / 2 ^ (6 * left) ≤ bits) : begK bits size left k = false := by simp [begK, h]
theorem begK_no3 {bits size : Int} {left k : Nat} (h : hi5 k / 2 ^ (6 * left) < bits) : begK bits size left k = false := by
  unfold begK
  rw [decide_eq_false_iff_not]
  exact fun ⟨_, _, h3⟩ => absurd h3 (by omega)
theorem sz5_bd (k : Nat) (hk : k < 5) : 1 ≤ sz5 k ∧ sz5 k ≤ 4 := by
  have hk5 : k = 0 ∨ k = 1 ∨ k = 2 ∨ k = 3 ∨ k = 4 := by omega
  rcases hk5 with rfl | rfl | rfl | rfl | rfl <;> decide

def beginsB (bits size : Int) (left : Nat) : Bool := begK bits size left 0 || begK bits size left 1 || begK bits size left 2 || begK bits size left 3 || begK bits size left 4

theorem begins_yes (bits size : Int) (left k : Nat) (hk : k < 5) (h : begK bits size left k = true) : beginsB bits size left = true := by
  have hk5 : k = 0 ∨ k = 1 ∨ k = 2 ∨ k = 3 ∨ k = 4 := by omega
  rcases hk5 with rfl | rfl | rfl | rfl | rfl <;> simp [beginsB, h]
theorem begins_no (bits size : Int) (left : Nat) (h : ∀ j < 5, begK bits size left j = false) : beginsB bits size left = false := by
  simp [beginsB, h]

set_option maxHeartbeats 400000 in
theorem begins_any (bits size : Int) (left : Nat) (hleft : left ≤ 3) (w : World) (hT : Tab w) :
    Calls Tryd.prog 93 #[.int .i32 bits, .int .i64 size, .int .i64 (left : Int)] w fun e w' => e = .returned (.bool (beginsB bits size left)) ∧ Below w.heap.size w w' := by
  obtain ⟨tt, hg⟩ := hT
  go_enter Tryd.func93, Tryd.ntmps93
  go_wp2_with (refine wpList_load_row rfl 121 _ rfl 1 rfl tt _ (0, 0) _ hg Tryd.underlying121 rfl (by kernel_rfl) ?_)
  go_loopw [10] (fun i wr => ∃ k : Nat, k ≤ 5 ∧ i = .int .i64 k ∧ (∀ j < k, begK bits size left j = false) ∧ Below w.heap.size w wr) (fun i _ => 5 - (intOf i).toNat)
  case atStart => exact ⟨0, by omega, rfl, fun j h => absurd h (by omega), Below.refl _ _⟩
  case round =>
    obtain ⟨k, hk, rfl, hno, hb⟩ := hrel
    have hsz := hb.size
    by_cases hlt : k < 5
    · have hix := ix k hlt
      have HN : Hid (∀ j < k, begK bits size left j = false) := hno
      clear hno
      obtain ⟨hs1, hs2⟩ := sz5_bd k hlt
      go_wp2
      · have hl := begins_yes bits size left k hlt (decide_eq_true ⟨by assumption, by assumption, by assumption⟩)
        go_ret
        exact ⟨ret_bool hl.symm, hb.alloc hsz _⟩
      all_goals
        have hw : begK bits size left k = false := by first | exact begK_no1 (by assumption) | exact begK_no2 (by assumption) | exact begK_no3 (by assumption)
        go_roundw
        case rel => exact ⟨k + 1, by omega, by go_num, step5 HN.out hw, hb.alloc hsz _⟩
        case measure => simp [intOf]; omega
    · have hl := begins_no bits size left (fun j hj => hno j (by omega))
      clear hno
      go_wp2
      go_ret
      exact ⟨ret_bool hl.symm, hb⟩
end Go.Proofs.YtdpicbfpjnampaaDoor
