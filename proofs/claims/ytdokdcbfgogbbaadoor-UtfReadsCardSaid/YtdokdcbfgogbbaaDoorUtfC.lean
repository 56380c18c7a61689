/- The package utf: a letter's bytes; a text of letters alone. -/
import Derived.Test.YtdokdcbfgogbbaaDoorUtfN
namespace Go.Proofs.YtdokdcbfgogbbaaDoor
open Go.RowKit

theorem validG_enc {r : Int} {s : ByteArray} (hr : letterB r = true) (hs : s.size = sizeOf r) (hb : ∀ i, i < sizeOf r → byteAt s i = encB r i) : validG s = true := by
  have hz := sizeOf_bd r
  rw [validG_step (by omega), firstG_enc hr (by omega) hb]
  simp only [if_true, Int.toNat_natCast]
  exact validG_empty (by rw [size_extract']; omega)

theorem nil_app (b : ByteArray) : (⟨#[]⟩ ++ b : ByteArray) = b := ByteArray.empty_append

theorem extract_append_left {a b : ByteArray} {n : Nat} (hn : n ≤ a.size) : (a ++ b).extract n (a ++ b).size = a.extract n a.size ++ b := by
  apply bytes_ext
  · simp; omega
  · intro i hi
    simp at hi
    rw [byteAt_extract _ _ _ _ (by simp; omega)]
    by_cases h : n + i < a.size
    · rw [byteAt_left _ _ _ h, byteAt_left _ _ _ (by rw [size_extract']; omega), byteAt_extract _ _ _ _ (by omega)]
    · have e1 : n + i = a.size + (n + i - a.size) := by omega
      have e2 : i = (a.extract n a.size).size + (n + i - a.size) := by rw [size_extract']; omega
      rw [e1, byteAt_right _ _ _ (by omega)]
      conv => rhs; rw [e2]
      rw [byteAt_right _ _ _ (by omega)]

theorem validG_append : ∀ (k : Nat) (a b : ByteArray), a.size ≤ k → validG a = true → validG (a ++ b) = validG b := by
  intro k
  induction k with
  | zero =>
    intro a b h _
    obtain rfl := empty_yes (s := a) (by omega)
    exact congrArg validG (nil_app b)
  | succ k ih =>
    intro a b h hv
    by_cases h0 : a.size = 0
    · obtain rfl := empty_yes h0
      exact congrArg validG (nil_app b)
    · rw [validG_step h0] at hv
      rcases firstG_cases a with ⟨r, hr, e, hl, hb⟩ | ⟨e, _⟩ | ⟨n, e, _⟩
      · have hz := sizeOf_bd r
        rw [e] at hv
        simp only [if_true, Int.toNat_natCast] at hv
        rw [validG_step (by rw [ByteArray.size_append]; omega), firstG_enc (s := a ++ b) hr (by rw [ByteArray.size_append]; omega) (fun i hi => by rw [byteAt_left _ _ _ (by omega)]; exact hb i hi)]
        simp only [if_true, Int.toNat_natCast]
        rw [extract_append_left hl]
        exact ih _ b (by rw [size_extract']; omega) hv
      · rw [e] at hv; simp at hv
      · rw [e] at hv; simp at hv

def strLen : Value → Nat | .string b => b.size | _ => 0

set_option maxHeartbeats 400000 in
theorem text_no (r : Int) (hr : letterB r = false) (w : World) (hT : Tab w) :
    Calls Tryd.prog 7 #[.int .i32 r] w fun e w' => e = .returned (.tuple #[.string ⟨#[]⟩, .int .i64 1]) ∧ Below w.heap.size w w' := by
  have hl := letter_any r w hT
  rw [hr] at hl
  go_enter Tryd.func7, Tryd.ntmps7
  go_wp2_with (go_at_call 17; refine hl.mono ?_; rintro e w' ⟨rfl, hb⟩)
  go_ret2
  exact ⟨rfl, hb⟩

set_option maxHeartbeats 400000 in
theorem text_yes (r : Int) (hr : letterB r = true) (w : World) (hT : Tab w) :
    Calls Tryd.prog 7 #[.int .i32 r] w fun e w' => e = .returned (.tuple #[.string (Utf8.encode r), .int .i64 0]) ∧ Below w.heap.size w w' := by
  have hl := letter_any r w hT
  rw [hr] at hl
  go_enter Tryd.func7, Tryd.ntmps7
  go_wp2_with (go_at_call 17; refine hl.mono ?_; rintro e w' ⟨rfl, hb⟩)
  go_ret2
  exact ⟨rfl, hb⟩

theorem first_at {s : ByteArray} {a b c : Int} (hg : firstG s = ⟨a, b, c⟩) (w : World) (hs : s.size ≤ maxLen) (hT : Tab w) :
    Calls Tryd.prog 13 #[.string s] w fun e w' => e = .returned (.tuple #[.int .i32 a, .int .i64 b, .int .i64 c]) ∧ Below w.heap.size w w' := by
  have h := first_any s w hs hT
  rw [hg] at h
  exact h

set_option maxRecDepth 100000 in
set_option maxHeartbeats 400000 in
theorem valid_any (s : ByteArray) (w : World) (hs : s.size ≤ maxLen) (hT : Tab w) :
    Calls Tryd.prog 15 #[.string s] w fun e w' => e = .returned (.bool (validG s)) ∧ Below w.heap.size w w' := by
  unfold maxLen at hs
  go_enter Tryd.func15, Tryd.ntmps15
  go_wp2
  go_loopw [0] (fun v wr => ∃ t : ByteArray, v = .string t ∧ t.size ≤ s.size ∧ validG s = validG t ∧ Below w.heap.size w wr) (fun v _ => strLen v)
  case atStart => exact ⟨s, rfl, Nat.le_refl _, rfl, Below.refl _ _⟩
  case round =>
    obtain ⟨t, rfl, hts, hv, hb⟩ := hrel
    have hsz := hb.size
    have hTr := hT.below hb
    have HV := hid hv
    clear hv
    by_cases h0 : t.size = 0
    · have HA : Hid (validG s = true) := by unfold Hid; rw [HV.out]; exact validG_empty h0
      have hn : t.toList.isEmpty = true := by rw [empty_yes h0, ByteArray.toList_eq]; rfl
      clear HV h0
      go_wp2
      go_ret
      exact ⟨ret_bool HA.out.symm, hb⟩
    · have hn := empty_no h0
      have hst := validG_step h0
      rcases firstG_cases t with ⟨r, hr, e, hl, _⟩ | ⟨e, _⟩ | ⟨n, e, _⟩
      · have hz := sizeOf_bd r
        have hc := first_at e wr (by unfold maxLen; omega) hTr
        rw [e] at hst
        simp only [if_true, Int.toNat_natCast] at hst
        have HA : Hid (validG s = validG (t.extract (sizeOf r) t.size)) := by unfold Hid; rw [HV.out, hst]
        have hq : (t.extract (sizeOf r) t.size).size = t.size - sizeOf r := by rw [size_extract']; omega
        have hq1 := hid hq
        clear hst HV h0 e hq
        obtain ⟨m, hm⟩ : ∃ m, sizeOf r = m := ⟨_, rfl⟩
        rw [hm] at hc HA hl hz hq1
        clear hm
        go_wp2_with (go_at_call 13; refine hc.mono ?_; rintro e w' ⟨rfl, hb1⟩)
        go_roundw
        case rel => exact ⟨_, rfl, by rw [hq1.out]; omega, HA.out, hb.trans (hb1.mono hsz)⟩
        case measure => 
          show (t.extract m t.size).size < t.size
          rw [hq1.out]; omega
      · have hc := first_at e wr (by unfold maxLen; omega) hTr
        rw [e] at hst
        have HA : Hid (validG s = false) := by unfold Hid; rw [HV.out, hst]; rfl
        clear hst HV h0 e
        go_wp2_with (go_at_call 13; refine hc.mono ?_; rintro e w' ⟨rfl, hb1⟩)
        go_ret
        exact ⟨ret_bool HA.out.symm, hb.trans (hb1.mono hsz)⟩
      · have hc := first_at e wr (by unfold maxLen; omega) hTr
        rw [e] at hst
        have HA : Hid (validG s = false) := by unfold Hid; rw [HV.out, hst]; rfl
        clear hst HV h0 e
        go_wp2_with (go_at_call 13; refine hc.mono ?_; rintro e w' ⟨rfl, hb1⟩)
        go_ret
        exact ⟨ret_bool HA.out.symm, hb.trans (hb1.mono hsz)⟩
end Go.Proofs.YtdokdcbfgogbbaaDoor
