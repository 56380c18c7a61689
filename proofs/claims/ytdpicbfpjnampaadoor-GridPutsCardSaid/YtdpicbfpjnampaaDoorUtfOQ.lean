/- Plain facts: the document's own first letter is the package's. -/
import Derived.Test.YtdpicbfpjnampaaDoorUtfLQ
namespace Go.Proofs.YtdpicbfpjnampaaDoor
open Go.RowKit

def contB (s : ByteArray) : Bool := decide (∀ i, i < s.size → 1 ≤ i → 128 ≤ byteAt s i ∧ byteAt s i ≤ 191)
def bR (s : ByteArray) (n : Nat) : Bool := contB s && begOk s n

theorem begR_any (s : ByteArray) (n : Nat) (hs2 : 2 ≤ s.size) (hsn : s.size ≤ n) (hn4 : n ≤ 4) (w : World) :
    Calls Tryd.prog 81 #[.string s, .int .i64 n] w fun e w' => e = .returned (.bool (bR s n)) ∧ Below w.heap.size w w' := by
  by_cases h : ∀ i, i < s.size → 1 ≤ i → 128 ≤ byteAt s i ∧ byteAt s i ≤ 191
  · have e : bR s n = begOk s n := by unfold bR contB; rw [decide_eq_true h]; rfl
    rw [e]
    exact begR_ok s n hs2 hsn hn4 (fun i h1 h2 => h i h2 h1) w
  · have e : bR s n = false := by unfold bR contB; rw [decide_eq_false h]; rfl
    rw [e]
    obtain ⟨i, hi⟩ := Classical.not_forall.1 h
    have hi1 : i < s.size := Classical.byContradiction fun hc => hi (fun h' => absurd h' hc)
    have hi2 : 1 ≤ i := Classical.byContradiction fun hc => hi (fun _ h' => absurd h' hc)
    exact begR_bad s n i hsn hn4 hi2 hi1 (by
      have : ¬ (128 ≤ byteAt s i ∧ byteAt s i ≤ 191) := fun hc => hi (fun _ _ => hc)
      omega) w

theorem pad_at {t : ByteArray} {n : Nat} {x : Int} (hx : 0 ≤ x ∧ x ≤ 255) (hn : t.size ≤ n) {i : Nat} (hi : i < n) : byteAt (mkB (padI t n x)) i = if i < t.size then byteAt t i else x := by
  have e := padI_at t x hi
  rw [mkB_at _ i (by rw [padI_length x hn]; exact hi), e]
  rw [e]
  split
  · exact byteAt_bd t i
  · exact hx
theorem pad_size {t : ByteArray} {n : Nat} {x : Int} (hn : t.size ≤ n) : (mkB (padI t n x)).size = n := by rw [mkB_size, padI_length x hn]

theorem valV_2 {t : ByteArray} (h : t.size = 2) : valV t = 64 * (byteAt t 0 - 192) + byteAt t 1 - 128 := by unfold valV; rw [h, if_neg (by decide)]; rfl
theorem valV_3 {t : ByteArray} (h : t.size = 3) : valV t = 64 * (64 * (byteAt t 0 - 224) + byteAt t 1 - 128) + byteAt t 2 - 128 := by unfold valV; rw [h, if_neg (by decide)]; rfl
theorem valV_4 {t : ByteArray} (h : t.size = 4) : valV t = 64 * (64 * (64 * (byteAt t 0 - 240) + byteAt t 1 - 128) + byteAt t 2 - 128) + byteAt t 3 - 128 := by unfold valV; rw [h, if_neg (by decide)]; rfl

theorem cut_at {s : ByteArray} {m i : Nat} (hm : m ≤ s.size) (hi : i < m) : byteAt (s.extract 0 m) i = byteAt s i := by
  rw [byteAt_extract _ _ _ _ (by omega), Nat.zero_add]
theorem cut_size {s : ByteArray} {m : Nat} (hm : m ≤ s.size) : (s.extract 0 m).size = m := by rw [size_extract']; omega

theorem contB_iff {s : ByteArray} {m : Nat} (hm : m ≤ s.size) : contB (s.extract 0 m) = true ↔ ∀ i, i < m → 1 ≤ i → 128 ≤ byteAt s i ∧ byteAt s i ≤ 191 := by
  unfold contB
  rw [decide_eq_true_iff, cut_size hm]
  exact ⟨fun h i hi h1 => by have := h i hi h1; rwa [cut_at hm hi] at this, fun h i hi h1 => by rw [cut_at hm hi]; exact h i hi h1⟩

theorem bR_iff {s : ByteArray} {m n : Nat} (hm : m ≤ s.size) : bR (s.extract 0 m) n = true ↔ (∀ i, i < m → 1 ≤ i → 128 ≤ byteAt s i ∧ byteAt s i ≤ 191) ∧ ¬ (hiV (s.extract 0 m) n < floorN n ∨ 1114111 < loV (s.extract 0 m) n) ∧ (loV (s.extract 0 m) n < 55296 ∨ 57343 < hiV (s.extract 0 m) n) := by
  unfold bR begOk
  rw [Bool.and_eq_true, contB_iff hm, decide_eq_true_iff]

theorem cutpad {s : ByteArray} {m n i : Nat} {x : Int} (hx : 0 ≤ x ∧ x ≤ 255) (hm : m ≤ s.size) (hn : m ≤ n) (hi : i < n) : byteAt (mkB (padI (s.extract 0 m) n x)) i = if i < m then byteAt s i else x := by
  rw [pad_at hx (by rw [cut_size hm]; exact hn) hi, cut_size hm]
  by_cases h : i < m
  · rw [if_pos h, if_pos h, cut_at hm h]
  · rw [if_neg h, if_neg h]
theorem pads_2 {s : ByteArray} {x : Int} {m : Nat} (hx : 0 ≤ x ∧ x ≤ 255) (hm : m ≤ s.size) (hn : m ≤ 2) : valV (mkB (padI (s.extract 0 m) 2 x)) = 64 * ((if 0 < m then byteAt s 0 else x) - 192) + (if 1 < m then byteAt s 1 else x) - 128 := by
  rw [valV_2 (pad_size (by rw [cut_size hm]; exact hn)), cutpad hx hm hn (by omega), cutpad hx hm hn (by omega)]
theorem pads_3 {s : ByteArray} {x : Int} {m : Nat} (hx : 0 ≤ x ∧ x ≤ 255) (hm : m ≤ s.size) (hn : m ≤ 3) : valV (mkB (padI (s.extract 0 m) 3 x)) = 64 * (64 * ((if 0 < m then byteAt s 0 else x) - 224) + (if 1 < m then byteAt s 1 else x) - 128) + (if 2 < m then byteAt s 2 else x) - 128 := by
  rw [valV_3 (pad_size (by rw [cut_size hm]; exact hn)), cutpad hx hm hn (by omega), cutpad hx hm hn (by omega), cutpad hx hm hn (by omega)]
theorem pads_4 {s : ByteArray} {x : Int} {m : Nat} (hx : 0 ≤ x ∧ x ≤ 255) (hm : m ≤ s.size) (hn : m ≤ 4) : valV (mkB (padI (s.extract 0 m) 4 x)) = 64 * (64 * (64 * ((if 0 < m then byteAt s 0 else x) - 240) + (if 1 < m then byteAt s 1 else x) - 128) + (if 2 < m then byteAt s 2 else x) - 128) + (if 3 < m then byteAt s 3 else x) - 128 := by
  rw [valV_4 (pad_size (by rw [cut_size hm]; exact hn)), cutpad hx hm hn (by omega), cutpad hx hm hn (by omega), cutpad hx hm hn (by omega), cutpad hx hm hn (by omega)]

theorem cont_2 {s : ByteArray} : (∀ i, i < 2 → 1 ≤ i → 128 ≤ byteAt s i ∧ byteAt s i ≤ 191) ↔ (128 ≤ byteAt s 1 ∧ byteAt s 1 ≤ 191) :=
  ⟨fun h => h 1 (by omega) (by omega), fun h i h1 h2 => by
    obtain rfl : i = 1 := by omega
    exact h⟩
theorem cont_3 {s : ByteArray} : (∀ i, i < 3 → 1 ≤ i → 128 ≤ byteAt s i ∧ byteAt s i ≤ 191) ↔ (128 ≤ byteAt s 1 ∧ byteAt s 1 ≤ 191) ∧ (128 ≤ byteAt s 2 ∧ byteAt s 2 ≤ 191) :=
  ⟨fun h => ⟨h 1 (by omega) (by omega), h 2 (by omega) (by omega)⟩, fun ⟨h, h'⟩ i h1 h2 => by
    have : i = 1 ∨ i = 2 := by omega
    rcases this with rfl | rfl <;> assumption⟩
theorem cont_4 {s : ByteArray} : (∀ i, i < 4 → 1 ≤ i → 128 ≤ byteAt s i ∧ byteAt s i ≤ 191) ↔ (128 ≤ byteAt s 1 ∧ byteAt s 1 ≤ 191) ∧ (128 ≤ byteAt s 2 ∧ byteAt s 2 ≤ 191) ∧ (128 ≤ byteAt s 3 ∧ byteAt s 3 ≤ 191) :=
  ⟨fun h => ⟨h 1 (by omega) (by omega), h 2 (by omega) (by omega), h 3 (by omega) (by omega)⟩, fun ⟨h, h', h''⟩ i h1 h2 => by
    have : i = 1 ∨ i = 2 ∨ i = 3 := by omega
    rcases this with rfl | rfl | rfl <;> assumption⟩

theorem bR_22 {s : ByteArray} (hm : 2 ≤ s.size) (h : 194 ≤ byteAt s 0 ∧ byteAt s 0 < 224) : bR (s.extract 0 2) 2 = true ↔ byteAt s 1 / 64 = 2 := by
  have b1 := byteAt_bd s 1
  rw [bR_iff hm, cont_2, loV, hiV, pads_2 (by omega) hm (by omega), pads_2 (by omega) hm (by omega)]
  simp [floorN]; omega
theorem bR_23 {s : ByteArray} (hm : 2 ≤ s.size) (h : 224 ≤ byteAt s 0 ∧ byteAt s 0 < 240) : bR (s.extract 0 2) 3 = true ↔ byteAt s 1 / 64 = 2 ∧ ((32 ≤ (byteAt s 0 - 224) * 64 + byteAt s 1 % 64 ∧ (byteAt s 0 - 224) * 64 + byteAt s 1 % 64 ≤ 863) ∨ 896 ≤ (byteAt s 0 - 224) * 64 + byteAt s 1 % 64) := by
  have b1 := byteAt_bd s 1
  rw [bR_iff hm, cont_2, loV, hiV, pads_3 (by omega) hm (by omega), pads_3 (by omega) hm (by omega)]
  simp [floorN]; omega
theorem bR_33 {s : ByteArray} (hm : 3 ≤ s.size) (h : 224 ≤ byteAt s 0 ∧ byteAt s 0 < 240) (h1 : byteAt s 1 / 64 = 2 ∧ ((32 ≤ (byteAt s 0 - 224) * 64 + byteAt s 1 % 64 ∧ (byteAt s 0 - 224) * 64 + byteAt s 1 % 64 ≤ 863) ∨ 896 ≤ (byteAt s 0 - 224) * 64 + byteAt s 1 % 64)) : bR (s.extract 0 3) 3 = true ↔ byteAt s 2 / 64 = 2 := by
  have b1 := byteAt_bd s 1
  have b2 := byteAt_bd s 2
  rw [bR_iff hm, cont_3, loV, hiV, pads_3 (by omega) hm (by omega), pads_3 (by omega) hm (by omega)]
  simp [floorN]; omega
theorem bR_24 {s : ByteArray} (hm : 2 ≤ s.size) : bR (s.extract 0 2) 4 = true ↔ byteAt s 1 / 64 = 2 ∧ 16 ≤ (byteAt s 0 - 240) * 64 + byteAt s 1 % 64 ∧ (byteAt s 0 - 240) * 64 + byteAt s 1 % 64 ≤ 271 := by
  have b1 := byteAt_bd s 1
  rw [bR_iff hm, cont_2, loV, hiV, pads_4 (by omega) hm (by omega), pads_4 (by omega) hm (by omega)]
  simp [floorN]; omega
theorem bR_34 {s : ByteArray} (hm : 3 ≤ s.size) (h1 : byteAt s 1 / 64 = 2 ∧ 16 ≤ (byteAt s 0 - 240) * 64 + byteAt s 1 % 64 ∧ (byteAt s 0 - 240) * 64 + byteAt s 1 % 64 ≤ 271) : bR (s.extract 0 3) 4 = true ↔ byteAt s 2 / 64 = 2 := by
  have b1 := byteAt_bd s 1
  have b2 := byteAt_bd s 2
  rw [bR_iff hm, cont_3, loV, hiV, pads_4 (by omega) hm (by omega), pads_4 (by omega) hm (by omega)]
  simp [floorN]; omega
theorem bR_44 {s : ByteArray} (hm : 4 ≤ s.size) (h1 : byteAt s 1 / 64 = 2 ∧ 16 ≤ (byteAt s 0 - 240) * 64 + byteAt s 1 % 64 ∧ (byteAt s 0 - 240) * 64 + byteAt s 1 % 64 ≤ 271) (h2 : byteAt s 2 / 64 = 2) : bR (s.extract 0 4) 4 = true ↔ byteAt s 3 / 64 = 2 := by
  have b1 := byteAt_bd s 1
  have b2 := byteAt_bd s 2
  have b3 := byteAt_bd s 3
  rw [bR_iff hm, cont_4, loV, hiV, pads_4 (by omega) hm (by omega), pads_4 (by omega) hm (by omega)]
  simp [floorN]; omega

/-- Where the document's loop ends. -/
def RefEnd (s : ByteArray) (n k : Nat) : Prop := 1 ≤ k ∧ k ≤ n ∧ k ≤ s.size ∧ (∀ j, 1 ≤ j → j < k → bR (s.extract 0 (j + 1)) n = true) ∧ (k < n → k < s.size → bR (s.extract 0 (k + 1)) n = false)

def refG (s : ByteArray) (n k : Nat) : Got := if k = n then ⟨valV (s.extract 0 n), n, 0⟩ else if k = s.size then ⟨0, 0, 2⟩ else ⟨0, k, 4⟩

theorem valV_1 {t : ByteArray} (h : t.size = 1) : valV t = byteAt t 0 := by unfold valV; rw [if_pos h]
theorem refG_1 {s : ByteArray} {k : Nat} (hs : s.size ≠ 0) (h : byteAt s 0 < 128) (hk : RefEnd s 1 k) : refG s 1 k = firstG s := by
  obtain ⟨h1, h2, h3, _⟩ := hk
  obtain rfl : k = 1 := by omega
  rw [firstG_one hs h]
  unfold refG
  rw [if_pos rfl, valV_1 (cut_size (by omega)), cut_at (by omega) (by omega)]; rfl
theorem refG_2 {s : ByteArray} {k : Nat} (hs : s.size ≠ 0) (h : 194 ≤ byteAt s 0 ∧ byteAt s 0 < 224) (hk : RefEnd s 2 k) : refG s 2 k = firstG s := by
  obtain ⟨h1, h2, h3, h4, h5⟩ := hk
  have b1 := byteAt_bd s 1
  rw [firstG_two hs h]
  unfold refG
  by_cases c1 : 1 = s.size
  · rw [if_pos c1, if_neg (by omega), if_pos (by omega)]
  · rw [if_neg c1]
    have e := bR_22 (s := s) (by omega) h
    have hk2 : k = 1 ∨ k = 2 := by omega
    rcases hk2 with rfl | rfl
    · have := h5 (by omega) (by omega)
      rw [if_neg (by omega), if_neg c1, if_neg (fun hq => by rw [e.2 hq] at this; cases this)]; rfl
    · have := e.1 (h4 1 (by omega) (by omega))
      rw [if_pos rfl, if_pos this, valV_2 (cut_size (by omega)), cut_at (by omega) (by omega), cut_at (by omega) (by omega)]
      exact got_ext (by omega) rfl rfl
theorem refG_3 {s : ByteArray} {k : Nat} (hs : s.size ≠ 0) (h : 224 ≤ byteAt s 0 ∧ byteAt s 0 < 240) (hk : RefEnd s 3 k) : refG s 3 k = firstG s := by
  obtain ⟨h1, h2, h3, h4, h5⟩ := hk
  have b1 := byteAt_bd s 1
  have b2 := byteAt_bd s 2
  rw [firstG_three hs h]
  unfold refG
  by_cases c1 : 1 = s.size
  · rw [if_pos c1, if_neg (by omega), if_pos (by omega)]
  · rw [if_neg c1]
    have e := bR_23 (s := s) (by omega) h
    by_cases hk1 : k = 1
    · subst hk1
      have := h5 (by omega) (by omega)
      rw [if_neg (by omega), if_neg c1, if_neg (fun hq => by rw [e.2 hq] at this; cases this)]; rfl
    · have d1 := e.1 (h4 1 (by omega) (by omega))
      rw [if_pos d1]
      by_cases c2 : 2 = s.size
      · rw [if_pos c2, if_neg (by omega), if_pos (by omega)]
      · rw [if_neg c2]
        have e2 := bR_33 (s := s) (by omega) h d1
        have hk2 : k = 2 ∨ k = 3 := by omega
        rcases hk2 with rfl | rfl
        · have := h5 (by omega) (by omega)
          rw [if_neg (by omega), if_neg c2, if_neg (fun hq => by rw [e2.2 hq] at this; cases this)]; rfl
        · have d2 := e2.1 (h4 2 (by omega) (by omega))
          rw [if_pos rfl, if_pos d2, valV_3 (cut_size (by omega)), cut_at (by omega) (by omega), cut_at (by omega) (by omega), cut_at (by omega) (by omega)]
          exact got_ext (by omega) rfl rfl
theorem refG_4 {s : ByteArray} {k : Nat} (hs : s.size ≠ 0) (h : 240 ≤ byteAt s 0 ∧ byteAt s 0 < 245) (hk : RefEnd s 4 k) : refG s 4 k = firstG s := by
  obtain ⟨h1, h2, h3, h4, h5⟩ := hk
  have b1 := byteAt_bd s 1
  have b2 := byteAt_bd s 2
  have b3 := byteAt_bd s 3
  rw [firstG_four hs h]
  unfold refG
  by_cases c1 : 1 = s.size
  · rw [if_pos c1, if_neg (by omega), if_pos (by omega)]
  · rw [if_neg c1]
    have e := bR_24 (s := s) (by omega)
    by_cases hk1 : k = 1
    · subst hk1
      have := h5 (by omega) (by omega)
      rw [if_neg (by omega), if_neg c1, if_neg (fun hq => by rw [e.2 hq] at this; cases this)]; rfl
    · have d1 := e.1 (h4 1 (by omega) (by omega))
      rw [if_pos d1]
      by_cases c2 : 2 = s.size
      · rw [if_pos c2, if_neg (by omega), if_pos (by omega)]
      · rw [if_neg c2]
        have e2 := bR_34 (s := s) (by omega) d1
        by_cases hk2 : k = 2
        · subst hk2
          have := h5 (by omega) (by omega)
          rw [if_neg (by omega), if_neg c2, if_neg (fun hq => by rw [e2.2 hq] at this; cases this)]; rfl
        · have d2 := e2.1 (h4 2 (by omega) (by omega))
          rw [if_pos d2]
          by_cases c3 : 3 = s.size
          · rw [if_pos c3, if_neg (by omega), if_pos (by omega)]
          · rw [if_neg c3]
            have e3 := bR_44 (s := s) (by omega) d1 d2
            have hk3 : k = 3 ∨ k = 4 := by omega
            rcases hk3 with rfl | rfl
            · have := h5 (by omega) (by omega)
              rw [if_neg (by omega), if_neg c3, if_neg (fun hq => by rw [e3.2 hq] at this; cases this)]; rfl
            · have d3 := e3.1 (h4 3 (by omega) (by omega))
              rw [if_pos rfl, if_pos d3, valV_4 (cut_size (by omega)), cut_at (by omega) (by omega), cut_at (by omega) (by omega), cut_at (by omega) (by omega), cut_at (by omega) (by omega)]
              exact got_ext (by omega) rfl rfl

/-- How many bytes the document asks for, and where its loop ends: the package's first letter. -/
theorem refG_is {s : ByteArray} {n k : Nat} (hs : s.size ≠ 0) (hn : needG (byteAt s 0) = n) (hn1 : n ≠ 0) (hk : RefEnd s n k) : refG s n k = firstG s := by
  have b0 := byteAt_bd s 0
  unfold needG at hn
  by_cases c1 : byteAt s 0 < 128
  · rw [if_pos c1] at hn
    obtain rfl : n = 1 := by omega
    exact refG_1 hs c1 hk
  · rw [if_neg c1] at hn
    by_cases c2 : 194 ≤ byteAt s 0 ∧ byteAt s 0 < 224
    · rw [if_pos c2] at hn
      obtain rfl : n = 2 := by omega
      exact refG_2 hs c2 hk
    · rw [if_neg c2] at hn
      by_cases c3 : 224 ≤ byteAt s 0 ∧ byteAt s 0 < 240
      · rw [if_pos c3] at hn
        obtain rfl : n = 3 := by omega
        exact refG_3 hs c3 hk
      · rw [if_neg c3] at hn
        by_cases c4 : 240 ≤ byteAt s 0 ∧ byteAt s 0 < 245
        · rw [if_pos c4] at hn
          obtain rfl : n = 4 := by omega
          exact refG_4 hs c4 hk
        · rw [if_neg c4] at hn; omega
theorem needG_0 {s : ByteArray} (hs : s.size ≠ 0) (hn : needG (byteAt s 0) = 0) : firstG s = ⟨0, 1, 4⟩ := by
  have b0 := byteAt_bd s 0
  refine firstG_bad hs ?_
  unfold needG at hn
  by_cases c1 : byteAt s 0 < 128
  · rw [if_pos c1] at hn; omega
  · rw [if_neg c1] at hn
    by_cases c2 : 194 ≤ byteAt s 0 ∧ byteAt s 0 < 224
    · rw [if_pos c2] at hn; omega
    · rw [if_neg c2] at hn
      by_cases c3 : 224 ≤ byteAt s 0 ∧ byteAt s 0 < 240
      · rw [if_pos c3] at hn; omega
      · rw [if_neg c3] at hn
        by_cases c4 : 240 ≤ byteAt s 0 ∧ byteAt s 0 < 245
        · rw [if_pos c4] at hn; omega
        · omega
/-- Where its loop ends at the whole of a letter, every byte behind the first may go on. -/
theorem ref_conts {s : ByteArray} {n : Nat} (h : RefEnd s n n) (hn : 2 ≤ n) : ∀ i, 1 ≤ i → i < (s.extract 0 n).size → 128 ≤ byteAt (s.extract 0 n) i ∧ byteAt (s.extract 0 n) i ≤ 191 := by
  obtain ⟨_, _, h3, h4, _⟩ := h
  have := h4 (n - 1) (by omega) (by omega)
  rw [show n - 1 + 1 = n by omega] at this
  have hc := ((bR_iff h3).1 this).1
  intro i h1 h2
  rw [cut_size h3] at h2
  rw [cut_at h3 h2]
  exact hc i h2 h1
end Go.Proofs.YtdpicbfpjnampaaDoor
