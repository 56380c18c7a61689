/- Plain facts on frames: bytes cut in two; frames that are written are read; a byte that is changed. -/
import Derived.Test.YthkgflghiooboaaWireE
namespace Go.Proofs.Ythkgflghiooboaa
open Go.RowKit

theorem sumI_left (s t : ByteArray) : ∀ k, k ≤ s.size → sumI (s ++ t) k = sumI s k
  | 0, _ => rfl
  | k + 1, h => by
    simp only [sumI]
    rw [sumI_left s t k (by omega), byteAt_left _ _ _ (by omega)]
theorem sizeN_left {s : ByteArray} (t : ByteArray) (h : 3 ≤ s.size) : sizeN (s ++ t) = sizeN s := by
  unfold sizeN; rw [byteAt_left _ _ _ (by omega), byteAt_left _ _ _ (by omega)]
theorem sumOK_left {s : ByteArray} (t : ByteArray) (h : 3 ≤ s.size) (hw : sizeN s ≤ s.size) : sumOK (s ++ t) = sumOK s := by
  have := sizeN_bd s
  unfold sumOK
  rw [sizeN_left t h, byteAt_left _ _ _ (by omega), sumI_left _ _ _ (by omega)]
theorem whole_iff {s : ByteArray} : wholeB s = true ↔ 3 ≤ s.size ∧ sizeN s ≤ s.size := by simp [wholeB]
theorem whole_left {s : ByteArray} (t : ByteArray) (h : wholeB s = true) : wholeB (s ++ t) = true := by
  have h := whole_iff.1 h
  rw [whole_iff, sizeN_left t h.1, size_append']
  omega
theorem spoilt_iff {s : ByteArray} : spoiltB s = true ↔ s.size ≠ 0 ∧ (byteAt s 0 < 1 ∨ 12 < byteAt s 0 ∨ (3 ≤ s.size ∧ (516 < sizeN s ∨ (sizeN s ≤ s.size ∧ sumOK s = false)))) := by
  by_cases h0 : s.size = 0
  · simp [spoilt_1 h0, h0]
  by_cases hb : byteAt s 0 < 1 ∨ 12 < byteAt s 0
  · simp only [spoilt_2 h0 hb, true_iff]
    exact ⟨h0, by omega⟩
  by_cases h3 : s.size < 3
  · simp only [spoilt_3 h0 (by omega) h3]
    constructor
    · intro h; cases h
    · rintro ⟨_, h⟩; omega
  by_cases h4 : 516 < sizeN s
  · simp only [spoilt_4 (by omega) (by omega) h4, true_iff]
    exact ⟨h0, Or.inr (Or.inr ⟨by omega, Or.inl h4⟩)⟩
  · rw [spoilt_5 (by omega) (by omega) (by omega)]
    constructor
    · intro h
      simp at h
      exact ⟨h0, Or.inr (Or.inr ⟨by omega, Or.inr ⟨(whole_iff.1 h.1).2, h.2⟩⟩)⟩
    · rintro ⟨_, h⟩
      have h : sizeN s ≤ s.size ∧ sumOK s = false := by
        rcases h with h | h | ⟨_, h | h⟩
        · omega
        · omega
        · omega
        · exact h
      simp [whole_iff.2 ⟨by omega, h.1⟩, h.2]
theorem spoilt_left {s : ByteArray} (t : ByteArray) (h : spoiltB s = true) : spoiltB (s ++ t) = true := by
  obtain ⟨h0, h⟩ := spoilt_iff.1 h
  refine spoilt_iff.2 ⟨by rw [size_append']; omega, ?_⟩
  rw [byteAt_left _ _ _ (by omega)]
  rcases h with h | h | ⟨h3, h | ⟨h4, h5⟩⟩
  · exact Or.inl h
  · exact Or.inr (Or.inl h)
  · exact Or.inr (Or.inr ⟨by rw [size_append']; omega, Or.inl (by rw [sizeN_left t h3]; exact h)⟩)
  · exact Or.inr (Or.inr ⟨by rw [size_append']; omega, Or.inr ⟨by rw [sizeN_left t h3, size_append']; omega, by rw [sumOK_left t h3 h4]; exact h5⟩⟩)
theorem stands_iff {s : ByteArray} : standsB s = true ↔ (1 ≤ byteAt s 0 ∧ byteAt s 0 ≤ 12) ∧ 3 ≤ s.size ∧ sizeN s ≤ 516 ∧ sizeN s ≤ s.size ∧ sumOK s = true := by
  unfold standsB
  constructor
  · intro h
    simp only [Bool.and_eq_true, Bool.not_eq_true'] at h
    obtain ⟨h1, h2⟩ := h
    obtain ⟨h3, h4⟩ := whole_iff.1 h2
    have hn : ¬ (spoiltB s = true) := by simp [h1]
    rw [spoilt_iff] at hn
    refine ⟨⟨?_, ?_⟩, h3, ?_, h4, ?_⟩
    · exact Int.not_lt.1 fun h => hn ⟨by omega, Or.inl h⟩
    · exact Int.not_lt.1 fun h => hn ⟨by omega, Or.inr (Or.inl h)⟩
    · exact Nat.not_lt.1 fun h => hn ⟨by omega, Or.inr (Or.inr ⟨h3, Or.inl h⟩)⟩
    · cases hs : sumOK s
      · exact absurd ⟨by omega, Or.inr (Or.inr ⟨h3, Or.inr ⟨h4, hs⟩⟩)⟩ hn
      · rfl
  · rintro ⟨h1, h3, h4, h5, h6⟩
    have h2 := whole_iff.2 ⟨h3, h5⟩
    have hs : spoiltB s = false := by
      rw [spoilt_5 h1 h3 h4]; simp [h6]
    simp [hs, h2]
theorem stands_left {s : ByteArray} (t : ByteArray) (h : standsB s = true) : standsB (s ++ t) = true ∧ frOf (s ++ t) = frOf s ∧ restOf (s ++ t) = restOf s ++ t := by
  obtain ⟨h1, h3, h4, h5, h6⟩ := stands_iff.1 h
  have hb := sizeN_bd s
  refine ⟨stands_iff.2 ⟨?_, ?_, ?_, ?_, ?_⟩, ?_, ?_⟩
  · rw [byteAt_left _ _ _ (by omega)]; exact h1
  · rw [size_append']; omega
  · rw [sizeN_left t h3]; exact h4
  · rw [sizeN_left t h3, size_append']; omega
  · rw [sumOK_left t h3 h5]; exact h6
  · unfold frOf
    rw [sizeN_left t h3, byteAt_left _ _ _ (by omega)]
    congr 1
    apply bytes_ext
    · rw [size_extract', size_extract', size_append']; omega
    · intro i hi
      rw [size_extract', size_append'] at hi
      rw [byteAt_extract _ _ _ _ (by rw [size_append']; omega), byteAt_extract _ _ _ _ (by omega), byteAt_left _ _ _ (by omega)]
  · unfold restOf
    rw [sizeN_left t h3]
    exact extract_append_left h5

theorem leftG_stands (s : ByteArray) : standsB (leftG s) = false := by
  generalize hk : s.size = k
  induction k using Nat.strongRecOn generalizing s with
  | ind k ih =>
    cases h : standsB s
    · rw [leftG_no h]; exact h
    · rw [leftG_yes h]
      exact ih _ (by have := restOf_lt h; omega) (restOf s) rfl

/-- Bytes that are cut in two: the frames of the first part, then those of what is left and the second part. -/
theorem frames_cut (s t : ByteArray) : framesG (s ++ t) = framesG s ++ framesG (leftG s ++ t) ∧ leftG (s ++ t) = leftG (leftG s ++ t) := by
  generalize hk : s.size = k
  induction k using Nat.strongRecOn generalizing s with
  | ind k ih =>
    cases h : standsB s
    · rw [leftG_no h]
      exact ⟨by unfold framesG; rw [pairsG_no h]; rfl, rfl⟩
    · obtain ⟨h1, h2, h3⟩ := stands_left t h
      obtain ⟨i1, i2⟩ := ih _ (by have := restOf_lt h; omega) (restOf s) rfl
      rw [leftG_yes h, leftG_yes h1, h3]
      refine ⟨?_, i2⟩
      unfold framesG at *
      rw [pairsG_yes h1, pairsG_yes h, h2, h3]
      simp only [List.map_cons, List.cons_append]
      rw [i1]

theorem spoilt_not_stands {s : ByteArray} (h : spoiltB s = true) : standsB s = false := by unfold standsB; rw [h]; rfl
theorem frames_none {s : ByteArray} (h : standsB s = false) : framesG s = [] ∧ leftG s = s := ⟨by unfold framesG; rw [pairsG_no h]; rfl, leftG_no h⟩
theorem spoilt_on {s : ByteArray} (t : ByteArray) (h : spoiltB (leftG s) = true) : framesG (s ++ t) = framesG s ∧ spoiltB (leftG (s ++ t)) = true := by
  obtain ⟨h1, h2⟩ := frames_cut s t
  have h3 := spoilt_left t h
  obtain ⟨h4, h5⟩ := frames_none (spoilt_not_stands h3)
  rw [h1, h2, h4, h5]
  exact ⟨List.append_nil _, h3⟩

theorem right_left {s : ByteArray} (h : spoiltB (leftG s) = false) : rightB (leftG s) false = true := by
  unfold rightB; simp [h, leftG_stands]
theorem right_short {s : ByteArray} (h : rightB s false = true) : s.size ≤ 515 := by
  unfold rightB at h
  simp at h
  obtain ⟨h1, h2⟩ := h
  apply Nat.le_of_not_lt
  intro hlt
  have hn : ¬ (spoiltB s = true) := by simp [h1]
  rw [spoilt_iff] at hn
  have hs : standsB s = true := by
    refine stands_iff.2 ⟨⟨?_, ?_⟩, by omega, ?_, ?_, ?_⟩
    · exact Int.not_lt.1 fun h => hn ⟨by omega, Or.inl h⟩
    · exact Int.not_lt.1 fun h => hn ⟨by omega, Or.inr (Or.inl h)⟩
    · exact Nat.not_lt.1 fun h => hn ⟨by omega, Or.inr (Or.inr ⟨by omega, Or.inl h⟩)⟩
    · exact Nat.not_lt.1 fun h => hn ⟨by omega, Or.inr (Or.inr ⟨by omega, Or.inl (by omega)⟩)⟩
    · cases hs : sumOK s
      · exact absurd ⟨by omega, Or.inr (Or.inr ⟨by omega, Or.inr ⟨Nat.not_lt.1 fun h => hn ⟨by omega, Or.inr (Or.inr ⟨by omega, Or.inl (by omega)⟩)⟩, hs⟩⟩)⟩ hn
      · rfl
  rw [hs] at h2
  cases h2
end Go.Proofs.Ythkgflghiooboaa
