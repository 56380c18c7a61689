/- Plain facts on a frame's bytes: they stand; with one byte changed they are spoilt. -/
import Derived.Test.YthkgflghiooboaaWireM
namespace Go.Proofs.Ythkgflghiooboaa
open Go.RowKit

theorem may_iff {tag : Int} {n : Nat} : mayB tag n = true ↔ 1 ≤ tag ∧ tag ≤ 12 ∧ n ≤ 512 := by simp [mayB]

theorem head_at (tag : Int) (n : Nat) (h : mayB tag n = true) : byteAt (headS tag n) 0 = tag ∧ byteAt (headS tag n) 1 = (n : Int) / 256 ∧ byteAt (headS tag n) 2 = (n : Int) % 256 := by
  obtain ⟨h1, h2, h3⟩ := may_iff.1 h
  unfold headS
  refine ⟨mkB_at _ 0 (by simp) ?_, mkB_at _ 1 (by simp) ?_, mkB_at _ 2 (by simp) ?_⟩
  · simp; omega
  · simp; omega
  · simp; omega
theorem body_at (tag : Int) (t : ByteArray) (h : mayB tag t.size = true) : byteAt (bodyS tag t) 0 = tag ∧ byteAt (bodyS tag t) 1 = (t.size : Int) / 256 ∧ byteAt (bodyS tag t) 2 = (t.size : Int) % 256 ∧ ∀ i, i < t.size → byteAt (bodyS tag t) (3 + i) = byteAt t i := by
  obtain ⟨h1, h2, h3⟩ := head_at tag t.size h
  have hz := headS_size tag t.size
  unfold bodyS
  refine ⟨?_, ?_, ?_, fun i hi => ?_⟩
  · rw [byteAt_left _ _ _ (by omega)]; exact h1
  · rw [byteAt_left _ _ _ (by omega)]; exact h2
  · rw [byteAt_left _ _ _ (by omega)]; exact h3
  · rw [← hz, byteAt_right _ _ _ hi]
theorem enc_size (tag : Int) (t : ByteArray) : (encS tag t).size = t.size + 4 := by
  unfold encS; rw [size_append', bodyS_size, mkB_size]; simp; omega
theorem enc_at (tag : Int) (t : ByteArray) (h : mayB tag t.size = true) :
    byteAt (encS tag t) 0 = tag ∧ sizeN (encS tag t) = t.size + 4 ∧ (∀ i, i < t.size → byteAt (encS tag t) (3 + i) = byteAt t i) ∧ byteAt (encS tag t) (t.size + 3) = sumI (encS tag t) (t.size + 3) % 256 := by
  obtain ⟨h1, h2, h3, h4⟩ := body_at tag t h
  have hz := bodyS_size tag t
  have hm := may_iff.1 h
  have hl : ∀ i, i < 3 + t.size → byteAt (encS tag t) i = byteAt (bodyS tag t) i := fun i hi => by unfold encS; rw [byteAt_left _ _ _ (by omega)]
  refine ⟨by rw [hl 0 (by omega)]; exact h1, ?_, fun i hi => by rw [hl _ (by omega)]; exact h4 i hi, ?_⟩
  · unfold sizeN
    rw [hl 1 (by omega), hl 2 (by omega), h2, h3]
    omega
  · have hs : sumI (encS tag t) (t.size + 3) = sumI (bodyS tag t) (bodyS tag t).size := by
      unfold encS
      rw [sumI_left _ _ _ (by omega), hz, Nat.add_comm]
    rw [hs]
    have e : t.size + 3 = (bodyS tag t).size + 0 := by omega
    rw [e]
    unfold encS
    rw [byteAt_right _ _ _ (by rw [mkB_size]; simp), mkB_at _ 0 (by simp) (by simp; omega)]
    rfl

theorem enc_stands (tag : Int) (t : ByteArray) (h : mayB tag t.size = true) : standsB (encS tag t) = true ∧ frOf (encS tag t) = ⟨tag, t⟩ ∧ restOf (encS tag t) = ⟨#[]⟩ := by
  obtain ⟨h1, h2, h3, h4⟩ := enc_at tag t h
  have hz := enc_size tag t
  have hm := may_iff.1 h
  refine ⟨stands_iff.2 ⟨by omega, by omega, by omega, by omega, ?_⟩, ?_, ?_⟩
  · unfold sumOK
    rw [h2, decide_eq_true_eq]
    exact h4
  · unfold frOf
    rw [h1, h2]
    congr 1
    apply bytes_ext
    · rw [size_extract', hz]; omega
    · intro i hi
      rw [size_extract', hz] at hi
      rw [byteAt_extract _ _ _ _ (by omega)]
      exact h3 i (by omega)
  · unfold restOf
    rw [h2, hz]
    exact empty_yes (by rw [size_extract']; omega)

/-- A frame's bytes, and whatever is behind them. -/
theorem enc_ahead (tag : Int) (t q : ByteArray) (h : mayB tag t.size = true) : framesG (encS tag t ++ q) = ⟨tag, t⟩ :: framesG q ∧ leftG (encS tag t ++ q) = leftG q := by
  obtain ⟨h1, h2, h3⟩ := enc_stands tag t h
  obtain ⟨g1, g2, g3⟩ := stands_left q h1
  refine ⟨?_, ?_⟩
  · unfold framesG
    rw [pairsG_yes g1, g2, g3, h2, h3, nil_app]
    rfl
  · rw [leftG_yes g1, g3, h3, nil_app]

theorem sumI_same {a b : ByteArray} {at_ : Nat} (h : ∀ i, i ≠ at_ → byteAt b i = byteAt a i) : ∀ n, n ≤ at_ → sumI b n = sumI a n
  | 0, _ => rfl
  | n + 1, hn => by simp only [sumI]; rw [sumI_same h n (by omega), h n (by omega)]
theorem sumI_turn {a b : ByteArray} {at_ : Nat} (h : ∀ i, i ≠ at_ → byteAt b i = byteAt a i) : ∀ n, at_ < n → sumI b n = sumI a n + (byteAt b at_ - byteAt a at_)
  | 0, h0 => absurd h0 (by omega)
  | n + 1, hn => by
    simp only [sumI]
    by_cases e : n = at_
    · subst e
      rw [sumI_same h n (Nat.le_refl _)]; omega
    · rw [sumI_turn h n (by omega), h n e]; omega

/-- One byte changed, but none that tells how long it is. -/
theorem hurt {tag : Int} {t b : ByteArray} {at_ : Nat} {by_ : Int} (hm : mayB tag t.size = true) (hz : b.size = (encS tag t).size) (hat : at_ < (encS tag t).size) (h1 : at_ ≠ 1) (h2 : at_ ≠ 2) (hby : 1 ≤ by_ ∧ by_ ≤ 255)
    (hs : ∀ i, i ≠ at_ → byteAt b i = byteAt (encS tag t) i) (hc : byteAt b at_ = (byteAt (encS tag t) at_ + by_) % 256) : spoiltB b = true := by
  obtain ⟨e1, e2, e3, e4⟩ := enc_at tag t hm
  have hez := enc_size tag t
  have hmm := may_iff.1 hm
  have hn : sizeN b = t.size + 4 := by rw [← e2]; unfold sizeN; rw [hs 1 (Ne.symm h1), hs 2 (Ne.symm h2)]
  have hb := byteAt_bd (encS tag t) at_
  by_cases h0 : byteAt b 0 < 1 ∨ 12 < byteAt b 0
  · exact spoilt_iff.2 ⟨by omega, by omega⟩
  · refine spoilt_iff.2 ⟨by omega, Or.inr (Or.inr ⟨by omega, Or.inr ⟨by omega, ?_⟩⟩)⟩
    unfold sumOK
    rw [hn, decide_eq_false_iff_not]
    have e5 : t.size + 4 - 1 = t.size + 3 := by omega
    rw [e5]
    by_cases hl : at_ = t.size + 3
    · subst hl
      rw [sumI_same hs _ (Nat.le_refl _), hc]
      omega
    · rw [sumI_turn hs _ (by omega), hs _ (Ne.symm hl), e4, hc]
      omega
end Go.Proofs.Ythkgflghiooboaa
