/- Plain facts on letters' bytes: written, read, cut short; a text of letters alone. -/
/- Plain: a letter's bytes ahead of any others. -/
import Derived.Test.YtkejoknphnkhnaaDoorUtfMQ
namespace Go.Proofs.YtkejoknphnkhnaaDoor
open Go.RowKit

theorem encB_1 {r : Int} (h : r < 128) : sizeOf r = 1 ∧ encB r 0 = r := by simp [sizeOf, encB, h]
theorem encB_2 {r : Int} (h : 128 ≤ r ∧ r < 2048) : sizeOf r = 2 ∧ encB r 0 = 192 + r / 64 ∧ encB r 1 = 128 + r % 64 := by
  have h1 : ¬ r < 128 := by omega
  simp [sizeOf, encB, h1, h.2]
theorem encB_3 {r : Int} (h : 2048 ≤ r ∧ r < 65536) : sizeOf r = 3 ∧ encB r 0 = 224 + r / 4096 ∧ encB r 1 = 128 + r / 64 % 64 ∧ encB r 2 = 128 + r % 64 := by
  have h1 : ¬ r < 128 := by omega
  have h2 : ¬ r < 2048 := by omega
  simp [sizeOf, encB, h1, h2, h.2]
theorem encB_4 {r : Int} (h : 65536 ≤ r) : sizeOf r = 4 ∧ encB r 0 = 240 + r / 262144 ∧ encB r 1 = 128 + r / 4096 % 64 ∧ encB r 2 = 128 + r / 64 % 64 ∧ encB r 3 = 128 + r % 64 := by
  have h1 : ¬ r < 128 := by omega
  have h2 : ¬ r < 2048 := by omega
  have h3 : ¬ r < 65536 := by omega
  simp [sizeOf, encB, h1, h2, h3]

theorem got_ext {a b c a' b' c' : Int} (h1 : a = a') (h2 : b = b') (h3 : c = c') : (⟨a, b, c⟩ : Got) = ⟨a', b', c'⟩ := by rw [h1, h2, h3]

/-- What begins with a letter's bytes reads as that letter. -/
theorem firstG_enc {r : Int} (hr : letterB r = true) {s : ByteArray} (hs : sizeOf r ≤ s.size) (hb : ∀ i, i < sizeOf r → byteAt s i = encB r i) : firstG s = ⟨r, sizeOf r, 0⟩ := by
  rw [letter_iff] at hr
  by_cases c1 : r < 128
  · obtain ⟨e, h0⟩ := encB_1 c1
    rw [e] at hs hb ⊢
    have b0 := hb 0 (by omega)
    rw [h0] at b0
    rw [firstG_one (by omega) (by omega)]
    exact got_ext b0 rfl rfl
  · by_cases c2 : r < 2048
    · obtain ⟨e, h0, h1⟩ := encB_2 (r := r) ⟨by omega, c2⟩
      rw [e] at hs hb ⊢
      have b0 := hb 0 (by omega)
      have b1 := hb 1 (by omega)
      rw [h0] at b0
      rw [h1] at b1
      rw [firstG_two (by omega) (by omega), if_neg (by omega), if_pos (by omega)]
      exact got_ext (by omega) rfl rfl
    · by_cases c3 : r < 65536
      · obtain ⟨e, h0, h1, h2⟩ := encB_3 (r := r) ⟨by omega, c3⟩
        rw [e] at hs hb ⊢
        have b0 := hb 0 (by omega)
        have b1 := hb 1 (by omega)
        have b2 := hb 2 (by omega)
        rw [h0] at b0
        rw [h1] at b1
        rw [h2] at b2
        rw [firstG_three (by omega) (by omega), if_neg (by omega), if_pos (by omega), if_neg (by omega), if_pos (by omega)]
        exact got_ext (by omega) rfl rfl
      · obtain ⟨e, h0, h1, h2, h3⟩ := encB_4 (r := r) (by omega)
        rw [e] at hs hb ⊢
        have b0 := hb 0 (by omega)
        have b1 := hb 1 (by omega)
        have b2 := hb 2 (by omega)
        have b3 := hb 3 (by omega)
        rw [h0] at b0
        rw [h1] at b1
        rw [h2] at b2
        rw [h3] at b3
        rw [firstG_four (by omega) (by omega), if_neg (by omega), if_pos (by omega), if_neg (by omega), if_pos (by omega), if_neg (by omega), if_pos (by omega)]
        exact got_ext (by omega) rfl rfl

/-- A letter's bytes, cut short, are not whole yet. -/
theorem firstG_cut {r : Int} (hr : letterB r = true) {s : ByteArray} (hs : s.size < sizeOf r) (hb : ∀ i, i < s.size → byteAt s i = encB r i) : firstG s = ⟨0, 0, 2⟩ := by
  rw [letter_iff] at hr
  by_cases h00 : s.size = 0
  · exact firstG_empty h00
  by_cases c1 : r < 128
  · obtain ⟨e, h0⟩ := encB_1 c1
    omega
  · by_cases c2 : r < 2048
    · obtain ⟨e, h0, h1⟩ := encB_2 (r := r) ⟨by omega, c2⟩
      rw [e] at hs
      have b0 := hb 0 (by omega)
      rw [h0] at b0
      rw [firstG_two (by omega) (by omega), if_pos (by omega)]
    · by_cases c3 : r < 65536
      · obtain ⟨e, h0, h1, h2⟩ := encB_3 (r := r) ⟨by omega, c3⟩
        rw [e] at hs
        have b0 := hb 0 (by omega)
        rw [h0] at b0
        rw [firstG_three (by omega) (by omega)]
        by_cases d1 : 1 = s.size
        · rw [if_pos d1]
        · have b1 := hb 1 (by omega)
          rw [h1] at b1
          rw [if_neg d1, if_pos (by omega), if_pos (by omega)]
      · obtain ⟨e, h0, h1, h2, h3⟩ := encB_4 (r := r) (by omega)
        rw [e] at hs
        have b0 := hb 0 (by omega)
        rw [h0] at b0
        rw [firstG_four (by omega) (by omega)]
        by_cases d1 : 1 = s.size
        · rw [if_pos d1]
        · have b1 := hb 1 (by omega)
          rw [h1] at b1
          rw [if_neg d1, if_pos (by omega)]
          by_cases d2 : 2 = s.size
          · rw [if_pos d2]
          · have b2 := hb 2 (by omega)
            rw [h2] at b2
            rw [if_neg d2, if_pos (by omega), if_pos (by omega)]

/-- What the first letter may be: a letter with just these bytes; a beginning; or one to three bytes spoilt. -/
theorem firstG_cases (s : ByteArray) : (∃ r, letterB r = true ∧ firstG s = ⟨r, sizeOf r, 0⟩ ∧ sizeOf r ≤ s.size ∧ ∀ i, i < sizeOf r → byteAt s i = encB r i) ∨
    (firstG s = ⟨0, 0, 2⟩ ∧ s.size ≤ 3) ∨ ∃ n : Nat, firstG s = ⟨0, (n : Int), 4⟩ ∧ 1 ≤ n ∧ n ≤ 3 ∧ n ≤ s.size := by
  by_cases h00 : s.size = 0
  · exact Or.inr (Or.inl ⟨firstG_empty h00, by omega⟩)
  have hb0 := byteAt_bd s 0
  have hb1 := byteAt_bd s 1
  have hb2 := byteAt_bd s 2
  have hb3 := byteAt_bd s 3
  by_cases c1 : byteAt s 0 < 128
  · obtain ⟨e, h0⟩ := encB_1 c1
    refine Or.inl ⟨byteAt s 0, letter_iff.2 (by omega), ?_, by rw [e]; omega, fun i hi => ?_⟩
    · rw [firstG_one h00 c1, e]; rfl
    · rw [e] at hi
      obtain rfl : i = 0 := by omega
      exact h0.symm
  · by_cases c2 : byteAt s 0 < 194 ∨ 245 ≤ byteAt s 0
    · exact Or.inr (Or.inr ⟨1, firstG_bad h00 (by omega), by omega, by omega, by omega⟩)
    · by_cases c3 : byteAt s 0 < 224
      · rw [firstG_two h00 (by omega)]
        by_cases d1 : 1 = s.size
        · rw [if_pos d1]; exact Or.inr (Or.inl ⟨rfl, by omega⟩)
        · rw [if_neg d1]
          by_cases d2 : byteAt s 1 / 64 = 2
          · rw [if_pos d2]
            obtain ⟨e, h0, h1⟩ := encB_2 (r := (byteAt s 0 - 192) * 64 + byteAt s 1 % 64) (by omega)
            refine Or.inl ⟨(byteAt s 0 - 192) * 64 + byteAt s 1 % 64, letter_iff.2 (by omega), by rw [e]; rfl, by rw [e]; omega, fun i hi => ?_⟩
            rw [e] at hi
            have hi2 : i = 0 ∨ i = 1 := by omega
            rcases hi2 with rfl | rfl
            · rw [h0]; omega
            · rw [h1]; omega
          · rw [if_neg d2]; exact Or.inr (Or.inr ⟨1, rfl, by omega, by omega, by omega⟩)
      · by_cases c4 : byteAt s 0 < 240
        · rw [firstG_three h00 (by omega)]
          by_cases d1 : 1 = s.size
          · rw [if_pos d1]; exact Or.inr (Or.inl ⟨rfl, by omega⟩)
          · rw [if_neg d1]
            by_cases d2 : byteAt s 1 / 64 = 2 ∧ ((32 ≤ (byteAt s 0 - 224) * 64 + byteAt s 1 % 64 ∧ (byteAt s 0 - 224) * 64 + byteAt s 1 % 64 ≤ 863) ∨ 896 ≤ (byteAt s 0 - 224) * 64 + byteAt s 1 % 64)
            · rw [if_pos d2]
              by_cases d3 : 2 = s.size
              · rw [if_pos d3]; exact Or.inr (Or.inl ⟨rfl, by omega⟩)
              · rw [if_neg d3]
                by_cases d4 : byteAt s 2 / 64 = 2
                · rw [if_pos d4]
                  obtain ⟨e, h0, h1, h2⟩ := encB_3 (r := ((byteAt s 0 - 224) * 64 + byteAt s 1 % 64) * 64 + byteAt s 2 % 64) (by omega)
                  refine Or.inl ⟨((byteAt s 0 - 224) * 64 + byteAt s 1 % 64) * 64 + byteAt s 2 % 64, letter_iff.2 (by omega), by rw [e]; rfl, by rw [e]; omega, fun i hi => ?_⟩
                  rw [e] at hi
                  have hi2 : i = 0 ∨ i = 1 ∨ i = 2 := by omega
                  rcases hi2 with rfl | rfl | rfl
                  · rw [h0]; omega
                  · rw [h1]; omega
                  · rw [h2]; omega
                · rw [if_neg d4]; exact Or.inr (Or.inr ⟨2, rfl, by omega, by omega, by omega⟩)
            · rw [if_neg d2]; exact Or.inr (Or.inr ⟨1, rfl, by omega, by omega, by omega⟩)
        · rw [firstG_four h00 (by omega)]
          by_cases d1 : 1 = s.size
          · rw [if_pos d1]; exact Or.inr (Or.inl ⟨rfl, by omega⟩)
          · rw [if_neg d1]
            by_cases d2 : byteAt s 1 / 64 = 2 ∧ 16 ≤ (byteAt s 0 - 240) * 64 + byteAt s 1 % 64 ∧ (byteAt s 0 - 240) * 64 + byteAt s 1 % 64 ≤ 271
            · rw [if_pos d2]
              by_cases d3 : 2 = s.size
              · rw [if_pos d3]; exact Or.inr (Or.inl ⟨rfl, by omega⟩)
              · rw [if_neg d3]
                by_cases d4 : byteAt s 2 / 64 = 2
                · rw [if_pos d4]
                  by_cases d5 : 3 = s.size
                  · rw [if_pos d5]; exact Or.inr (Or.inl ⟨rfl, by omega⟩)
                  · rw [if_neg d5]
                    by_cases d6 : byteAt s 3 / 64 = 2
                    · rw [if_pos d6]
                      obtain ⟨e, h0, h1, h2, h3⟩ := encB_4 (r := (((byteAt s 0 - 240) * 64 + byteAt s 1 % 64) * 64 + byteAt s 2 % 64) * 64 + byteAt s 3 % 64) (by omega)
                      refine Or.inl ⟨(((byteAt s 0 - 240) * 64 + byteAt s 1 % 64) * 64 + byteAt s 2 % 64) * 64 + byteAt s 3 % 64, letter_iff.2 (by omega), by rw [e]; rfl, by rw [e]; omega, fun i hi => ?_⟩
                      rw [e] at hi
                      have hi2 : i = 0 ∨ i = 1 ∨ i = 2 ∨ i = 3 := by omega
                      rcases hi2 with rfl | rfl | rfl | rfl
                      · rw [h0]; omega
                      · rw [h1]; omega
                      · rw [h2]; omega
                      · rw [h3]; omega
                    · rw [if_neg d6]; exact Or.inr (Or.inr ⟨3, rfl, by omega, by omega, by omega⟩)
                · rw [if_neg d4]; exact Or.inr (Or.inr ⟨2, rfl, by omega, by omega, by omega⟩)
            · rw [if_neg d2]; exact Or.inr (Or.inr ⟨1, rfl, by omega, by omega, by omega⟩)

/-- The model's own bytes of a letter are these. -/
theorem enc_bytes {r : Int} (hr : letterB r = true) : (Utf8.encode r).size = sizeOf r ∧ ∀ i, i < sizeOf r → byteAt (Utf8.encode r) i = encB r i := by
  rw [letter_iff] at hr
  obtain ⟨n, rfl⟩ : ∃ n : Nat, r = n := ⟨r.toNat, by omega⟩
  have hv : Utf8.valid (n : Int) = true := by
    unfold Utf8.valid
    simp only [Bool.or_eq_true, Bool.and_eq_true, decide_eq_true_eq]
    omega
  unfold Utf8.encode
  simp only [hv, if_true, Int.toNat_natCast]
  by_cases c1 : (n : Int) < 128
  · obtain ⟨e, h0⟩ := encB_1 c1
    rw [e, if_pos (by omega)]
    refine ⟨rfl, fun i hi => ?_⟩
    obtain rfl : i = 0 := by omega
    rw [h0]
    show ((UInt8.ofNat n).toNat : Int) = _
    simp; omega
  · by_cases c2 : (n : Int) < 2048
    · obtain ⟨e, h0, h1⟩ := encB_2 (r := (n : Int)) (by omega)
      rw [e, if_neg (by omega), if_pos (by omega)]
      refine ⟨rfl, fun i hi => ?_⟩
      have hi2 : i = 0 ∨ i = 1 := by omega
      rcases hi2 with rfl | rfl
      · rw [h0]
        show ((UInt8.ofNat _).toNat : Int) = _
        simp; omega
      · rw [h1]
        show ((UInt8.ofNat _).toNat : Int) = _
        simp; omega
    · by_cases c3 : (n : Int) < 65536
      · obtain ⟨e, h0, h1, h2⟩ := encB_3 (r := (n : Int)) (by omega)
        rw [e, if_neg (by omega), if_neg (by omega), if_pos (by omega)]
        refine ⟨rfl, fun i hi => ?_⟩
        have hi2 : i = 0 ∨ i = 1 ∨ i = 2 := by omega
        rcases hi2 with rfl | rfl | rfl
        · rw [h0]
          show ((UInt8.ofNat _).toNat : Int) = _
          simp; omega
        · rw [h1]
          show ((UInt8.ofNat _).toNat : Int) = _
          simp; omega
        · rw [h2]
          show ((UInt8.ofNat _).toNat : Int) = _
          simp; omega
      · obtain ⟨e, h0, h1, h2, h3⟩ := encB_4 (r := (n : Int)) (by omega)
        rw [e, if_neg (by omega), if_neg (by omega), if_neg (by omega)]
        refine ⟨rfl, fun i hi => ?_⟩
        have hi2 : i = 0 ∨ i = 1 ∨ i = 2 ∨ i = 3 := by omega
        rcases hi2 with rfl | rfl | rfl | rfl
        · rw [h0]
          show ((UInt8.ofNat _).toNat : Int) = _
          simp; omega
        · rw [h1]
          show ((UInt8.ofNat _).toNat : Int) = _
          simp; omega
        · rw [h2]
          show ((UInt8.ofNat _).toNat : Int) = _
          simp; omega
        · rw [h3]
          show ((UInt8.ofNat _).toNat : Int) = _
          simp; omega

/-- Letters alone, one behind the other. -/
def validF : Nat → ByteArray → Bool
  | 0, _ => true
  | f + 1, s => if s.size = 0 then true else if (firstG s).e = 0 then validF f (s.extract (firstG s).n.toNat s.size) else false
def validG (s : ByteArray) : Bool := validF s.size s

theorem validF_more : ∀ (f g : Nat) (s : ByteArray), s.size ≤ f → s.size ≤ g → validF f s = validF g s
  | 0, g, s, hf, _ => by
    cases g with
    | zero => rfl
    | succ g => rw [validF, validF, if_pos (by omega)]
  | f + 1, 0, s, _, hg => by rw [validF, validF, if_pos (by omega)]
  | f + 1, g + 1, s, hf, hg => by
    rw [validF, validF]
    by_cases h : s.size = 0
    · rw [if_pos h, if_pos h]
    · rw [if_neg h, if_neg h]
      rcases firstG_cases s with ⟨r, _, e, hl, _⟩ | ⟨e, _⟩ | ⟨n, e, _⟩
      · rw [e]
        have := sizeOf_bd r
        simp only [if_true, Int.toNat_natCast]
        exact validF_more f g _ (by rw [size_extract']; omega) (by rw [size_extract']; omega)
      · rw [e]; rfl
      · rw [e]; rfl

theorem validG_empty {s : ByteArray} (h : s.size = 0) : validG s = true := by unfold validG; rw [h]; rfl
theorem validG_step {s : ByteArray} (h : s.size ≠ 0) : validG s = if (firstG s).e = 0 then validG (s.extract (firstG s).n.toNat s.size) else false := by
  unfold validG
  obtain ⟨f, hf⟩ : ∃ f, s.size = f + 1 := ⟨s.size - 1, by omega⟩
  rw [hf, validF, if_neg h]
  rcases firstG_cases s with ⟨r, _, e, hl, _⟩ | ⟨e, _⟩ | ⟨n, e, _⟩
  · have := sizeOf_bd r
    rw [e]
    simp only [if_true, Int.toNat_natCast]
    rw [← hf]
    exact validF_more _ _ _ (by rw [size_extract']; omega) (Nat.le_refl _)
  · rw [e]; rfl
  · rw [e]; rfl
end Go.Proofs.YtkejoknphnkhnaaDoor

namespace Go.Proofs.YtkejoknphnkhnaaDoor
open Go.RowKit

theorem firstG_in (s : ByteArray) : 0 ≤ (firstG s).n ∧ (firstG s).n.toNat ≤ s.size ∧ ((firstG s).e = 0 → 1 ≤ (firstG s).n.toNat) := by
  rcases firstG_cases s with ⟨r, _, h, hs, _⟩ | ⟨h, _⟩ | ⟨n, h, h1, h2, h3⟩
  · have := sizeOf_bd r
    rw [h]
    simp only [Int.toNat_natCast]
    omega
  · rw [h]
    simp
  · rw [h]
    simp only [Int.toNat_natCast]
    omega
theorem first_front {r : Int} (hr : letterB r = true) (s : ByteArray) : firstG (Utf8.encode r ++ s) = ⟨r, sizeOf r, 0⟩ := by
  obtain ⟨hz, hb⟩ := enc_bytes hr
  exact firstG_enc hr (by rw [size_append', hz]; omega) (fun i hi => by rw [byteAt_left _ _ _ (by omega)]; exact hb i hi)
theorem rest_front {r : Int} (hr : letterB r = true) (s : ByteArray) : (Utf8.encode r ++ s).extract (sizeOf r) (Utf8.encode r ++ s).size = s := by
  obtain ⟨hz, _⟩ := enc_bytes hr
  apply bytes_ext
  · rw [size_extract', size_append', hz]; omega
  · intro i hi
    rw [size_extract', size_append', hz] at hi
    rw [byteAt_extract _ _ _ _ (by rw [size_append', hz]; omega), ← hz, byteAt_right _ _ _ (by omega)]
theorem enc_pos {r : Int} (hr : letterB r = true) : (Utf8.encode r).size ≠ 0 := by
  have := (enc_bytes hr).1
  have := sizeOf_bd r
  omega
end Go.Proofs.YtkejoknphnkhnaaDoor
