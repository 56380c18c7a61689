/- Plain facts on the first letter of a text: what is written is read, and what is read is what was written. -/
import Derived.Test.YtdpicbfpjnampaaDoorUtfBQ
namespace Go.Proofs.YtdpicbfpjnampaaDoor
open Go.RowKit

/-- How many bytes a letter has; the bytes themselves. -/
def sizeOf (r : Int) : Nat := if r < 128 then 1 else if r < 2048 then 2 else if r < 65536 then 3 else 4
def encB (r : Int) (i : Nat) : Int :=
  if r < 128 then r else if r < 2048 then [192 + r / 64, 128 + r % 64].getD i 0
  else if r < 65536 then [224 + r / 4096, 128 + r / 64 % 64, 128 + r % 64].getD i 0
  else [240 + r / 262144, 128 + r / 4096 % 64, 128 + r / 64 % 64, 128 + r % 64].getD i 0

theorem sizeOf_bd (r : Int) : 1 ≤ sizeOf r ∧ sizeOf r ≤ 4 := by unfold sizeOf; repeat (first | omega | split)

theorem letter_iff {r : Int} : letterB r = true ↔ (0 ≤ r ∧ r ≤ 55295) ∨ (57344 ≤ r ∧ r ≤ 1114111) := by unfold letterB; simp

theorem begins_iff1 {bits : Int} {left : Nat} : beginsB bits 1 left = true ↔ 0 ≤ bits ∧ bits ≤ 127 / 2 ^ (6 * left) := by
  simp [beginsB, begK, sz5, lo5, hi5]
theorem begins_iff2 {bits : Int} {left : Nat} : beginsB bits 2 left = true ↔ 128 / 2 ^ (6 * left) ≤ bits ∧ bits ≤ 2047 / 2 ^ (6 * left) := by
  simp [beginsB, begK, sz5, lo5, hi5]
theorem begins_iff3 {bits : Int} {left : Nat} : beginsB bits 3 left = true ↔ (2048 / 2 ^ (6 * left) ≤ bits ∧ bits ≤ 55295 / 2 ^ (6 * left)) ∨ (57344 / 2 ^ (6 * left) ≤ bits ∧ bits ≤ 65535 / 2 ^ (6 * left)) := by
  simp [beginsB, begK, sz5, lo5, hi5]
theorem begins_iff4 {bits : Int} {left : Nat} : beginsB bits 4 left = true ↔ 65536 / 2 ^ (6 * left) ≤ bits ∧ bits ≤ 1114111 / 2 ^ (6 * left) := by
  simp [beginsB, begK, sz5, lo5, hi5]

theorem leadN_1 {b : Int} (h : b < 128) : leadN b = 1 ∧ leadR b = b := by unfold leadN leadR; simp [h]
theorem leadN_0 {b : Int} (h : (128 ≤ b ∧ b < 192) ∨ 248 ≤ b) : leadN b = 0 := by unfold leadN; repeat (first | omega | split)
theorem leadN_2 {b : Int} (h : 192 ≤ b ∧ b < 224) : leadN b = 2 ∧ leadR b = b - 192 := by unfold leadN leadR; constructor <;> repeat (first | omega | split)
theorem leadN_3 {b : Int} (h : 224 ≤ b ∧ b < 240) : leadN b = 3 ∧ leadR b = b - 224 := by unfold leadN leadR; constructor <;> repeat (first | omega | split)
theorem leadN_4 {b : Int} (h : 240 ≤ b ∧ b < 248) : leadN b = 4 ∧ leadR b = b - 240 := by unfold leadN leadR; constructor <;> repeat (first | omega | split)

theorem firstG_one {s : ByteArray} (hs : s.size ≠ 0) (h : byteAt s 0 < 128) : firstG s = ⟨byteAt s 0, 1, 0⟩ := by
  have hb := byteAt_bd s 0
  obtain ⟨e1, e2⟩ := leadN_1 h
  unfold firstG
  rw [if_neg hs, e1, e2, if_neg]
  · rfl
  · have := (begins_iff1 (bits := byteAt s 0) (left := 0)).2 ⟨hb.1, by simp; omega⟩
    simp [this]
theorem firstG_bad {s : ByteArray} (hs : s.size ≠ 0) (h : (128 ≤ byteAt s 0 ∧ byteAt s 0 < 194) ∨ 245 ≤ byteAt s 0) : firstG s = ⟨0, 1, 4⟩ := by
  unfold firstG
  rw [if_neg hs, if_pos]
  by_cases h1 : byteAt s 0 < 192
  · exact Or.inl (leadN_0 (by omega))
  · by_cases h2 : 248 ≤ byteAt s 0
    · exact Or.inl (leadN_0 (by omega))
    · right
      by_cases h3 : byteAt s 0 < 224
      · obtain ⟨e1, e2⟩ := leadN_2 (b := byteAt s 0) (by omega)
        rw [e1, e2, Bool.eq_false_iff]
        intro hq
        have := begins_iff2.1 hq
        simp at this
        omega
      · obtain ⟨e1, e2⟩ := leadN_4 (b := byteAt s 0) (by omega)
        rw [e1, e2, Bool.eq_false_iff]
        intro hq
        have := begins_iff4.1 hq
        simp at this
        omega
theorem firstG_two {s : ByteArray} (hs : s.size ≠ 0) (h : 194 ≤ byteAt s 0 ∧ byteAt s 0 < 224) :
    firstG s = if 1 = s.size then ⟨0, 0, 2⟩ else if byteAt s 1 / 64 = 2 then ⟨(byteAt s 0 - 192) * 64 + byteAt s 1 % 64, 2, 0⟩ else ⟨0, 1, 4⟩ := by
  obtain ⟨e1, e2⟩ := leadN_2 (b := byteAt s 0) (by omega)
  have hb1 := byteAt_bd s 1
  unfold firstG
  rw [if_neg hs, e1, e2, if_neg]
  · show firstLoop s 2 (2 - 1) _ = _
    rw [firstLoop_step (by omega)]
    by_cases c : 1 = s.size
    · rw [if_pos c, if_pos c]
    · rw [if_neg c, if_neg c]
      refine if_iff ⟨fun h => h.1, fun h => ⟨h, begins_iff2.2 ?_⟩⟩
      simp; omega
  · have := (begins_iff2 (bits := byteAt s 0 - 192) (left := 1)).2 (by simp; omega)
    simp [this]
theorem firstG_three {s : ByteArray} (hs : s.size ≠ 0) (h : 224 ≤ byteAt s 0 ∧ byteAt s 0 < 240) :
    firstG s = if 1 = s.size then ⟨0, 0, 2⟩ else if byteAt s 1 / 64 = 2 ∧ ((32 ≤ (byteAt s 0 - 224) * 64 + byteAt s 1 % 64 ∧ (byteAt s 0 - 224) * 64 + byteAt s 1 % 64 ≤ 863) ∨ 896 ≤ (byteAt s 0 - 224) * 64 + byteAt s 1 % 64) then
      if 2 = s.size then ⟨0, 0, 2⟩ else if byteAt s 2 / 64 = 2 then ⟨((byteAt s 0 - 224) * 64 + byteAt s 1 % 64) * 64 + byteAt s 2 % 64, 3, 0⟩ else ⟨0, 2, 4⟩
      else ⟨0, 1, 4⟩ := by
  obtain ⟨e1, e2⟩ := leadN_3 (b := byteAt s 0) (by omega)
  have hb1 := byteAt_bd s 1
  have hb2 := byteAt_bd s 2
  unfold firstG
  rw [if_neg hs, e1, e2, if_neg]
  · show firstLoop s 3 (3 - 1) _ = _
    rw [firstLoop_step (by omega)]
    by_cases c : 1 = s.size
    · rw [if_pos c, if_pos c]
    · rw [if_neg c, if_neg c]
      by_cases d : byteAt s 1 / 64 = 2 ∧ ((32 ≤ (byteAt s 0 - 224) * 64 + byteAt s 1 % 64 ∧ (byteAt s 0 - 224) * 64 + byteAt s 1 % 64 ≤ 863) ∨ 896 ≤ (byteAt s 0 - 224) * 64 + byteAt s 1 % 64)
      · rw [if_pos d, if_pos ⟨d.1, begins_iff3.2 (by simp; omega)⟩]
        show firstLoop s 3 (3 - 2) _ = _
        rw [firstLoop_step (by omega)]
        by_cases c2 : 2 = s.size
        · rw [if_pos c2, if_pos c2]
        · rw [if_neg c2, if_neg c2]
          refine if_iff ⟨fun h => h.1, fun h => ⟨h, begins_iff3.2 ?_⟩⟩
          simp; omega
      · rw [if_neg d, if_neg (fun hq => d ⟨hq.1, by have := begins_iff3.1 hq.2; simp at this; omega⟩)]
        rfl
  · have := (begins_iff3 (bits := byteAt s 0 - 224) (left := 2)).2 (by simp; omega)
    simp [this]
theorem firstG_four {s : ByteArray} (hs : s.size ≠ 0) (h : 240 ≤ byteAt s 0 ∧ byteAt s 0 < 245) :
    firstG s = if 1 = s.size then ⟨0, 0, 2⟩ else if byteAt s 1 / 64 = 2 ∧ 16 ≤ (byteAt s 0 - 240) * 64 + byteAt s 1 % 64 ∧ (byteAt s 0 - 240) * 64 + byteAt s 1 % 64 ≤ 271 then
      if 2 = s.size then ⟨0, 0, 2⟩ else if byteAt s 2 / 64 = 2 then
        if 3 = s.size then ⟨0, 0, 2⟩ else if byteAt s 3 / 64 = 2 then ⟨(((byteAt s 0 - 240) * 64 + byteAt s 1 % 64) * 64 + byteAt s 2 % 64) * 64 + byteAt s 3 % 64, 4, 0⟩ else ⟨0, 3, 4⟩
        else ⟨0, 2, 4⟩
      else ⟨0, 1, 4⟩ := by
  obtain ⟨e1, e2⟩ := leadN_4 (b := byteAt s 0) (by omega)
  have hb1 := byteAt_bd s 1
  have hb2 := byteAt_bd s 2
  have hb3 := byteAt_bd s 3
  unfold firstG
  rw [if_neg hs, e1, e2, if_neg]
  · show firstLoop s 4 (4 - 1) _ = _
    rw [firstLoop_step (by omega)]
    by_cases c : 1 = s.size
    · rw [if_pos c, if_pos c]
    · rw [if_neg c, if_neg c]
      by_cases d : byteAt s 1 / 64 = 2 ∧ 16 ≤ (byteAt s 0 - 240) * 64 + byteAt s 1 % 64 ∧ (byteAt s 0 - 240) * 64 + byteAt s 1 % 64 ≤ 271
      · rw [if_pos d, if_pos ⟨d.1, begins_iff4.2 (by simp; omega)⟩]
        show firstLoop s 4 (4 - 2) _ = _
        rw [firstLoop_step (by omega)]
        by_cases c2 : 2 = s.size
        · rw [if_pos c2, if_pos c2]
        · rw [if_neg c2, if_neg c2]
          by_cases d2 : byteAt s 2 / 64 = 2
          · rw [if_pos d2, if_pos ⟨d2, begins_iff4.2 (by simp; omega)⟩]
            show firstLoop s 4 (4 - 3) _ = _
            rw [firstLoop_step (by omega)]
            by_cases c3 : 3 = s.size
            · rw [if_pos c3, if_pos c3]
            · rw [if_neg c3, if_neg c3]
              refine if_iff ⟨fun h => h.1, fun h => ⟨h, begins_iff4.2 ?_⟩⟩
              simp; omega
          · rw [if_neg d2, if_neg (fun hq => d2 hq.1)]
            rfl
      · rw [if_neg d, if_neg (fun hq => d ⟨hq.1, by have := begins_iff4.1 hq.2; simp at this; omega⟩)]
        rfl
  · have := (begins_iff4 (bits := byteAt s 0 - 240) (left := 3)).2 (by simp; omega)
    simp [this]
end Go.Proofs.YtdpicbfpjnampaaDoor
