/- The package utf: the first letter of a text. -/
/- Plain facts on the first letter of a text: what is written is read, and what is read is what was written. -/
/- Plain facts on letters' bytes: written, read, cut short; a text of letters alone. -/
/- Plain: a letter's bytes ahead of any others. -/
import Derived.Test.YteebbmmgbjpihaaDoorCellIQ
namespace Go.Proofs.YteebbmmgbjpihaaDoor
open Go.RowKit

structure Got where
  r : Int
  n : Int
  e : Int

def Got.val (g : Got) : Value := .tuple #[.int .i32 g.r, .int .i64 g.n, .int .i64 g.e]

/-- The bytes from the first on: so many of them are left to read. -/
def firstLoop (s : ByteArray) (size : Nat) : Nat → Int → Got
  | 0, r => ⟨r, size, 0⟩
  | m + 1, r => if size - (m + 1) = s.size then ⟨0, 0, 2⟩ else
      if byteAt s (size - (m + 1)) / 64 = 2 ∧ beginsB (r * 64 + byteAt s (size - (m + 1)) % 64) size m = true then firstLoop s size m (r * 64 + byteAt s (size - (m + 1)) % 64) else ⟨0, ((size - (m + 1) : Nat) : Int), 4⟩

theorem firstLoop_step {s : ByteArray} {size n : Nat} (h : n < size) (r : Int) : firstLoop s size (size - n) r = if n = s.size then ⟨0, 0, 2⟩ else
      if byteAt s n / 64 = 2 ∧ beginsB (r * 64 + byteAt s n % 64) size (size - n - 1) = true then firstLoop s size (size - n - 1) (r * 64 + byteAt s n % 64) else ⟨0, (n : Int), 4⟩ := by
  obtain ⟨m, rfl⟩ : ∃ m, size = n + (m + 1) := ⟨size - n - 1, by omega⟩
  rw [show n + (m + 1) - n = m + 1 by omega, firstLoop, show n + (m + 1) - (m + 1) = n by omega, show m + 1 - 1 = m by omega]

def firstG (s : ByteArray) : Got :=
  if s.size = 0 then ⟨0, 0, 2⟩ else
    if leadN (byteAt s 0) = 0 ∨ beginsB (leadR (byteAt s 0)) (leadN (byteAt s 0)) ((leadN (byteAt s 0)).toNat - 1) = false then ⟨0, 1, 4⟩
    else firstLoop s (leadN (byteAt s 0)).toNat ((leadN (byteAt s 0)).toNat - 1) (leadR (byteAt s 0))

theorem leadN_bd (b : Int) : 0 ≤ leadN b ∧ leadN b ≤ 4 := by unfold leadN; repeat (first | omega | split)
theorem leadR_bd (b : Int) (h : 0 ≤ b) : 0 ≤ leadR b ∧ leadR b ≤ 127 := by unfold leadR; repeat (first | omega | split)

theorem begins_at (bits size l : Int) (h0 : 0 ≤ l) (h3 : l ≤ 3) (w : World) (hT : Tab w) :
    Calls Tryd.prog 94 #[.int .i32 bits, .int .i64 size, .int .i64 l] w fun e w' => e = .returned (.bool (beginsB bits size l.toNat)) ∧ Below w.heap.size w w' := by
  obtain ⟨k, rfl⟩ : ∃ k : Nat, l = k := ⟨l.toNat, by omega⟩
  exact begins_any bits size k (by omega) w hT

theorem firstG_empty {s : ByteArray} (h : s.size = 0) : firstG s = ⟨0, 0, 2⟩ := by unfold firstG; rw [if_pos h]
theorem ret_got {g : Got} {a b c : Int} (h : g = ⟨a, b, c⟩) : Ending.returned (.tuple #[.int .i32 a, .int .i64 b, .int .i64 c]) = .returned g.val := by rw [h]; rfl

theorem begins_bd {bits size : Int} {left : Nat} (h : beginsB bits size left = true) : 0 ≤ bits ∧ bits ≤ 1114111 ∧ (1 ≤ left → bits ≤ 17407) := by
  have key : ∀ k, k < 5 → begK bits size left k = true → 0 ≤ bits ∧ bits ≤ 1114111 ∧ (1 ≤ left → bits ≤ 17407) := by
    intro k hk hb
    unfold begK at hb
    obtain ⟨_, h1, h2⟩ := of_decide_eq_true hb
    have hlo : 0 ≤ lo5 k / 2 ^ (6 * left) := Int.ediv_nonneg (by
      have hk5 : k = 0 ∨ k = 1 ∨ k = 2 ∨ k = 3 ∨ k = 4 := by omega
      rcases hk5 with rfl | rfl | rfl | rfl | rfl <;> decide) (by exact Int.pow_nonneg (by decide))
    have hhi : 0 ≤ hi5 k ∧ hi5 k ≤ 1114111 := by
      have hk5 : k = 0 ∨ k = 1 ∨ k = 2 ∨ k = 3 ∨ k = 4 := by omega
      rcases hk5 with rfl | rfl | rfl | rfl | rfl <;> decide
    have h3 : hi5 k / 2 ^ (6 * left) ≤ hi5 k := Int.ediv_le_self _ hhi.1
    refine ⟨by omega, by omega, fun hl => ?_⟩
    have h4 : hi5 k / 2 ^ (6 * left) ≤ hi5 k / 64 := by
      have e : (2 : Int) ^ (6 * left) = 64 * 2 ^ (6 * left - 6) := by
        rw [show (64 : Int) = 2 ^ 6 by decide, ← Int.pow_add]
        congr 1; omega
      rw [e, ← Int.ediv_ediv_of_nonneg (by decide)]
      exact Int.ediv_le_self _ (Int.ediv_nonneg hhi.1 (by decide))
    omega
  unfold beginsB at h
  simp only [Bool.or_eq_true] at h
  rcases h with (((h | h) | h) | h) | h
  · exact key 0 (by omega) h
  · exact key 1 (by omega) h
  · exact key 2 (by omega) h
  · exact key 3 (by omega) h
  · exact key 4 (by omega) h

set_option maxRecDepth 100000 in
set_option maxHeartbeats 400000 in
theorem first_any (s : ByteArray) (w : World) (hs : s.size ≤ maxLen) (hT : Tab w) :
    Calls Tryd.prog 90 #[.string s] w fun e w' => e = .returned (firstG s).val ∧ Below w.heap.size w w' := by
  unfold maxLen at hs
  by_cases h0 : s.size = 0
  · obtain rfl := empty_yes h0
    go_enter Tryd.func90, Tryd.ntmps90
    go_wp2
    go_ret3
    exact ⟨ret_got (firstG_empty h0), Below.refl _ _⟩
  · have hpos : 0 < s.size := by omega
    obtain ⟨size, hsize⟩ : ∃ size : Nat, leadN (s[0].toNat : Int) = size := ⟨(leadN (s[0].toNat : Int)).toNat, by have := leadN_bd (s[0].toNat : Int); omega⟩
    obtain ⟨R, hR⟩ : ∃ R : Int, leadR (s[0].toNat : Int) = R := ⟨_, rfl⟩
    have hld := lead_any (s[0].toNat : Int) (by omega) (by have := UInt8.toNat_lt s[0]; omega)
    have hbd := leadR_bd (s[0].toNat : Int) (by omega)
    have hn := leadN_bd (s[0].toNat : Int)
    rw [hsize] at hn
    rw [hsize, hR] at hld
    rw [hR] at hbd
    have hG : firstG s = if size = 0 ∨ beginsB R size (size - 1) = false then ⟨0, 1, 4⟩ else firstLoop s size (size - 1) R := by
      unfold firstG
      rw [if_neg h0, ← byteAt_eq hpos, hsize, hR]
      simp
    have hne := empty_no h0
    have HG := hid hG
    clear hG hsize hR h0
    obtain ⟨hn1, hn4⟩ := hn
    by_cases hz : size = 0
    · subst hz
      go_enter Tryd.func90, Tryd.ntmps90
      go_wp2_with (go_at_call 93; refine (hld _).mono ?_; rintro e w' ⟨rfl, rfl⟩)
      go_ret3
      exact ⟨ret_got (by rw [HG.out, if_pos (Or.inl trivial)]), Below.refl _ _⟩
    · have hz1 : 1 ≤ size := by omega
      clear hz
      by_cases hbeg : beginsB R size (size - 1) = false
      · have hca := begins_at R size ((size : Int) - 1) (by omega) (by omega) w hT
        have e1 : ((size : Int) - 1).toNat = size - 1 := by omega
        rw [e1, hbeg] at hca
        clear e1
        have HG2 : Hid (firstG s = ⟨0, 1, 4⟩) := by unfold Hid; rw [HG.out, if_pos (Or.inr hbeg)]
        clear HG
        have hq0 : ((size : Int) == 0) = false := by simp; omega
        go_enter Tryd.func90, Tryd.ntmps90
        go_wp2_with (first | (go_at_call 93; refine (hld _).mono ?_; rintro e w' ⟨rfl, rfl⟩) | (go_at_call 94; refine hca.mono ?_; rintro e w' ⟨rfl, hb⟩))
        go_ret3
        exact ⟨ret_got HG2.out, hb⟩
      · have hbeg : beginsB R size (size - 1) = true := by simpa using hbeg
        have hg := begins_bd hbeg
        have hca := begins_at R size ((size : Int) - 1) (by omega) (by omega) w hT
        have e1 : ((size : Int) - 1).toNat = size - 1 := by omega
        rw [e1, hbeg] at hca
        clear e1
        have hq0 : ((size : Int) == 0) = false := by simp; omega
        have HG2 : Hid (firstG s = firstLoop s size (size - 1) R) := by unfold Hid; rw [HG.out, if_neg (by simp [hbeg]; omega)]
        clear HG
        go_enter Tryd.func90, Tryd.ntmps90
        go_wp2_with (first | (go_at_call 93; refine (hld _).mono ?_; rintro e w' ⟨rfl, rfl⟩) | (go_at_call 94; refine hca.mono ?_; rintro e w' ⟨rfl, hb⟩))
        clear hld hca
        go_loopw [5, 7] (fun r i wr => ∃ (n : Nat) (rr : Int), 1 ≤ n ∧ n ≤ size ∧ n ≤ s.size ∧ i = .int .i64 n ∧ r = .int .i32 rr ∧ firstLoop s size (size - 1) R = firstLoop s size (size - n) rr ∧ beginsB rr size (size - n) = true ∧ Below w.heap.size w wr) (fun _ i _ => size - (intOf i).toNat)
        case atStart => exact ⟨1, R, by omega, by omega, by omega, rfl, rfl, rfl, hbeg, hb⟩
        case round =>
          obtain ⟨n, rr, hn1', hns, hnl, rfl, rfl, hL, hB, hbr⟩ := hrel
          have hsz := hbr.size
          have hTr := hT.below hbr
          have HL := hid hL
          have HB := hid hB
          clear hL hB
          by_cases hlt : n < size
          · by_cases hend : n = s.size
            · have HE : Hid (firstG s = ⟨0, 0, 2⟩) := by
                unfold Hid
                rw [HG2.out, HL.out, firstLoop_step hlt, if_pos hend]
              clear HG2 HL HB
              go_wp2_with fail
              go_ret3
              exact ⟨ret_got HE.out, hbr⟩
            · have hns' : n < s.size := by omega
              have HE : Hid (firstG s = if (s[n].toNat : Int) / 64 = 2 ∧ beginsB (rr * 64 + (s[n].toNat : Int) % 64) size (size - n - 1) = true then firstLoop s size (size - n - 1) (rr * 64 + (s[n].toNat : Int) % 64) else ⟨0, (n : Int), 4⟩) := by
                unfold Hid
                rw [HG2.out, HL.out, firstLoop_step hlt, if_neg hend, byteAt_eq hns']
              clear hend
              have hb2 := begins_bd HB.out
              have hb3 := hb2.2.2 (by omega)
              by_cases h64 : (s[n].toNat : Int) / 64 = 2
              · have hca := begins_at (rr * 64 + (s[n].toNat : Int) % 64) size ((size : Int) - n - 1) (by omega) (by omega) wr hTr
                have e1 : ((size : Int) - n - 1).toNat = size - n - 1 := by omega
                rw [e1] at hca
                clear e1
                by_cases hbb : beginsB (rr * 64 + (s[n].toNat : Int) % 64) size (size - n - 1) = true
                · have HE2 : Hid (firstG s = firstLoop s size (size - (n + 1)) (rr * 64 + (s[n].toNat : Int) % 64)) := by
                    unfold Hid
                    rw [HE.out, if_pos ⟨h64, hbb⟩]; rfl
                  have HG3 := HG2
                  rw [hbb] at hca
                  have HBB := hid hbb
                  clear hbb HG2 HE HB HL
                  go_wp2_with (go_at_call 94; refine hca.mono ?_; rintro e w' ⟨rfl, hb5⟩)
                  go_roundw
                  case rel => exact ⟨n + 1, _, by omega, by omega, by omega, by go_num, rfl, by rw [← HG3.out, HE2.out], HBB.out, hbr.trans (hb5.mono hsz)⟩
                  case measure => simp [intOf]; omega
                · have HE2 : Hid (firstG s = ⟨0, (n : Int), 4⟩) := by
                    unfold Hid
                    rw [HE.out, if_neg (fun h => hbb h.2)]
                  have hbb : beginsB (rr * 64 + (s[n].toNat : Int) % 64) size (size - n - 1) = false := by simpa using hbb
                  rw [hbb] at hca
                  clear hbb HE HB HL HG2
                  go_wp2_with (go_at_call 94; refine hca.mono ?_; rintro e w' ⟨rfl, hb5⟩)
                  go_ret3
                  exact ⟨ret_got HE2.out, hbr.trans (hb5.mono hsz)⟩
              · have HE2 : Hid (firstG s = ⟨0, (n : Int), 4⟩) := by
                  unfold Hid
                  rw [HE.out, if_neg (fun h => h64 h.1)]
                clear HE HB HL HG2
                have h256 : ¬ (s[n].toNat : Int) / 64 % 256 = 2 := by have := UInt8.toNat_lt s[n]; omega
                go_wp2_with fail
                go_ret3
                exact ⟨ret_got HE2.out, hbr⟩
          · have HE : Hid (firstG s = ⟨rr, (size : Int), 0⟩) := by
              unfold Hid
              rw [HG2.out, HL.out, show size - n = 0 by omega]; rfl
            clear HB HL HG2
            go_wp2_with fail
            go_ret3
            exact ⟨ret_got HE.out, hbr⟩
end Go.Proofs.YteebbmmgbjpihaaDoor

namespace Go.Proofs.YteebbmmgbjpihaaDoor
open Go.RowKit

/-- How many bytes a letter has; the bytes themselves. -/
def sizeOf (r : Int) : Nat := if r < 128 then 1 else if r < 2048 then 2 else if r < 65536 then 3 else 4
def encB (r : Int) (i : Nat) : Int :=
  if r < 128 then r else if r < 2048 then [192 + r / 64, 128 + r % 64].getD i 0
  else if r < 65536 then [224 + r / 4096, 128 + r / 64 % 64, 128 + r % 64].getD i 0
  else [240 + r / 262144, 128 + r / 4096 % 64, 128 + r / 64 % 64, 128 + r % 64].getD i 0

theorem sizeOf_bd (r : Int) : 1 ≤ sizeOf r ∧ sizeOf r ≤ 4 := by unfold sizeOf; repeat (first | omega | split)

theorem letter_iff {r : Int} : letterB r = true ↔ (0 ≤ r ∧ r ≤ 55295) ∨ (57344 ≤ r ∧ r ≤ 1114111) := by unfold letterB; simp

theorem begins_iff1 {bits : Int} {left : Nat} : beginsB bits 1 left = true ↔ 0 ≤ bits ∧ bits ≤ 127 / 2 ^ (6 * left) := by
  simp [beginsB, begK, sz5, lo5, hi5]
theorem begins_iff2 {bits : Int} {left : Nat} : beginsB bits 2 left = true ↔ 128 / 2 ^ (6 * left) ≤ bits ∧ bits ≤ 2047 / 2 ^ (6 * left) := by
  simp [beginsB, begK, sz5, lo5, hi5]
theorem begins_iff3 {bits : Int} {left : Nat} : beginsB bits 3 left = true ↔ (2048 / 2 ^ (6 * left) ≤ bits ∧ bits ≤ 55295 / 2 ^ (6 * left)) ∨ (57344 / 2 ^ (6 * left) ≤ bits ∧ bits ≤ 65535 / 2 ^ (6 * left)) := by
  simp [beginsB, begK, sz5, lo5, hi5]
theorem begins_iff4 {bits : Int} {left : Nat} : beginsB bits 4 left = true ↔ 65536 / 2 ^ (6 * left) ≤ bits ∧ bits ≤ 1114111 / 2 ^ (6 * left) := by
  simp [beginsB, begK, sz5, lo5, hi5]

theorem leadN_1 {b : Int} (h : b < 128) : leadN b = 1 ∧ leadR b = b := by unfold leadN leadR; simp [h]
theorem leadN_0 {b : Int} (h : (128 ≤ b ∧ b < 192) ∨ 248 ≤ b) : leadN b = 0 := by unfold leadN; repeat (first | omega | split)
theorem leadN_2 {b : Int} (h : 192 ≤ b ∧ b < 224) : leadN b = 2 ∧ leadR b = b - 192 := by unfold leadN leadR; constructor <;> repeat (first | omega | split)
theorem leadN_3 {b : Int} (h : 224 ≤ b ∧ b < 240) : leadN b = 3 ∧ leadR b = b - 224 := by unfold leadN leadR; constructor <;> repeat (first | omega | split)
theorem leadN_4 {b : Int} (h : 240 ≤ b ∧ b < 248) : leadN b = 4 ∧ leadR b = b - 240 := by unfold leadN leadR; constructor <;> repeat (first | omega | split)

theorem firstG_one {s : ByteArray} (hs : s.size ≠ 0) (h : byteAt s 0 < 128) : firstG s = ⟨byteAt s 0, 1, 0⟩ := by
  have hb := byteAt_bd s 0
  obtain ⟨e1, e2⟩ := leadN_1 h
  unfold firstG
  rw [if_neg hs, e1, e2, if_neg]
  · rfl
  · have := (begins_iff1 (bits := byteAt s 0) (left := 0)).2 ⟨hb.1, by simp; omega⟩
    simp [this]
theorem firstG_bad {s : ByteArray} (hs : s.size ≠ 0) (h : (128 ≤ byteAt s 0 ∧ byteAt s 0 < 194) ∨ 245 ≤ byteAt s 0) : firstG s = ⟨0, 1, 4⟩ := by
  unfold firstG
  rw [if_neg hs, if_pos]
  by_cases h1 : byteAt s 0 < 192
  · exact Or.inl (leadN_0 (by omega))
  · by_cases h2 : 248 ≤ byteAt s 0
    · exact Or.inl (leadN_0 (by omega))
    · right
      by_cases h3 : byteAt s 0 < 224
      · obtain ⟨e1, e2⟩ := leadN_2 (b := byteAt s 0) (by omega)
        rw [e1, e2, Bool.eq_false_iff]
        intro hq
        have := begins_iff2.1 hq
        simp at this
        omega
      · obtain ⟨e1, e2⟩ := leadN_4 (b := byteAt s 0) (by omega)
        rw [e1, e2, Bool.eq_false_iff]
        intro hq
        have := begins_iff4.1 hq
        simp at this
        omega
theorem firstG_two {s : ByteArray} (hs : s.size ≠ 0) (h : 194 ≤ byteAt s 0 ∧ byteAt s 0 < 224) :
    firstG s = if 1 = s.size then ⟨0, 0, 2⟩ else if byteAt s 1 / 64 = 2 then ⟨(byteAt s 0 - 192) * 64 + byteAt s 1 % 64, 2, 0⟩ else ⟨0, 1, 4⟩ := by
  obtain ⟨e1, e2⟩ := leadN_2 (b := byteAt s 0) (by omega)
  have hb1 := byteAt_bd s 1
  unfold firstG
  rw [if_neg hs, e1, e2, if_neg]
  · show firstLoop s 2 (2 - 1) _ = _
    rw [firstLoop_step (by omega)]
    by_cases c : 1 = s.size
    · rw [if_pos c, if_pos c]
    · rw [if_neg c, if_neg c]
      refine if_iff ⟨fun h => h.1, fun h => ⟨h, begins_iff2.2 ?_⟩⟩
      simp; omega
  · have := (begins_iff2 (bits := byteAt s 0 - 192) (left := 1)).2 (by simp; omega)
    simp [this]
theorem firstG_three {s : ByteArray} (hs : s.size ≠ 0) (h : 224 ≤ byteAt s 0 ∧ byteAt s 0 < 240) :
    firstG s = if 1 = s.size then ⟨0, 0, 2⟩ else if byteAt s 1 / 64 = 2 ∧ ((32 ≤ (byteAt s 0 - 224) * 64 + byteAt s 1 % 64 ∧ (byteAt s 0 - 224) * 64 + byteAt s 1 % 64 ≤ 863) ∨ 896 ≤ (byteAt s 0 - 224) * 64 + byteAt s 1 % 64) then
      if 2 = s.size then ⟨0, 0, 2⟩ else if byteAt s 2 / 64 = 2 then ⟨((byteAt s 0 - 224) * 64 + byteAt s 1 % 64) * 64 + byteAt s 2 % 64, 3, 0⟩ else ⟨0, 2, 4⟩
      else ⟨0, 1, 4⟩ := by
  obtain ⟨e1, e2⟩ := leadN_3 (b := byteAt s 0) (by omega)
  have hb1 := byteAt_bd s 1
  have hb2 := byteAt_bd s 2
  unfold firstG
  rw [if_neg hs, e1, e2, if_neg]
  · show firstLoop s 3 (3 - 1) _ = _
    rw [firstLoop_step (by omega)]
    by_cases c : 1 = s.size
    · rw [if_pos c, if_pos c]
    · rw [if_neg c, if_neg c]
      by_cases d : byteAt s 1 / 64 = 2 ∧ ((32 ≤ (byteAt s 0 - 224) * 64 + byteAt s 1 % 64 ∧ (byteAt s 0 - 224) * 64 + byteAt s 1 % 64 ≤ 863) ∨ 896 ≤ (byteAt s 0 - 224) * 64 + byteAt s 1 % 64)
      · rw [if_pos d, if_pos ⟨d.1, begins_iff3.2 (by simp; omega)⟩]
        show firstLoop s 3 (3 - 2) _ = _
        rw [firstLoop_step (by omega)]
        by_cases c2 : 2 = s.size
        · rw [if_pos c2, if_pos c2]
        · rw [if_neg c2, if_neg c2]
          refine if_iff ⟨fun h => h.1, fun h => ⟨h, begins_iff3.2 ?_⟩⟩
          simp; omega
      · rw [if_neg d, if_neg (fun hq => d ⟨hq.1, by have := begins_iff3.1 hq.2; simp at this; omega⟩)]
        rfl
  · have := (begins_iff3 (bits := byteAt s 0 - 224) (left := 2)).2 (by simp; omega)
    simp [this]
theorem firstG_four {s : ByteArray} (hs : s.size ≠ 0) (h : 240 ≤ byteAt s 0 ∧ byteAt s 0 < 245) :
    firstG s = if 1 = s.size then ⟨0, 0, 2⟩ else if byteAt s 1 / 64 = 2 ∧ 16 ≤ (byteAt s 0 - 240) * 64 + byteAt s 1 % 64 ∧ (byteAt s 0 - 240) * 64 + byteAt s 1 % 64 ≤ 271 then
      if 2 = s.size then ⟨0, 0, 2⟩ else if byteAt s 2 / 64 = 2 then
        if 3 = s.size then ⟨0, 0, 2⟩ else if byteAt s 3 / 64 = 2 then ⟨(((byteAt s 0 - 240) * 64 + byteAt s 1 % 64) * 64 + byteAt s 2 % 64) * 64 + byteAt s 3 % 64, 4, 0⟩ else ⟨0, 3, 4⟩
        else ⟨0, 2, 4⟩
      else ⟨0, 1, 4⟩ := by
  obtain ⟨e1, e2⟩ := leadN_4 (b := byteAt s 0) (by omega)
  have hb1 := byteAt_bd s 1
  have hb2 := byteAt_bd s 2
  have hb3 := byteAt_bd s 3
  unfold firstG
  rw [if_neg hs, e1, e2, if_neg]
  · show firstLoop s 4 (4 - 1) _ = _
    rw [firstLoop_step (by omega)]
    by_cases c : 1 = s.size
    · rw [if_pos c, if_pos c]
    · rw [if_neg c, if_neg c]
      by_cases d : byteAt s 1 / 64 = 2 ∧ 16 ≤ (byteAt s 0 - 240) * 64 + byteAt s 1 % 64 ∧ (byteAt s 0 - 240) * 64 + byteAt s 1 % 64 ≤ 271
      · rw [if_pos d, if_pos ⟨d.1, begins_iff4.2 (by simp; omega)⟩]
        show firstLoop s 4 (4 - 2) _ = _
        rw [firstLoop_step (by omega)]
        by_cases c2 : 2 = s.size
        · rw [if_pos c2, if_pos c2]
        · rw [if_neg c2, if_neg c2]
          by_cases d2 : byteAt s 2 / 64 = 2
          · rw [if_pos d2, if_pos ⟨d2, begins_iff4.2 (by simp; omega)⟩]
            show firstLoop s 4 (4 - 3) _ = _
            rw [firstLoop_step (by omega)]
            by_cases c3 : 3 = s.size
            · rw [if_pos c3, if_pos c3]
            · rw [if_neg c3, if_neg c3]
              refine if_iff ⟨fun h => h.1, fun h => ⟨h, begins_iff4.2 ?_⟩⟩
              simp; omega
          · rw [if_neg d2, if_neg (fun hq => d2 hq.1)]
            rfl
      · rw [if_neg d, if_neg (fun hq => d ⟨hq.1, by have := begins_iff4.1 hq.2; simp at this; omega⟩)]
        rfl
  · have := (begins_iff4 (bits := byteAt s 0 - 240) (left := 3)).2 (by simp; omega)
    simp [this]
end Go.Proofs.YteebbmmgbjpihaaDoor

namespace Go.Proofs.YteebbmmgbjpihaaDoor
open Go.RowKit

theorem encB_1 {r : Int} (h : r < 128) : sizeOf r = 1 ∧ encB r 0 = r := by simp [sizeOf, encB, h]
theorem encB_2 {r : Int} (h : 128 ≤ r ∧ r < 2048) : sizeOf r = 2 ∧ encB r 0 = 192 + r / 64 ∧ encB r 1 = 128 + r % 64 := by
  have h1 : ¬ r < 128 := by omega
  simp [sizeOf, encB, h1, h.2]
theorem encB_3 {r : Int} (h : 2048 ≤ r ∧ r < 65536) : sizeOf r = 3 ∧ encB r 0 = 224 + r / 4096 ∧ encB r 1 = 128 + r / 64 % 64 ∧ encB r 2 = 128 + r % 64 := by
  have h1 : ¬ r < 128 := by omega
  have h2 : ¬ r < 2048 := by omega
  simp [sizeOf, encB, h1, h2, h.2]
theorem encB_4 {r : Int} (h : 65536 ≤ r) : sizeOf r = 4 ∧ encB r 0 = 240 + r / 262144 ∧ encB r 1 = 128 + r / 4096 % 64 ∧ encB r 2 = 128 + r / 64 % 64 ∧ encB r 3 = 128 + r % 64 := by
  have h1 : ¬ r < 128 := by omega
  have h2 : ¬ r < 2048 := by omega
  have h3 : ¬ r < 65536 := by omega
  simp [sizeOf, encB, h1, h2, h3]

theorem got_ext {a b c a' b' c' : Int} (h1 : a = a') (h2 : b = b') (h3 : c = c') : (⟨a, b, c⟩ : Got) = ⟨a', b', c'⟩ := by rw [h1, h2, h3]

/-- What begins with a letter's bytes reads as that letter. -/
theorem firstG_enc {r : Int} (hr : letterB r = true) {s : ByteArray} (hs : sizeOf r ≤ s.size) (hb : ∀ i, i < sizeOf r → byteAt s i = encB r i) : firstG s = ⟨r, sizeOf r, 0⟩ := by
  rw [letter_iff] at hr
  by_cases c1 : r < 128
  · obtain ⟨e, h0⟩ := encB_1 c1
    rw [e] at hs hb ⊢
    have b0 := hb 0 (by omega)
    rw [h0] at b0
    rw [firstG_one (by omega) (by omega)]
    exact got_ext b0 rfl rfl
  · by_cases c2 : r < 2048
    · obtain ⟨e, h0, h1⟩ := encB_2 (r := r) ⟨by omega, c2⟩
      rw [e] at hs hb ⊢
      have b0 := hb 0 (by omega)
      have b1 := hb 1 (by omega)
      rw [h0] at b0
      rw [h1] at b1
      rw [firstG_two (by omega) (by omega), if_neg (by omega), if_pos (by omega)]
      exact got_ext (by omega) rfl rfl
    · by_cases c3 : r < 65536
      · obtain ⟨e, h0, h1, h2⟩ := encB_3 (r := r) ⟨by omega, c3⟩
        rw [e] at hs hb ⊢
        have b0 := hb 0 (by omega)
        have b1 := hb 1 (by omega)
        have b2 := hb 2 (by omega)
        rw [h0] at b0
        rw [h1] at b1
        rw [h2] at b2
        rw [firstG_three (by omega) (by omega), if_neg (by omega), if_pos (by omega), if_neg (by omega), if_pos (by omega)]
        exact got_ext (by omega) rfl rfl
      · obtain ⟨e, h0, h1, h2, h3⟩ := encB_4 (r := r) (by omega)
        rw [e] at hs hb ⊢
        have b0 := hb 0 (by omega)
        have b1 := hb 1 (by omega)
        have b2 := hb 2 (by omega)
        have b3 := hb 3 (by omega)
        rw [h0] at b0
        rw [h1] at b1
        rw [h2] at b2
        rw [h3] at b3
        rw [firstG_four (by omega) (by omega), if_neg (by omega), if_pos (by omega), if_neg (by omega), if_pos (by omega), if_neg (by omega), if_pos (by omega)]
        exact got_ext (by omega) rfl rfl

/-- A letter's bytes, cut short, are not whole yet. -/
theorem firstG_cut {r : Int} (hr : letterB r = true) {s : ByteArray} (hs : s.size < sizeOf r) (hb : ∀ i, i < s.size → byteAt s i = encB r i) : firstG s = ⟨0, 0, 2⟩ := by
  rw [letter_iff] at hr
  by_cases h00 : s.size = 0
  · exact firstG_empty h00
  by_cases c1 : r < 128
  · obtain ⟨e, h0⟩ := encB_1 c1
    omega
  · by_cases c2 : r < 2048
    · obtain ⟨e, h0, h1⟩ := encB_2 (r := r) ⟨by omega, c2⟩
      rw [e] at hs
      have b0 := hb 0 (by omega)
      rw [h0] at b0
      rw [firstG_two (by omega) (by omega), if_pos (by omega)]
    · by_cases c3 : r < 65536
      · obtain ⟨e, h0, h1, h2⟩ := encB_3 (r := r) ⟨by omega, c3⟩
        rw [e] at hs
        have b0 := hb 0 (by omega)
        rw [h0] at b0
        rw [firstG_three (by omega) (by omega)]
        by_cases d1 : 1 = s.size
        · rw [if_pos d1]
        · have b1 := hb 1 (by omega)
          rw [h1] at b1
          rw [if_neg d1, if_pos (by omega), if_pos (by omega)]
      · obtain ⟨e, h0, h1, h2, h3⟩ := encB_4 (r := r) (by omega)
        rw [e] at hs
        have b0 := hb 0 (by omega)
        rw [h0] at b0
        rw [firstG_four (by omega) (by omega)]
        by_cases d1 : 1 = s.size
        · rw [if_pos d1]
        · have b1 := hb 1 (by omega)
          rw [h1] at b1
          rw [if_neg d1, if_pos (by omega)]
          by_cases d2 : 2 = s.size
          · rw [if_pos d2]
          · have b2 := hb 2 (by omega)
            rw [h2] at b2
            rw [if_neg d2, if_pos (by omega), if_pos (by omega)]

/-- What the first letter may be: a letter with just these bytes; a beginning; or one to three bytes spoilt. -/
theorem firstG_cases (s : ByteArray) : (∃ r, letterB r = true ∧ firstG s = ⟨r, sizeOf r, 0⟩ ∧ sizeOf r ≤ s.size ∧ ∀ i, i < sizeOf r → byteAt s i = encB r i) ∨
    (firstG s = ⟨0, 0, 2⟩ ∧ s.size ≤ 3) ∨ ∃ n : Nat, firstG s = ⟨0, (n : Int), 4⟩ ∧ 1 ≤ n ∧ n ≤ 3 ∧ n ≤ s.size := by
  by_cases h00 : s.size = 0
  · exact Or.inr (Or.inl ⟨firstG_empty h00, by omega⟩)
  have hb0 := byteAt_bd s 0
  have hb1 := byteAt_bd s 1
  have hb2 := byteAt_bd s 2
  have hb3 := byteAt_bd s 3
  by_cases c1 : byteAt s 0 < 128
  · obtain ⟨e, h0⟩ := encB_1 c1
    refine Or.inl ⟨byteAt s 0, letter_iff.2 (by omega), ?_, by rw [e]; omega, fun i hi => ?_⟩
    · rw [firstG_one h00 c1, e]; rfl
    · rw [e] at hi
      obtain rfl : i = 0 := by omega
      exact h0.symm
  · by_cases c2 : byteAt s 0 < 194 ∨ 245 ≤ byteAt s 0
    · exact Or.inr (Or.inr ⟨1, firstG_bad h00 (by omega), by omega, by omega, by omega⟩)
    · by_cases c3 : byteAt s 0 < 224
      · rw [firstG_two h00 (by omega)]
        by_cases d1 : 1 = s.size
        · rw [if_pos d1]; exact Or.inr (Or.inl ⟨rfl, by omega⟩)
        · rw [if_neg d1]
          by_cases d2 : byteAt s 1 / 64 = 2
          · rw [if_pos d2]
            obtain ⟨e, h0, h1⟩ := encB_2 (r := (byteAt s 0 - 192) * 64 + byteAt s 1 % 64) (by omega)
            refine Or.inl ⟨(byteAt s 0 - 192) * 64 + byteAt s 1 % 64, letter_iff.2 (by omega), by rw [e]; rfl, by rw [e]; omega, fun i hi => ?_⟩
            rw [e] at hi
            have hi2 : i = 0 ∨ i = 1 := by omega
            rcases hi2 with rfl | rfl
            · rw [h0]; omega
            · rw [h1]; omega
          · rw [if_neg d2]; exact Or.inr (Or.inr ⟨1, rfl, by omega, by omega, by omega⟩)
      · by_cases c4 : byteAt s 0 < 240
        · rw [firstG_three h00 (by omega)]
          by_cases d1 : 1 = s.size
          · rw [if_pos d1]; exact Or.inr (Or.inl ⟨rfl, by omega⟩)
          · rw [if_neg d1]
            by_cases d2 : byteAt s 1 / 64 = 2 ∧ ((32 ≤ (byteAt s 0 - 224) * 64 + byteAt s 1 % 64 ∧ (byteAt s 0 - 224) * 64 + byteAt s 1 % 64 ≤ 863) ∨ 896 ≤ (byteAt s 0 - 224) * 64 + byteAt s 1 % 64)
            · rw [if_pos d2]
              by_cases d3 : 2 = s.size
              · rw [if_pos d3]; exact Or.inr (Or.inl ⟨rfl, by omega⟩)
              · rw [if_neg d3]
                by_cases d4 : byteAt s 2 / 64 = 2
                · rw [if_pos d4]
                  obtain ⟨e, h0, h1, h2⟩ := encB_3 (r := ((byteAt s 0 - 224) * 64 + byteAt s 1 % 64) * 64 + byteAt s 2 % 64) (by omega)
                  refine Or.inl ⟨((byteAt s 0 - 224) * 64 + byteAt s 1 % 64) * 64 + byteAt s 2 % 64, letter_iff.2 (by omega), by rw [e]; rfl, by rw [e]; omega, fun i hi => ?_⟩
                  rw [e] at hi
                  have hi2 : i = 0 ∨ i = 1 ∨ i = 2 := by omega
                  rcases hi2 with rfl | rfl | rfl
                  · rw [h0]; omega
                  · rw [h1]; omega
                  · rw [h2]; omega
                · rw [if_neg d4]; exact Or.inr (Or.inr ⟨2, rfl, by omega, by omega, by omega⟩)
            · rw [if_neg d2]; exact Or.inr (Or.inr ⟨1, rfl, by omega, by omega, by omega⟩)
        · rw [firstG_four h00 (by omega)]
          by_cases d1 : 1 = s.size
          · rw [if_pos d1]; exact Or.inr (Or.inl ⟨rfl, by omega⟩)
          · rw [if_neg d1]
            by_cases d2 : byteAt s 1 / 64 = 2 ∧ 16 ≤ (byteAt s 0 - 240) * 64 + byteAt s 1 % 64 ∧ (byteAt s 0 - 240) * 64 + byteAt s 1 % 64 ≤ 271
            · rw [if_pos d2]
              by_cases d3 : 2 = s.size
              · rw [if_pos d3]; exact Or.inr (Or.inl ⟨rfl, by omega⟩)
              · rw [if_neg d3]
                by_cases d4 : byteAt s 2 / 64 = 2
                · rw [if_pos d4]
                  by_cases d5 : 3 = s.size
                  · rw [if_pos d5]; exact Or.inr (Or.inl ⟨rfl, by omega⟩)
                  · rw [if_neg d5]
                    by_cases d6 : byteAt s 3 / 64 = 2
                    · rw [if_pos d6]
                      obtain ⟨e, h0, h1, h2, h3⟩ := encB_4 (r := (((byteAt s 0 - 240) * 64 + byteAt s 1 % 64) * 64 + byteAt s 2 % 64) * 64 + byteAt s 3 % 64) (by omega)
                      refine Or.inl ⟨(((byteAt s 0 - 240) * 64 + byteAt s 1 % 64) * 64 + byteAt s 2 % 64) * 64 + byteAt s 3 % 64, letter_iff.2 (by omega), by rw [e]; rfl, by rw [e]; omega, fun i hi => ?_⟩
                      rw [e] at hi
                      have hi2 : i = 0 ∨ i = 1 ∨ i = 2 ∨ i = 3 := by omega
                      rcases hi2 with rfl | rfl | rfl | rfl
                      · rw [h0]; omega
                      · rw [h1]; omega
                      · rw [h2]; omega
                      · rw [h3]; omega
                    · rw [if_neg d6]; exact Or.inr (Or.inr ⟨3, rfl, by omega, by omega, by omega⟩)
                · rw [if_neg d4]; exact Or.inr (Or.inr ⟨2, rfl, by omega, by omega, by omega⟩)
            · rw [if_neg d2]; exact Or.inr (Or.inr ⟨1, rfl, by omega, by omega, by omega⟩)

/-- The model's own bytes of a letter are these. -/
theorem enc_bytes {r : Int} (hr : letterB r = true) : (Utf8.encode r).size = sizeOf r ∧ ∀ i, i < sizeOf r → byteAt (Utf8.encode r) i = encB r i := by
  rw [letter_iff] at hr
  obtain ⟨n, rfl⟩ : ∃ n : Nat, r = n := ⟨r.toNat, by omega⟩
  have hv : Utf8.valid (n : Int) = true := by
    unfold Utf8.valid
    simp only [Bool.or_eq_true, Bool.and_eq_true, decide_eq_true_eq]
    omega
  unfold Utf8.encode
  simp only [hv, if_true, Int.toNat_natCast]
  by_cases c1 : (n : Int) < 128
  · obtain ⟨e, h0⟩ := encB_1 c1
    rw [e, if_pos (by omega)]
    refine ⟨rfl, fun i hi => ?_⟩
    obtain rfl : i = 0 := by omega
    rw [h0]
    show ((UInt8.ofNat n).toNat : Int) = _
    simp; omega
  · by_cases c2 : (n : Int) < 2048
    · obtain ⟨e, h0, h1⟩ := encB_2 (r := (n : Int)) (by omega)
      rw [e, if_neg (by omega), if_pos (by omega)]
      refine ⟨rfl, fun i hi => ?_⟩
      have hi2 : i = 0 ∨ i = 1 := by omega
      rcases hi2 with rfl | rfl
      · rw [h0]
        show ((UInt8.ofNat _).toNat : Int) = _
        simp; omega
      · rw [h1]
        show ((UInt8.ofNat _).toNat : Int) = _
        simp; omega
    · by_cases c3 : (n : Int) < 65536
      · obtain ⟨e, h0, h1, h2⟩ := encB_3 (r := (n : Int)) (by omega)
        rw [e, if_neg (by omega), if_neg (by omega), if_pos (by omega)]
        refine ⟨rfl, fun i hi => ?_⟩
        have hi2 : i = 0 ∨ i = 1 ∨ i = 2 := by omega
        rcases hi2 with rfl | rfl | rfl
        · rw [h0]
          show ((UInt8.ofNat _).toNat : Int) = _
          simp; omega
        · rw [h1]
          show ((UInt8.ofNat _).toNat : Int) = _
          simp; omega
        · rw [h2]
          show ((UInt8.ofNat _).toNat : Int) = _
          simp; omega
      · obtain ⟨e, h0, h1, h2, h3⟩ := encB_4 (r := (n : Int)) (by omega)
        rw [e, if_neg (by omega), if_neg (by omega), if_neg (by omega)]
        refine ⟨rfl, fun i hi => ?_⟩
        have hi2 : i = 0 ∨ i = 1 ∨ i = 2 ∨ i = 3 := by omega
        rcases hi2 with rfl | rfl | rfl | rfl
        · rw [h0]
          show ((UInt8.ofNat _).toNat : Int) = _
          simp; omega
        · rw [h1]
          show ((UInt8.ofNat _).toNat : Int) = _
          simp; omega
        · rw [h2]
          show ((UInt8.ofNat _).toNat : Int) = _
          simp; omega
        · rw [h3]
          show ((UInt8.ofNat _).toNat : Int) = _
          simp; omega

/-- Letters alone, one behind the other. -/
def validF : Nat → ByteArray → Bool
  | 0, _ => true
  | f + 1, s => if s.size = 0 then true else if (firstG s).e = 0 then validF f (s.extract (firstG s).n.toNat s.size) else false
def validG (s : ByteArray) : Bool := validF s.size s

theorem validF_more : ∀ (f g : Nat) (s : ByteArray), s.size ≤ f → s.size ≤ g → validF f s = validF g s
  | 0, g, s, hf, _ => by
    cases g with
    | zero => rfl
    | succ g => rw [validF, validF, if_pos (by omega)]
  | f + 1, 0, s, _, hg => by rw [validF, validF, if_pos (by omega)]
  | f + 1, g + 1, s, hf, hg => by
    rw [validF, validF]
    by_cases h : s.size = 0
    · rw [if_pos h, if_pos h]
    · rw [if_neg h, if_neg h]
      rcases firstG_cases s with ⟨r, _, e, hl, _⟩ | ⟨e, _⟩ | ⟨n, e, _⟩
      · rw [e]
        have := sizeOf_bd r
        simp only [if_true, Int.toNat_natCast]
        exact validF_more f g _ (by rw [size_extract']; omega) (by rw [size_extract']; omega)
      · rw [e]; rfl
      · rw [e]; rfl

theorem validG_empty {s : ByteArray} (h : s.size = 0) : validG s = true := by unfold validG; rw [h]; rfl
theorem validG_step {s : ByteArray} (h : s.size ≠ 0) : validG s = if (firstG s).e = 0 then validG (s.extract (firstG s).n.toNat s.size) else false := by
  unfold validG
  obtain ⟨f, hf⟩ : ∃ f, s.size = f + 1 := ⟨s.size - 1, by omega⟩
  rw [hf, validF, if_neg h]
  rcases firstG_cases s with ⟨r, _, e, hl, _⟩ | ⟨e, _⟩ | ⟨n, e, _⟩
  · have := sizeOf_bd r
    rw [e]
    simp only [if_true, Int.toNat_natCast]
    rw [← hf]
    exact validF_more _ _ _ (by rw [size_extract']; omega) (Nat.le_refl _)
  · rw [e]; rfl
  · rw [e]; rfl
end Go.Proofs.YteebbmmgbjpihaaDoor

namespace Go.Proofs.YteebbmmgbjpihaaDoor
open Go.RowKit

theorem firstG_in (s : ByteArray) : 0 ≤ (firstG s).n ∧ (firstG s).n.toNat ≤ s.size ∧ ((firstG s).e = 0 → 1 ≤ (firstG s).n.toNat) := by
  rcases firstG_cases s with ⟨r, _, h, hs, _⟩ | ⟨h, _⟩ | ⟨n, h, h1, h2, h3⟩
  · have := sizeOf_bd r
    rw [h]
    simp only [Int.toNat_natCast]
    omega
  · rw [h]
    simp
  · rw [h]
    simp only [Int.toNat_natCast]
    omega
theorem first_front {r : Int} (hr : letterB r = true) (s : ByteArray) : firstG (Utf8.encode r ++ s) = ⟨r, sizeOf r, 0⟩ := by
  obtain ⟨hz, hb⟩ := enc_bytes hr
  exact firstG_enc hr (by rw [size_append', hz]; omega) (fun i hi => by rw [byteAt_left _ _ _ (by omega)]; exact hb i hi)
theorem rest_front {r : Int} (hr : letterB r = true) (s : ByteArray) : (Utf8.encode r ++ s).extract (sizeOf r) (Utf8.encode r ++ s).size = s := by
  obtain ⟨hz, _⟩ := enc_bytes hr
  apply bytes_ext
  · rw [size_extract', size_append', hz]; omega
  · intro i hi
    rw [size_extract', size_append', hz] at hi
    rw [byteAt_extract _ _ _ _ (by rw [size_append', hz]; omega), ← hz, byteAt_right _ _ _ (by omega)]
theorem enc_pos {r : Int} (hr : letterB r = true) : (Utf8.encode r).size ≠ 0 := by
  have := (enc_bytes hr).1
  have := sizeOf_bd r
  omega
end Go.Proofs.YteebbmmgbjpihaaDoor
