/- Layer 5, plain: bounds; what is in the midst is left out; letters are printed, letter by letter. -/
import Derived.Test.YtpcpdbofbbpglaaDoorParseM
import Derived.Test.YtpcpdbofbbpglaaDoorUtfF
namespace Go.Proofs.YtpcpdbofbbpglaaDoor
open Go.RowKit

theorem short_small {s : ByteArray} (h : (firstG s).e = 2) : s.size ≤ 3 := by
  rcases firstG_cases s with ⟨r, _, h1, hs, _⟩ | ⟨_, h1⟩ | ⟨n, h1, _, _, _⟩
  · rw [h1] at h; exact absurd h (by show ¬ (0 : Int) = 2; decide)
  · exact h1
  · rw [h1] at h; exact absurd h (by show ¬ (4 : Int) = 2; decide)
/-- Nothing is kept beyond its bound. -/
theorem right_bounds {p : Pa} (h : rightP p) : p.params.length ≤ 16 ∧ p.osc.size ≤ 64 ∧ p.pend.size ≤ 3 := by
  have hz : nilB.size = 0 := rfl
  rcases h with h | h | h | h | h | h
  · obtain ⟨_, _, h3, _, h5, h6⟩ := h
    rw [h3, h5, hz]
    exact ⟨Nat.zero_le _, by omega, short_small h6⟩
  · obtain ⟨_, _, h3, _, h5, h6⟩ := h
    rw [h3, h5, h6, hz]
    exact ⟨Nat.zero_le _, by omega, by omega⟩
  · obtain ⟨_, _, h3, _, h5, h6⟩ := h
    rw [h3, h5, h6, hz]
    exact ⟨Nat.zero_le _, by omega, by omega⟩
  · obtain ⟨_, ⟨_, h3, _, h5, h6⟩, _⟩ := h
    rw [h5, h6, hz]
    exact ⟨h3, by omega, by omega⟩
  · obtain ⟨_, ⟨_, h3, _, h5, h6⟩, _⟩ := h
    rw [h5, h6, hz]
    exact ⟨h3, by omega, by omega⟩
  · obtain ⟨_, _, h3, _, h5, h6⟩ := h
    rw [h3, h6, hz]
    exact ⟨Nat.zero_le _, h5, by omega⟩

theorem byteB_at {c : Int} (h : 0 ≤ c ∧ c ≤ 255) : byteAt (byteB c) 0 = c := by
  rw [← byteAt_eq (s := byteB c) (n := 0) (by show 0 < 1; omega)]
  show ((UInt8.ofNat c.toNat).toNat : Int) = c
  rw [UInt8.toNat_ofNat']
  omega
/-- A byte below 128 behind a beginning: what is before it is spoilt. -/
theorem short_break {p : ByteArray} {c : Int} (hp : p.size ≠ 0) (h : (firstG p).e = 2) (hc : 0 ≤ c ∧ c < 128) : firstG (p ++ byteB c) = ⟨0, (p.size : Int), 4⟩ := by
  have hz := size_append' p (byteB c)
  rw [byteB_size] at hz
  have hs : (p ++ byteB c).size ≠ 0 := by omega
  have e0 := byteAt_left p (byteB c) 0 (by omega)
  have el := byteAt_right p (byteB c) 0 (by show 0 < 1; omega)
  rw [byteB_at ⟨hc.1, by omega⟩, Nat.add_zero] at el
  have b0 := byteAt_bd p 0
  by_cases c1 : byteAt p 0 < 128
  · rw [firstG_one hp c1] at h; exact absurd h (by show ¬ (0 : Int) = 2; decide)
  by_cases c2 : byteAt p 0 < 194 ∨ 245 ≤ byteAt p 0
  · rw [firstG_bad hp (by omega)] at h; exact absurd h (by show ¬ (4 : Int) = 2; decide)
  by_cases c3 : byteAt p 0 < 224
  · rw [firstG_two hp (by omega)] at h
    rw [firstG_two hs (by omega)]
    by_cases d1 : 1 = p.size
    · rw [← d1] at el
      rw [if_neg (by omega), if_neg (by rw [el]; omega), ← d1]
      rfl
    · rw [if_neg d1] at h
      split at h
      · exact absurd h (by show ¬ (0 : Int) = 2; decide)
      · exact absurd h (by show ¬ (4 : Int) = 2; decide)
  by_cases c4 : byteAt p 0 < 240
  · rw [firstG_three hp (by omega)] at h
    rw [firstG_three hs (by omega)]
    by_cases d1 : 1 = p.size
    · rw [← d1] at el
      rw [if_neg (by omega), if_neg (fun hh => by rw [el] at hh; omega), ← d1]
      rfl
    · rw [if_neg d1] at h
      by_cases g1 : byteAt p 1 / 64 = 2 ∧ ((32 ≤ (byteAt p 0 - 224) * 64 + byteAt p 1 % 64 ∧ (byteAt p 0 - 224) * 64 + byteAt p 1 % 64 ≤ 863) ∨ 896 ≤ (byteAt p 0 - 224) * 64 + byteAt p 1 % 64)
      · rw [if_pos g1] at h
        by_cases d2 : 2 = p.size
        · rw [← d2] at el
          rw [if_neg (by omega), e0, byteAt_left p (byteB c) 1 (by omega), if_pos g1, if_neg (by omega), if_neg (by rw [el]; omega), ← d2]
          rfl
        · rw [if_neg d2] at h
          split at h
          · exact absurd h (by show ¬ (0 : Int) = 2; decide)
          · exact absurd h (by show ¬ (4 : Int) = 2; decide)
      · rw [if_neg g1] at h
        exact absurd h (by show ¬ (4 : Int) = 2; decide)
  · rw [firstG_four hp (by omega)] at h
    rw [firstG_four hs (by omega)]
    by_cases d1 : 1 = p.size
    · rw [← d1] at el
      rw [if_neg (by omega), if_neg (fun hh => by rw [el] at hh; omega), ← d1]
      rfl
    · rw [if_neg d1] at h
      by_cases g1 : byteAt p 1 / 64 = 2 ∧ 16 ≤ (byteAt p 0 - 240) * 64 + byteAt p 1 % 64 ∧ (byteAt p 0 - 240) * 64 + byteAt p 1 % 64 ≤ 271
      · rw [if_pos g1] at h
        by_cases d2 : 2 = p.size
        · rw [← d2] at el
          rw [if_neg (by omega), e0, byteAt_left p (byteB c) 1 (by omega), if_pos g1, if_neg (by omega), if_neg (by rw [el]; omega), ← d2]
          rfl
        · rw [if_neg d2] at h
          by_cases g2 : byteAt p 2 / 64 = 2
          · rw [if_pos g2] at h
            by_cases d3 : 3 = p.size
            · rw [← d3] at el
              rw [if_neg (by omega), e0, byteAt_left p (byteB c) 1 (by omega), if_pos g1, if_neg (by omega), byteAt_left p (byteB c) 2 (by omega), if_pos g2, if_neg (by omega), if_neg (by rw [el]; omega), ← d3]
              rfl
            · rw [if_neg d3] at h
              split at h
              · exact absurd h (by show ¬ (0 : Int) = 2; decide)
              · exact absurd h (by show ¬ (4 : Int) = 2; decide)
          · rw [if_neg g2] at h
            exact absurd h (by show ¬ (4 : Int) = 2; decide)
      · rw [if_neg g1] at h
        exact absurd h (by show ¬ (4 : Int) = 2; decide)

theorem one_cancel (p : Pa) : oneP p 24 = (.to 0, if p.st = 6 ∨ p.st = 7 then [] else [dExec 24]) := by
  unfold oneP
  rw [if_pos (.inl rfl)]
theorem take_empty {p : Pa} (h : p.pend.size = 0) (c : Int) : takeP p c = oneP p c := by
  unfold takeP
  rw [if_pos h]
theorem cancel_0 : takeP (.to 0) 24 = (.to 0, [dExec 24]) := by
  rw [take_empty rfl, one_cancel]
  rfl
theorem letter_0 : takeP (.to 0) 65 = (.to 0, [dPrint 65]) := by
  rw [take_empty rfl]
  rfl
/-- Two cancels and an A behind whatever was taken. -/
theorem feed_ends {p : Pa} (h : rightP p) : (feedP p [24, 24, 65]).1 = .to 0 ∧ ((feedP p [24, 24, 65]).2 = [dExec 24, dPrint 65] ∨ (feedP p [24, 24, 65]).2 = [dExec 24, dExec 24, dPrint 65] ∨ (feedP p [24, 24, 65]).2 = [dPrint 65533, dExec 24, dExec 24, dPrint 65]) := by
  have ht : takeP p 24 = (.to 0, []) ∨ takeP p 24 = (.to 0, [dExec 24]) ∨ takeP p 24 = (.to 0, [dPrint 65533, dExec 24]) := by
    unfold takeP
    by_cases hp : p.pend.size = 0
    · rw [if_pos hp, one_cancel]
      by_cases h6 : p.st = 6 ∨ p.st = 7
      · rw [if_pos h6]; exact .inl rfl
      · rw [if_neg h6]; exact .inr (.inl rfl)
    · obtain ⟨g1, g2, g3, g4, g5, g6⟩ := pend_ground h hp
      have hb := short_break (c := 24) hp g6 (by omega)
      have hz := size_append' p.pend (byteB 24)
      rw [byteB_size] at hz
      rw [if_neg hp, hb]
      rw [if_neg (by show ¬ (4 : Int) = 2; decide), if_neg (by show ¬ (4 : Int) = 0; decide), if_pos (by show (p.pend.size : Int).toNat < _; omega), one_cancel]
      rw [if_neg (by show ¬ (p.st = 6 ∨ p.st = 7); omega)]
      exact .inr (.inr rfl)
  have hf : ∀ l, takeP p 24 = (.to 0, l) → feedP p [24, 24, 65] = (.to 0, l ++ [dExec 24, dPrint 65]) := by
    intro l hl
    rw [feedP, hl]
    simp only
    rw [feedP, cancel_0]
    simp only
    rw [feedP, letter_0]
    simp only
    rw [feedP]
    rfl
  rcases ht with ht | ht | ht
  · rw [hf _ ht]; exact ⟨rfl, .inl rfl⟩
  · rw [hf _ ht]; exact ⟨rfl, .inr (.inl rfl)⟩
  · rw [hf _ ht]; exact ⟨rfl, .inr (.inr rfl)⟩

theorem extract_succ {s : ByteArray} {j : Nat} (h : j < s.size) : s.extract 0 (j + 1) = s.extract 0 j ++ byteB (byteAt s j) := by
  have hz := size_append' (s.extract 0 j) (byteB (byteAt s j))
  rw [byteB_size, size_extract'] at hz
  apply bytes_ext
  · rw [size_extract', hz]; omega
  · intro i hi
    rw [size_extract'] at hi
    rw [byteAt_extract _ _ _ _ (by omega), Nat.zero_add]
    by_cases hj : i < j
    · rw [byteAt_left _ _ _ (by rw [size_extract']; omega), byteAt_extract _ _ _ _ (by omega), Nat.zero_add]
    · have hs : (s.extract 0 j).size = j := by rw [size_extract']; omega
      have e := byteAt_right (s.extract 0 j) (byteB (byteAt s j)) 0 (by show 0 < 1; omega)
      rw [hs, Nat.add_zero, byteB_at (byteAt_bd s j)] at e
      obtain rfl : i = j := by omega
      rw [e]
theorem bytesP_length (s : ByteArray) : (bytesP s).length = s.size := by unfold bytesP; simp
theorem bytesP_at {s : ByteArray} {j : Nat} (h : j < s.size) : (bytesP s)[j]? = some (byteAt s j) := by
  unfold bytesP
  rw [List.getElem?_map, ← byteAt_eq h]
  have : s.data.toList[j]? = some s[j] := by
    rw [Array.getElem?_toList]
    exact Array.getElem?_eq_getElem h
  rw [this]
  rfl
theorem bytesP_take {s : ByteArray} {j : Nat} (h : j < s.size) : (bytesP s).take (j + 1) = (bytesP s).take j ++ [byteAt s j] := by
  rw [List.take_add_one, bytesP_at h]
  rfl
theorem feed_one (p : Pa) (l : List Int) (c : Int) : feedP p (l ++ [c]) = ((takeP (feedP p l).1 c).1, (feedP p l).2 ++ (takeP (feedP p l).1 c).2) := by
  rw [feed_append, feedP, feedP]
  simp
/-- A letter's bytes, but the last one: they are pending. -/
theorem feed_part {r : Int} (hr : letterB r = true) (_ : 128 ≤ r) : ∀ j, j + 1 < sizeOf r → feedP (.to 0) ((bytesP (Utf8.encode r)).take (j + 1)) = ({ Pa.to 0 with pend := (Utf8.encode r).extract 0 (j + 1) }, []) := by
  obtain ⟨hz, hb⟩ := enc_bytes hr
  have hcut : ∀ j, j < sizeOf r → firstG ((Utf8.encode r).extract 0 j) = ⟨0, 0, 2⟩ := by
    intro j hj
    refine firstG_cut hr (by rw [size_extract', hz]; omega) (fun i hi => ?_)
    rw [size_extract', hz] at hi
    rw [byteAt_extract _ _ _ _ (by rw [hz]; omega), Nat.zero_add]
    exact hb i (by omega)
  intro j
  induction j with
  | zero =>
    intro hj
    have e := extract_succ (s := Utf8.encode r) (j := 0) (by omega)
    have e0 : (Utf8.encode r).extract 0 0 = nilB := by
      apply bytes_ext
      · rw [size_extract']; show min 0 _ - 0 = 0; omega
      · intro i hi; rw [size_extract'] at hi; omega
    rw [e0] at e
    have e1 : nilB ++ byteB (byteAt (Utf8.encode r) 0) = byteB (byteAt (Utf8.encode r) 0) := nil_app _
    rw [e1] at e
    have hc := hcut 1 hj
    rw [e] at hc
    have hhi : 127 < byteAt (Utf8.encode r) 0 := by
      rcases Int.lt_or_le 127 (byteAt (Utf8.encode r) 0) with h | h
      · exact h
      · have hf := firstG_one (s := byteB (byteAt (Utf8.encode r) 0)) (by show (1 : Nat) ≠ 0; omega) (by rw [byteB_at (byteAt_bd _ _)]; omega)
        rw [hc] at hf
        have := congrArg Got.e hf
        exact absurd this (by show ¬ (2 : Int) = 0; decide)
    rw [bytesP_take (by omega), List.take_zero, List.nil_append, e]
    show ((takeP (.to 0) (byteAt (Utf8.encode r) 0)).1, (takeP (.to 0) (byteAt (Utf8.encode r) 0)).2 ++ []) = _
    have hb2 := byteAt_bd (Utf8.encode r) 0
    rw [take_empty rfl]
    unfold oneP
    rw [if_neg (by omega), if_neg (by omega), if_neg (by show ¬ (0 : Int) = 6; decide), if_neg (by show ¬ (0 : Int) = 7; decide), if_neg (by omega), if_pos (show (Pa.to 0).st = 0 from rfl), if_pos hhi]
    unfold highP
    rw [hc, if_pos rfl]
    rfl
  | succ j ih =>
    intro hj
    have e := extract_succ (s := Utf8.encode r) (j := j + 1) (by omega)
    have hc := hcut (j + 1 + 1) hj
    rw [e] at hc
    rw [bytesP_take (by omega), feed_one, ih (by omega), e]
    simp only
    unfold takeP
    rw [if_neg (by show ((Utf8.encode r).extract 0 (j + 1)).size ≠ 0; rw [size_extract', hz]; omega)]
    simp only
    rw [hc, if_pos rfl]
    rfl
/-- A letter that is no control is printed. -/
theorem feed_letter {r : Int} (hr : letterB r = true) (h : 160 ≤ r ∨ (32 ≤ r ∧ r < 127)) : feedP (.to 0) (bytesP (Utf8.encode r)) = (.to 0, [dPrint r]) := by
  obtain ⟨hz, hb⟩ := enc_bytes hr
  have hall : (bytesP (Utf8.encode r)).take (Utf8.encode r).size = bytesP (Utf8.encode r) := List.take_of_length_le (by rw [bytesP_length]; omega)
  have hex : (Utf8.encode r).extract 0 (Utf8.encode r).size = Utf8.encode r := ByteArray.extract_zero_size
  have hbd := sizeOf_bd r
  obtain ⟨k, hk⟩ : ∃ k, (Utf8.encode r).size = k + 1 := ⟨(Utf8.encode r).size - 1, by omega⟩
  rw [← hall, hk, bytesP_take (by omega), feed_one]
  by_cases h128 : r < 128
  · have h1 : sizeOf r = 1 := by unfold sizeOf; rw [if_pos h128]
    have hk0 : k = 0 := by omega
    subst hk0
    have h0 : byteAt (Utf8.encode r) 0 = r := by rw [hb 0 (by omega)]; unfold encB; rw [if_pos h128]
    rw [h0, List.take_zero, feedP]
    simp only
    rw [take_empty rfl]
    unfold oneP
    rw [if_neg (by omega), if_neg (by omega), if_neg (by show ¬ (0 : Int) = 6; decide), if_neg (by show ¬ (0 : Int) = 7; decide), if_neg (by omega), if_pos (show (Pa.to 0).st = 0 from rfl), if_neg (by omega), if_pos (by omega)]
    rfl
  · have h2 : 2 ≤ sizeOf r := by unfold sizeOf; rw [if_neg h128]; split <;> (try split) <;> omega
    obtain ⟨j, hj⟩ : ∃ j, k = j + 1 := ⟨k - 1, by omega⟩
    subst hj
    rw [feed_part hr (by omega) j (by omega)]
    simp only
    unfold takeP
    rw [if_neg (by show ((Utf8.encode r).extract 0 (j + 1)).size ≠ 0; rw [size_extract']; omega)]
    simp only
    have e := extract_succ (s := Utf8.encode r) (j := j + 1) (by omega)
    rw [← hk, hex] at e
    have hf := first_front hr ⟨#[]⟩
    rw [app_nil] at hf
    rw [← e, hf]
    rw [if_neg (by show ¬ (0 : Int) = 2; decide), if_pos rfl, if_pos (by show r < 128 ∨ 159 < r; omega)]
    rfl
/-- A text of such letters. -/
theorem feed_letters : ∀ l : List Int, (∀ r ∈ l, letterB r = true ∧ (160 ≤ r ∨ (32 ≤ r ∧ r < 127))) → feedP (.to 0) (l.flatMap fun r => bytesP (Utf8.encode r)) = (.to 0, l.map dPrint)
  | [], _ => rfl
  | r :: l, h => by
    have h1 := h r (List.Mem.head _)
    rw [List.flatMap_cons, feed_append, feed_letter h1.1 h1.2]
    simp only
    rw [feed_letters l (fun x hx => h x (List.Mem.tail _ hx))]
    rfl
end Go.Proofs.YtpcpdbofbbpglaaDoor
