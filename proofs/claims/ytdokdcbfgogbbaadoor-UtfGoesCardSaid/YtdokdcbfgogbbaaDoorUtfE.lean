/- The law UtfGoes, walked. -/
import Derived.Test.YtdokdcbfgogbbaaDoorUtfD
import Derived.Deep.CutBlock
namespace Go.Proofs.YtdokdcbfgogbbaaDoor
open Go.RowKit

theorem cutS_size (s : ByteArray) : (s.extract 0 100).size ≤ 100 := by rw [size_extract']; omega

theorem cutS_if (s : ByteArray) : s.extract 0 (if (100 : Int) < s.size then (100 : Int) else s.size).toNat = s.extract 0 100 := by
  by_cases h : (100 : Int) < s.size
  · rw [if_pos h]; rfl
  · rw [if_neg h, Int.toNat_natCast, ← cut_short (by omega)]
    exact (bytes_ext (by rw [size_extract']; omega) (fun i hi => by rw [size_extract'] at hi; rw [byteAt_extract _ _ _ _ (by omega), Nat.zero_add]))

theorem app_nil {a b : ByteArray} (h : b.size = 0) : a ++ b = a := by
  obtain rfl := empty_yes h
  exact ByteArray.append_empty

/-- What holds at each round's head: what was read, and what is left. -/
def GoesRel (p o r : ByteArray) : Prop := o.size + r.size ≤ 100 ∧ validG o = true ∧ (validG p = true → o ++ r = p ∧ validG r = true)
def GoesEnd (p o r : ByteArray) : Prop := o.size + r.size ≤ 100 ∧ r.size ≤ 3 ∧ validG o = true ∧ (validG p = true → o = p)

theorem goes_start {p : ByteArray} (h : p.size ≤ 100) : GoesRel p ⟨#[]⟩ p := ⟨by show 0 + _ ≤ _; omega, validG_empty rfl, fun hv => ⟨nil_app p, hv⟩⟩
theorem goes_stop {p o r : ByteArray} (h : GoesRel p o r) (hr : r.size = 0) : GoesEnd p o r :=
  ⟨h.1, by omega, h.2.1, fun hv => by have := (h.2.2 hv).1; rwa [app_nil hr] at this⟩
theorem goes_short {p o r : ByteArray} (h : GoesRel p o r) (h0 : r.size ≠ 0) (e : firstG r = ⟨0, 0, 2⟩) (hr : r.size ≤ 3) : GoesEnd p o r :=
  ⟨h.1, hr, h.2.1, fun hv => by
    have := (h.2.2 hv).2
    rw [validG_step h0, e] at this
    simp at this⟩
theorem goes_bad {p o r : ByteArray} {n : Nat} (h : GoesRel p o r) (h0 : r.size ≠ 0) (e : firstG r = ⟨0, (n : Int), 4⟩) : GoesRel p o (r.extract n r.size) :=
  ⟨by have := h.1; rw [size_extract']; omega, h.2.1, fun hv => by
    have := (h.2.2 hv).2
    rw [validG_step h0, e] at this
    simp at this⟩
theorem extract_split (r : ByteArray) {n : Nat} (hn : n ≤ r.size) : r.extract 0 n ++ r.extract n r.size = r := by
  apply bytes_ext
  · rw [ByteArray.size_append, size_extract', size_extract']; omega
  · intro i hi
    rw [ByteArray.size_append, size_extract', size_extract'] at hi
    by_cases h : i < n
    · rw [byteAt_left _ _ _ (by rw [size_extract']; omega), byteAt_extract _ _ _ _ (by omega), Nat.zero_add]
    · have e : i = (r.extract 0 n).size + (i - n) := by rw [size_extract']; omega
      conv => lhs; rw [e]
      rw [byteAt_right _ _ _ (by rw [size_extract']; omega), byteAt_extract _ _ _ _ (by omega)]
      congr 1; omega
theorem enc_is {x : Int} {q : ByteArray} (hx : letterB x = true) (hl : sizeOf x ≤ q.size) (hb : ∀ i, i < sizeOf x → byteAt q i = encB x i) : Utf8.encode x = q.extract 0 (sizeOf x) := by
  obtain ⟨h1, h2⟩ := enc_bytes hx
  apply bytes_ext
  · rw [size_extract']; omega
  · intro i hi
    rw [byteAt_extract _ _ _ _ (by omega), Nat.zero_add, h2 i (by omega), hb i (by omega)]
theorem app_assoc (a b c : ByteArray) : a ++ b ++ c = a ++ (b ++ c) := ByteArray.append_assoc
theorem goes_letter {p o r : ByteArray} {x : Int} (h : GoesRel p o r) (h0 : r.size ≠ 0) (hx : letterB x = true) (e : firstG r = ⟨x, sizeOf x, 0⟩) (hl : sizeOf x ≤ r.size) (hb : ∀ i, i < sizeOf x → byteAt r i = encB x i) :
    GoesRel p (o ++ Utf8.encode x) (r.extract (sizeOf x) r.size) := by
  obtain ⟨h1, h2⟩ := enc_bytes hx
  refine ⟨?_, ?_, fun hv => ?_⟩
  · have := h.1
    rw [ByteArray.size_append, size_extract']; omega
  · rw [validG_append _ o _ (Nat.le_refl _) h.2.1]
    exact validG_enc hx h1 h2
  · obtain ⟨h3, h4⟩ := h.2.2 hv
    rw [validG_step h0, e] at h4
    simp only [if_true, Int.toNat_natCast] at h4
    exact ⟨by rw [app_assoc, enc_is hx hl hb, extract_split r hl, h3], h4⟩

set_option maxRecDepth 100000 in
set_option maxHeartbeats 1600000 in
theorem goes_any (s t : ByteArray) (w : World) (hs : s.size ≤ maxLen) (ht : t.size ≤ maxLen) (hT : Tab w) :
    Calls Tryd.prog 6 #[.string s, .string t] w fun e w' => e = .returned (.bool true) ∧ Below w.heap.size w w' := by
  unfold maxLen at hs ht
  obtain ⟨p, hp⟩ : ∃ q, s.extract 0 100 = q := ⟨_, rfl⟩
  obtain ⟨q, hq⟩ : ∃ q, t.extract 0 100 = q := ⟨_, rfl⟩
  have HP := hid hp
  have HQ := hid hq
  have hps : p.size ≤ 100 := by rw [← hp]; exact cutS_size s
  have hqs : q.size ≤ 100 := by rw [← hq]; exact cutS_size t
  clear hp hq
  go_enter Tryd.func6, Tryd.ntmps6
  go_upto_region 1 with fail
  go_cut [0, 1] (fun a b wx => a = .string p ∧ b = .string q ∧ Below w.heap.size w wx)
  case first =>
    go_quiet (fail)
    go_wp2_with fail
    all_goals
      go_meet
      refine ⟨?_, ?_, ⟨rfl, rfl, rfl, Nat.le_refl _, fun _ _ => rfl⟩⟩
      · first | exact congrArg Value.string HP.out | exact congrArg Value.string ((cut_short (by omega)).trans HP.out)
      · first | exact congrArg Value.string HQ.out | exact congrArg Value.string ((cut_short (by omega)).trans HQ.out)
  case rest =>
    obtain ⟨rfl, rfl, hb0⟩ := hcut
    obtain ⟨wo, rfl⟩ : ∃ wo : World, wo = wc := ⟨_, rfl⟩
    clear HP HQ hs ht
    go_upto_block 0 with fail
    go_cut [5, 6] (fun a b wx => ∃ o r, a = .string o ∧ b = .string r ∧ GoesEnd p o r ∧ Below w.heap.size w wx)
    case first =>
      go_wp2_with fail
      go_loopw [5, 6] (fun a b wr => ∃ o r, a = .string o ∧ b = .string r ∧ GoesRel p o r ∧ Below w.heap.size w wr) (fun _ b _ => strLen b)
      case atStart => exact ⟨_, p, rfl, rfl, goes_start hps, hb0⟩
      case round =>
        obtain ⟨o, r, rfl, rfl, hG, hb⟩ := hrel
        have hsz := hb.size
        have hTr := hT.below hb
        have hGs := hG.1
        by_cases h0 : r.size = 0
        · have hn : r.toList.isEmpty = true := by rw [empty_yes h0, ByteArray.toList_eq]; rfl
          have HE := hid (goes_stop hG h0)
          clear hG h0
          go_wp2_with fail
          go_meet
          exact ⟨o, r, rfl, rfl, HE.out, hb⟩
        · have hn := empty_no h0
          rcases firstG_cases r with ⟨x, hx, e, hl, hbq⟩ | ⟨e, he3⟩ | ⟨n, e, hn1, hn3, hnr⟩
          · have hF := first_at e wr (by unfold maxLen; omega) hTr
            have hX := fun W (h : Below w.heap.size w W) => text_yes x hx W (hT.below h)
            have HE := hid (goes_letter hG h0 hx e hl hbq)
            have hz := sizeOf_bd x
            have hq := hid (show (r.extract (sizeOf x) r.size).size = r.size - sizeOf x by rw [size_extract']; omega)
            have hes : (Utf8.encode x).size ≤ 4 := by rw [(enc_bytes hx).1]; omega
            clear hG h0 hbq e hx
            obtain ⟨m, hm⟩ : ∃ m, sizeOf x = m := ⟨_, rfl⟩
            rw [hm] at HE hF hl hz hq
            clear hm
            obtain ⟨E, hE⟩ : ∃ E, Utf8.encode x = E := ⟨_, rfl⟩
            rw [hE] at HE hX hes
            clear hE
            go_wp2_with (first | (go_at_call 13; refine hF.mono ?_; rintro e w2 ⟨rfl, hb2⟩) | (go_at_call 7; refine (hX _ (hb.trans (hb2.mono hb.size))).mono ?_; rintro e w3 ⟨rfl, hb3⟩))
            go_roundw
            case rel => exact ⟨_, _, rfl, rfl, HE.out, (hb.trans (hb2.mono hb.size)).trans (hb3.mono (hb.trans (hb2.mono hb.size)).size)⟩
            case measure =>
              show (r.extract m r.size).size < r.size
              rw [hq.out]; omega
          · have hF := first_at e wr (by unfold maxLen; omega) hTr
            have HE := hid (goes_short hG h0 e he3)
            clear hG h0 e
            go_wp2_with (go_at_call 13; refine hF.mono ?_; rintro e w2 ⟨rfl, hb2⟩)
            go_meet
            exact ⟨_, _, rfl, rfl, HE.out, hb.trans (hb2.mono hb.size)⟩
          · have hF := first_at e wr (by unfold maxLen; omega) hTr
            have HE := hid (goes_bad hG h0 e)
            have hq := hid (show (r.extract n r.size).size = r.size - n by rw [size_extract']; omega)
            clear hG h0 e
            go_wp2_with (go_at_call 13; refine hF.mono ?_; rintro e w2 ⟨rfl, hb2⟩)
            go_roundw
            case rel => exact ⟨_, _, rfl, rfl, HE.out, hb.trans (hb2.mono hb.size)⟩
            case measure =>
              show (r.extract n r.size).size < r.size
              rw [hq.out]; omega
    case rest =>
      obtain ⟨o, r, rfl, rfl, ⟨hG1, hG2, hG3, hG4⟩, hb⟩ := hcut
      have hA := fun W (h : Below w.heap.size w W) => alive_at hT h
      have hVo := fun W (h : Below w.heap.size w W) => valid_any o W (by unfold maxLen; omega) (hT.below h)
      have hVp := fun W (h : Below w.heap.size w W) => valid_any p W (by unfold maxLen; omega) (hT.below h)
      rw [hG3] at hVo
      clear hG3 hb0
      have hpq : (p ++ q).size = p.size + q.size := ByteArray.size_append
      have hVq := fun W (h : Below w.heap.size w W) => valid_any q W (by unfold maxLen; omega) (hT.below h)
      have hVpq := fun W (h : Below w.heap.size w W) => valid_any (p ++ q) W (by unfold maxLen; omega) (hT.below h)
      have hr3 : decide ((3 : Int) < (r.size : Int)) = false := by simp; omega
      go_upto_region 14 with fail
      go_cut [80] (fun v wx => v = .bool false ∧ Below w.heap.size w wx)
      case first =>
        clear hVq hVpq
        go_wp2_with fail
        refine (hVo _ hb).mono ?_
        rintro e w2 ⟨rfl, hb2⟩
        have hb2 := hb.trans (hb2.mono hb.size)
        go_wp2_with fail
        refine (hVp _ hb2).mono ?_
        rintro e w3 ⟨rfl, hb3⟩
        have hb3 := hb2.trans (hb3.mono hb2.size)
        cases hvp : validG p
        · clear hG4
          go_wp2_with fail
          refine (hA _ hb3).mono ?_
          rintro e w4 ⟨rfl, hb4⟩
          go_wp2_with fail
          go_meet
          exact ⟨rfl, hb4⟩
        · have hop := hG4 hvp
          clear hG4
          subst hop
          go_wp2_with fail
          refine (hA _ hb3).mono ?_
          rintro e w4 ⟨rfl, hb4⟩
          go_wp2_with fail
          go_meet
          exact ⟨rfl, hb4⟩
      case rest =>
        obtain ⟨rfl, hb7⟩ := hcut
        have hva : validG p = true → validG (p ++ q) = validG q := validG_append _ p q (Nat.le_refl _)
        have HVA := hid hva
        clear hva hG4 hVo hb
        go_wp2_with fail
        refine (hVp _ hb7).mono ?_
        rintro e w2 ⟨rfl, hb2⟩
        have hb2 := hb7.trans (hb2.mono hb7.size)
        cases hvp : validG p
        · clear HVA
          go_wp2_with fail
          go_ret
          exact ⟨rfl, hb2⟩
        · have hq := HVA.out hvp
          rw [hq] at hVpq
          clear HVA hq
          go_wp2_with fail
          refine (hVpq _ hb2).mono ?_
          rintro e w3 ⟨rfl, hb3⟩
          have hb3 := hb2.trans (hb3.mono hb2.size)
          go_wp2_with fail
          refine (hVq _ hb3).mono ?_
          rintro e w4 ⟨rfl, hb4⟩
          have hb4 := hb3.trans (hb4.mono hb3.size)
          go_wp2_with fail
          go_ret
          exact ⟨ret_bool (by simp), hb4⟩
end Go.Proofs.YtdokdcbfgogbbaaDoor
