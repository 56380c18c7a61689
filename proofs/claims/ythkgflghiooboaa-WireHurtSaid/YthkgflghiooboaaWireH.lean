/- The law WireHurt, walked. -/
import Derived.Test.YthkgflghiooboaaWireN
import Derived.Test.YthkgflghiooboaaWireG
import Derived.Deep.DeepCutAuto
import Derived.Deep.CutBlock
namespace Go.Proofs.Ythkgflghiooboaa
open Go.RowKit

theorem getD_set_ne {l : List Int} {i j : Nat} (x : Int) (h : j ≠ i) : (l.set j x).getD i 0 = l.getD i 0 := by
  rw [List.getD_eq_getElem?_getD, List.getElem?_set_ne h, List.getD_eq_getElem?_getD]
theorem getD_set_self {l : List Int} {j : Nat} (x : Int) (h : j < l.length) : (l.set j x).getD j 0 = x := by
  rw [List.getD_eq_getElem?_getD, List.getElem?_set_self h]; rfl
theorem idx_of (a : Int) (n : Nat) (h0 : 0 < n) (h1 : n ≤ 1000000) : ∃ k : Nat, (wrap64 (a.tmod n + n)).tmod n = (k : Int) ∧ k < n := by
  have h2 := Int.lt_tmod_of_pos a (b := (n : Int)) (by omega)
  have h3 := Int.tmod_lt_of_pos a (b := (n : Int)) (by omega)
  have e : wrap64 (a.tmod n + n) = a.tmod n + n := by unfold wrap64; omega
  rw [e]
  have h4 : 0 ≤ a.tmod n + n := by omega
  rw [Int.tmod_eq_emod_of_nonneg h4]
  have h5 := Int.emod_nonneg (a.tmod n + n) (b := (n : Int)) (by omega)
  have h6 := Int.emod_lt_of_pos (a.tmod n + n) (b := (n : Int)) (by omega)
  exact ⟨((a.tmod n + n) % n).toNat, by omega, by omega⟩

set_option maxRecDepth 100000 in
set_option maxHeartbeats 2000000 in
theorem hurt_any (tag : Int) (t : ByteArray) (at_ by_ : Int) (w : World) (ht : t.size ≤ maxLen) (_hat : -9223372036854775808 ≤ at_ ∧ at_ ≤ 9223372036854775807) (hby : 0 ≤ by_ ∧ by_ ≤ 255) :
    Calls Try.prog 6 #[.agg #[.int .i64 tag, .string t], .int .i64 at_, .int .u8 by_] w fun e w' => e = .returned (.bool true) ∧ Below w.heap.size w w' := by
  have hcut := fun W => cut_any tag t W ht
  have hcz := cutS_size t
  obtain ⟨c, hc⟩ : ∃ c, cutS t = c := ⟨_, rfl⟩
  rw [hc] at hcut hcz
  clear hc
  have henc := fun W => encode_any tag c W (by omega)
  have hA := fun W (h : Below w.heap.size w W) => alive_from h
  by_cases hbad : mayB tag c.size = false ∨ by_ = 0
  · by_cases hm : mayB tag c.size = true
    · have hz : by_ = 0 := by
        rcases hbad with h | h
        · rw [hm] at h; cases h
        · exact h
      have e1 : encI tag c = encS tag c := by unfold encI; rw [if_pos hm]
      have e2 : encE tag c = 0 := by unfold encE; rw [if_pos hm]
      rw [e1, e2] at henc
      obtain ⟨s, hs⟩ : ∃ s, encS tag c = s := ⟨_, rfl⟩
      rw [hs] at henc
      have hby0 : (by_ == 0) = true := by simp [hz]
      clear hs hm hz hbad e1 e2
      go_enter Try.func6, Try.ntmps6
      go_wp2_with (first | (go_at_call 7; refine (hcut _).mono ?_; rintro e w2 ⟨rfl, hb⟩; obtain ⟨hc, hf⟩ := bcell hb) | (go_at_call 8; refine (henc _).mono ?_; rintro e w3 ⟨rfl, hb3⟩; have hbw : Below w.heap.size w w3 := (((Below.behind hb).setCell (p := ⟨w.heap.size, 0, none⟩) (Nat.le_refl _) _).setCell (p := ⟨w.heap.size, 1, none⟩) (Nat.le_refl _) _).trans (hb3.mono (by have := hb.size; simp at this ⊢; omega))) | (go_at_call 14; refine (alive_from hbw).mono ?_; rintro e w4 ⟨rfl, hb4⟩))
      go_ret
      exact ⟨rfl, hb4⟩
    · have e1 : encI tag c = ⟨#[]⟩ := by unfold encI; rw [if_neg hm]
      have e2 : encE tag c = 1 := by unfold encE; rw [if_neg hm]
      rw [e1, e2] at henc
      clear hm hbad e1 e2
      go_enter Try.func6, Try.ntmps6
      go_wp2_with (first | (go_at_call 7; refine (hcut _).mono ?_; rintro e w2 ⟨rfl, hb⟩; obtain ⟨hc, hf⟩ := bcell hb) | (go_at_call 8; refine (henc _).mono ?_; rintro e w3 ⟨rfl, hb3⟩; have hbw : Below w.heap.size w w3 := (((Below.behind hb).setCell (p := ⟨w.heap.size, 0, none⟩) (Nat.le_refl _) _).setCell (p := ⟨w.heap.size, 1, none⟩) (Nat.le_refl _) _).trans (hb3.mono (by have := hb.size; simp at this ⊢; omega))) | (go_at_call 14; refine (alive_from hbw).mono ?_; rintro e w4 ⟨rfl, hb4⟩))
      go_ret
      exact ⟨rfl, hb4⟩
  · obtain ⟨h1, h2⟩ := not_or.1 hbad
    have hm : mayB tag c.size = true := by simpa using h1
    have e1 : encI tag c = encS tag c := by unfold encI; rw [if_pos hm]
    have e2 : encE tag c = 0 := by unfold encE; rw [if_pos hm]
    rw [e1, e2] at henc
    have hez := enc_size tag c
    have HM := hid hm
    obtain ⟨s, hs⟩ : ∃ s, encS tag c = s := ⟨_, rfl⟩
    rw [hs] at henc hez
    have HS := hid hs
    have hmm := may_iff.1 hm
    have hby0 : (by_ == 0) = false := by rw [beq_eq_false_iff_ne]; exact h2
    obtain ⟨n, hn⟩ : ∃ n, s.size = n := ⟨_, rfl⟩
    rw [hn] at hez
    have HN := hid hn
    have hs0 : ((s.size : Int) == 0) = false := by rw [beq_eq_false_iff_ne]; omega
    have hn4 : 4 ≤ s.size := by omega
    have hn5 : s.size ≤ 516 := by omega
    clear hs hm hn h1 h2 hbad e1 e2
    go_enter Try.func6, Try.ntmps6
    go_upto_region 5 with (first | (go_at_call 7; refine (hcut _).mono ?_; rintro e w2 ⟨rfl, hb⟩; obtain ⟨hc, hf⟩ := bcell hb) | (go_at_call 8; refine (henc _).mono ?_; rintro e w3 ⟨rfl, hb3⟩))
    have hbw : Below w.heap.size w w3 := (((Below.behind hb).setCell (p := ⟨w.heap.size, 0, none⟩) (Nat.le_refl _) _).setCell (p := ⟨w.heap.size, 1, none⟩) (Nat.le_refl _) _).trans (hb3.mono (by have := hb.size; simp at this ⊢; omega))
    clear hb3 hc hf hb hcut henc
    go_cut [1] (fun v wx => ∃ k : Nat, v = .int .i64 k ∧ k < s.size ∧ wx = w3)
    case first =>
      clear hA hbw
      go_wp2
      go_meet
      obtain ⟨k, hk, hks⟩ := idx_of at_ s.size (by omega) (by omega)
      exact ⟨k, by rw [hk], hks, rfl⟩
    case rest =>
      obtain ⟨k, rfl, hks, rfl⟩ := hcut
      obtain ⟨wo, rfl⟩ : ∃ wo : World, wo = wc := ⟨_, rfl⟩
      go_upto_region 6 with fail
      go_cut [50] (fun v wx => ∃ b : Bool, v = .bool b ∧ (b = false → k ≠ 1 ∧ k ≠ 2) ∧ wx = wo)
      case first =>
        clear hA hbw
        by_cases h1 : k = 1
        · have e1 : ((k : Int) == 1) = true := by simp [h1]
          clear h1
          go_wp2
          go_meet
          exact ⟨true, rfl, by simp, rfl⟩
        · have e1 : ((k : Int) == 1) = false := by rw [beq_eq_false_iff_ne]; omega
          by_cases h2 : k = 2
          · have e2 : ((k : Int) == 2) = true := by simp [h2]
            clear h2
            go_wp2
            go_meet
            exact ⟨true, rfl, by simp, rfl⟩
          · have e2 : ((k : Int) == 2) = false := by rw [beq_eq_false_iff_ne]; omega
            go_wp2
            go_meet
            exact ⟨false, rfl, fun _ => ⟨h1, h2⟩, rfl⟩
      case rest =>
      obtain ⟨b, rfl, hb12, rfl⟩ := hcut
      obtain ⟨wo, rfl⟩ : ∃ wo : World, wo = wc := ⟨_, rfl⟩
      go_upto_if 50 with fail
      go_cut [1] (fun v wx => ∃ j : Nat, v = .int .i64 j ∧ j < s.size ∧ j ≠ 1 ∧ j ≠ 2 ∧ wx = wo)
      case first =>
        clear hA hbw
        cases b
        · obtain ⟨h1, h2⟩ := hb12 rfl
          go_wp2
          go_meet
          exact ⟨k, rfl, by omega, h1, h2, rfl⟩
        · go_wp2
          go_meet
          exact ⟨0, rfl, by omega, by omega, by omega, rfl⟩
      case rest =>
        clear hks
        obtain ⟨j, rfl, hj, hj1, hj2, rfl⟩ := hcut
        obtain ⟨wo, rfl⟩ : ∃ wo : World, wo = wc := ⟨_, rfl⟩
        have hcvt := Lib.run_convert_string_bytes (P := Try.prog) wo 9 45 5 s Try.underlying9 Try.underlying45 Try.underlying5
        have hrow := bytesWorld_row (w := wo) (base := w.heap.size) 5 s hbw.size (by omega)
        have hbb := hbw.trans (bytesWorld_below (w := wo) (B := w.heap.size) 5 s hbw.size)
        have hcell := hrow.vals j (.int .u8 (byteAt s j)) (by rw [List.getElem?_map, ← bytesI_at, List.getD_eq_getElem?_getD, List.getElem?_eq_getElem (by rw [bytesI_length]; exact hj)]; rfl)
        have hge := grownCap_ge wo s.size 0 5
        obtain ⟨hsm, hfz⟩ := hrow.there j (by omega)
        obtain ⟨W1, hW1⟩ : ∃ W1, Lib.bytesWorld wo 5 s = W1 := ⟨_, rfl⟩
        rw [hW1] at hcvt hrow hbb hcell hsm hfz
        clear hW1
        have hji : (j : Int) < s.size := by omega
        have hj0 : (0 : Int) ≤ j := by omega
        have hjb := byteAt_bd s j
        go_upto_region 10 with fail
        have hrow2 := hrow.set hj ((byteAt s j + by_) % 256)
        have hcv := conv_row (P := Try.prog) (src := 45) (dst := 9) Try.underlying45 Try.underlying5 Try.underlying9 hrow2
        obtain ⟨B, hB⟩ : ∃ B, mkB ((bytesI s).set j ((byteAt s j + by_) % 256)) = B := ⟨_, rfl⟩
        have hBs : B.size = s.size := by rw [← hB, mkB_size, List.length_set, bytesI_length]
        have hsp : spoiltB B = true := by
          have hss := HS.out
          refine hurt (tag := tag) (t := c) (b := B) (at_ := j) (by_ := by_) HM.out (by rw [hss]; exact hBs) (by rw [hss]; exact hj) hj1 hj2 (by have : by_ ≠ 0 := (by simpa using hby0); omega) (fun i hi => ?_) ?_
          · rw [hss]
            by_cases hin : i < s.size
            · rw [← hB, mkB_at _ i (by rw [List.length_set, bytesI_length]; exact hin) (by rw [getD_set_ne _ (Ne.symm hi), bytesI_at]; exact byteAt_bd s i), getD_set_ne _ (Ne.symm hi), bytesI_at]
            · unfold byteAt; rw [dif_neg (by omega), dif_neg hin]
          · rw [hss, ← hB, mkB_at _ j (by rw [List.length_set, bytesI_length]; exact hj) (by rw [getD_set_self _ (by rw [bytesI_length]; exact hj)]; omega), getD_set_self _ (by rw [bytesI_length]; exact hj)]
        have hf1 : feedG ⟨#[]⟩ false B = ⟨⟨#[]⟩, true, [], 4⟩ := by
          have h1 : rightB ⟨#[]⟩ false = true := by decide +kernel
          obtain ⟨h4, h5⟩ := frames_none (spoilt_not_stands hsp)
          unfold feedG
          rw [if_neg (by simp [h1]), if_neg (by simp), nil_app, h4, h5, if_pos hsp]
        have hf2 : feedG ⟨#[]⟩ true s = ⟨⟨#[]⟩, false, [], 8⟩ := by
          have h1 : rightB ⟨#[]⟩ true = true := by decide +kernel
          unfold feedG
          rw [if_neg (by simp [h1]), if_pos rfl]
        have hF1 := fun W => feed_any ⟨#[]⟩ B false W (by rw [hBs]; show 0 + _ ≤ _; omega)
        have hF2 := fun W => feed_any ⟨#[]⟩ s true W (by show 0 + _ ≤ _; omega)
        rw [hf1] at hF1
        rw [hf2] at hF2
        rw [hB] at hcv
        have hbX := hbb.setCell (p := ⟨wo.heap.size, j, none⟩) hbw.size (.int .u8 ((byteAt s j + by_) % 256))
        obtain ⟨X, hX⟩ : ∃ X, W1.setCell ⟨wo.heap.size, j, none⟩ (.int .u8 ((byteAt s j + by_) % 256)) = X := ⟨_, rfl⟩
        rw [hX] at hcv hbX ⊢
        clear hX hf1 hf2 hsp hB hrow2 hrow hcvt hcell hsm hfz hbb
        have heqD : ∀ W, (binOp .eql 25 (.agg #[.string ⟨#[]⟩, .bool true]) (.agg #[.string ⟨#[]⟩, .bool true])).run Try.prog W = .ok (.bool true) W := fun W => by rw [run_eqlD]; simp
        go_wp2_with (first | (go_at_call 9; ((with_reducible refine (hF1 _).mono ?_)); rintro e w5 ⟨⟨v, rfl, hr5⟩, hb5⟩; obtain ⟨A5, c5, rfl⟩ := row_of hr5; have hbw5 := hbX.trans (hb5.mono hbX.size)) | (go_at_call 9; ((with_reducible refine (hF2 _).mono ?_)); rintro e w6 ⟨⟨v, rfl, hr6⟩, hb6⟩; obtain ⟨A6, c6, rfl⟩ := row_of hr6; have bx6 := (hb6.block _ (by simp)).trans (heap_alloc_new w5 (.cells #[.string ⟨#[]⟩, .bool true] 25)); have hbw6 := (hbw5.alloc hbw5.size _).trans (hb6.mono (by have := hbw5.size; simp; omega))) | (go_at_call 14; refine (alive_any _).mono ?_; rintro e w7 ⟨rfl, hb7⟩; have bx6' := (Below.heap_alloc w6 (.cells #[.string ⟨#[]⟩, .bool false] 25) _ (Array.getElem?_eq_some_iff.1 bx6).1).trans bx6; have bx7 := (hb7.block _ (Array.getElem?_eq_some_iff.1 bx6').1).trans bx6'; obtain ⟨⟨x0, x1⟩, y0, y1⟩ := blk2 bx7; have hbw7 := (hbw6.alloc hbw6.size _).trans (hb7.mono (by have := hbw6.size; simp; omega))))
        go_ret
        exact ⟨rfl, hbw7⟩
end Go.Proofs.Ythkgflghiooboaa
