/- Layer 10, the law FindLooks. Made by wip/gen/findLaws.py. -/
import Derived.Test.YteebbmmgbjpihaaDoorFindAlQ
import Derived.Test.YteebbmmgbjpihaaDoorHeldSQ
namespace Go.Proofs.YteebbmmgbjpihaaDoor
open Go.RowKit

set_option maxRecDepth 100000 in
set_option maxHeartbeats 8000000 in
theorem looks_any (v : Value) (l0 : List (Ln × Value)) (s0 : ByteArray) (row col : Int) (back : Bool) (W : World) (hr : LR W v l0) (hc : CesOf W l0) (hn : (l0.length : Int) ≤ 9223372036854775807) (hl : ∀ e ∈ l0, (e.1.cs.length : Int) ≤ 9223372036854775807 ∧ ∀ c ∈ e.1.cs, (c.tx.size : Int) ≤ 9223372036854775807)
    (hs0 : (s0.size : Int) ≤ 9223372036854775807) (hT : Tab W) (hW : TabW W) :
    Calls Tryd.prog 3 #[v, .string s0, .int .i64 row, .int .i64 col, .bool back] W fun e w' => e = .returned (.bool true) ∧ Below W.heap.size W w' := by
  have hfw := fun (X : World) (hb : Below W.heap.size W X) => ffew_any v l0 X (hr.below hb) (hc.below hb) hn hl
  have HFW := hid hfw
  have HT := hid hT
  have HW := hid hW
  obtain ⟨vA, vc, rfl⟩ := hr.spell
  obtain ⟨n0, hn0⟩ : ∃ n0, l0.length = n0 := ⟨_, rfl⟩
  rw [hn0] at HFW hn ⊢
  clear hfw hr hc hl hT hW hn0
  obtain ⟨s, hs, hs66, hcs⟩ : ∃ s : ByteArray, s0.extract 0 66 = s ∧ s.size ≤ 66 ∧ ((s0.size ≤ 66 ∧ s = s0) ∨ (66 : Int) < s0.size) := by
    refine ⟨_, rfl, by rw [size_extract']; omega, ?_⟩
    rcases Nat.lt_or_ge 66 s0.size with h | h
    · exact .inr (by omega)
    · exact .inl ⟨h, bytes_ext (by rw [size_extract']; omega) (fun i hi => by rw [byteAt_extract _ _ _ _ (by rw [size_extract'] at hi; omega), Nat.zero_add])⟩
  have HSS := hid hs66
  go_enter Tryd.func3, Tryd.ntmps3
  go_upto_region 1 with fail
  go_cut [0, 1] (fun a b wx => ∃ fA fc lv, a = .slice fA lv.length fc ∧ b = .string s ∧ Fl wx (.slice fA lv.length fc) lv ∧ Below W.heap.size W wx)
  case first =>
    rcases hcs with ⟨h66, rfl⟩ | h66
    · have h66i : (s.size : Int) ≤ 66 := by omega
      have hmin : min (s.size : Int) 66 = (s.size : Int) := Int.min_eq_left h66i
      have hse : s.extract 0 s.size = s := ByteArray.extract_zero_size
      clear hs
      go_wp2_with fail
      have hS0 : Below W.heap.size W _ := below_drew W 1
      refine wp_region_S (fun _ w' => Below W.heap.size W w') (by kernel_rfl) ?_
      refine takeC (i := 0) (v := ?v0a) 15 rfl rfl (by kernel_rfl) (by kernel_rfl) (by kernel_rfl) (by kernel_rfl) (fun _ _ _ h => h) (Or.inl ⟨by rfl, fun w' hw' => ?hy0a⟩) hS0 ?rest0a
      case hy0a => go_simp; try with_reducible rfl
      try simp only [Act.put, List.setIfInBounds_toArray, List.set_cons_zero, List.set_cons_succ]
      refine takeC (i := 2) (v := ?v2a) 17 rfl rfl (by kernel_rfl) (by kernel_rfl) (by kernel_rfl) (by kernel_rfl) (fun _ _ _ h => h) (Or.inl ⟨by rfl, fun w' hw' => ?hy2a⟩) hS0 ?rest2a
      case hy2a => go_simp; try with_reducible rfl
      try simp only [Act.put, List.setIfInBounds_toArray, List.set_cons_zero, List.set_cons_succ]
      refine takeC (i := 3) (v := ?v3a) 18 rfl rfl (by kernel_rfl) (by kernel_rfl) (by kernel_rfl) (by kernel_rfl) (fun _ _ _ h => h) (Or.inl ⟨by rfl, fun w' hw' => ?hy3a⟩) hS0 ?rest3a
      case hy3a => go_simp; try with_reducible rfl
      try simp only [Act.put, List.setIfInBounds_toArray, List.set_cons_zero, List.set_cons_succ]
      refine takeC (i := 4) (v := ?v4a) 19 rfl rfl (by kernel_rfl) (by kernel_rfl) (by kernel_rfl) (by kernel_rfl) (fun _ _ _ h => h) (Or.inl ⟨by rfl, fun w' hw' => ?hy4a⟩) hS0 ?rest4a
      case hy4a => go_simp; try with_reducible rfl
      try simp only [Act.put, List.setIfInBounds_toArray, List.set_cons_zero, List.set_cons_succ]
      refine takeC (i := 5) (v := ?v5a) 20 rfl rfl (by kernel_rfl) (by kernel_rfl) (by kernel_rfl) (by kernel_rfl) (fun _ _ _ h => h) (Or.inl ⟨by rfl, fun w' hw' => ?hy5a⟩) hS0 ?rest5a
      case hy5a => go_simp; try with_reducible rfl
      try simp only [Act.put, List.setIfInBounds_toArray, List.set_cons_zero, List.set_cons_succ]
      refine takeC (i := 6) (v := ?v6a) 21 rfl rfl (by kernel_rfl) (by kernel_rfl) (by kernel_rfl) (by kernel_rfl) (fun _ _ _ h => h) (Or.inl ⟨by rfl, fun w' hw' => ?hy6a⟩) hS0 ?rest6a
      case hy6a => go_simp; try with_reducible rfl
      try simp only [Act.put, List.setIfInBounds_toArray, List.set_cons_zero, List.set_cons_succ]
      refine oneS (k := 1) (by kernel_rfl) rfl (by rfl) (fun K hK => ?_)
      go_simp
      go_at_call 6
      refine (HFW.out _ hS0).mono ?_
      rintro e9 w9 ⟨fv, lv, rfl, hmap, hls, hcs, hb⟩
      dsimp only
      have hfl : Fl w9 fv lv := few_fl hmap hls hcs
      obtain ⟨fA, fc, rfl⟩ := hfl.lr.spell
      have hS1 := hS0.trans (hb.mono hS0.size)
      refine hK _ _ hS1 ?_
      clear hK K
      try simp only [Act.put, List.setIfInBounds_toArray, List.set_cons_zero, List.set_cons_succ]
      clear hS0 hb hmap hls hcs
      have hS0 := hS1
      clear hS1
      refine takeC (i := 7) (v := ?v7a) 0 rfl rfl (by kernel_rfl) (by kernel_rfl) (by kernel_rfl) (by kernel_rfl) (fun _ _ _ h => h) (Or.inl ⟨by rfl, fun w' hw' => ?hy7a⟩) hS0 ?rest7a
      case hy7a => go_simp; try with_reducible rfl
      try simp only [Act.put, List.setIfInBounds_toArray, List.set_cons_zero]
      refine takeC (i := 8) (v := ?v8a) 1 rfl rfl (by kernel_rfl) (by kernel_rfl) (by kernel_rfl) (by kernel_rfl) (fun _ _ _ h => h) (Or.inl ⟨by rfl, fun w' hw' => ?hy8a⟩) hS0 ?rest8a
      case hy8a => go_simp; try with_reducible rfl
      try simp only [Act.put, List.setIfInBounds_toArray, List.set_cons_zero, List.set_cons_succ]
      refine doneS (by kernel_rfl) ?_ _
      go_wp2_with fail
      go_meet
      exact ⟨fA, fc, lv, rfl, rfl, hfl, hS0⟩
    · have h66j : (66 : Int) ≤ s0.size := by omega
      have hmin : min (s0.size : Int) 66 = 66 := Int.min_eq_right h66j
      go_wp2_with fail
      have hS0 : Below W.heap.size W _ := below_drew W 1
      refine wp_region_S (fun _ w' => Below W.heap.size W w') (by kernel_rfl) ?_
      refine takeC (i := 0) (v := ?v0b) 15 rfl rfl (by kernel_rfl) (by kernel_rfl) (by kernel_rfl) (by kernel_rfl) (fun _ _ _ h => h) (Or.inl ⟨by rfl, fun w' hw' => ?hy0b⟩) hS0 ?rest0b
      case hy0b => go_simp; try with_reducible rfl
      try simp only [Act.put, List.setIfInBounds_toArray, List.set_cons_zero, List.set_cons_succ]
      refine takeC (i := 2) (v := ?v2b) 17 rfl rfl (by kernel_rfl) (by kernel_rfl) (by kernel_rfl) (by kernel_rfl) (fun _ _ _ h => h) (Or.inl ⟨by rfl, fun w' hw' => ?hy2b⟩) hS0 ?rest2b
      case hy2b => go_simp; try with_reducible rfl
      try simp only [Act.put, List.setIfInBounds_toArray, List.set_cons_zero, List.set_cons_succ]
      refine takeC (i := 3) (v := ?v3b) 18 rfl rfl (by kernel_rfl) (by kernel_rfl) (by kernel_rfl) (by kernel_rfl) (fun _ _ _ h => h) (Or.inl ⟨by rfl, fun w' hw' => ?hy3b⟩) hS0 ?rest3b
      case hy3b => go_simp; try with_reducible rfl
      try simp only [Act.put, List.setIfInBounds_toArray, List.set_cons_zero, List.set_cons_succ]
      refine takeC (i := 4) (v := ?v4b) 19 rfl rfl (by kernel_rfl) (by kernel_rfl) (by kernel_rfl) (by kernel_rfl) (fun _ _ _ h => h) (Or.inl ⟨by rfl, fun w' hw' => ?hy4b⟩) hS0 ?rest4b
      case hy4b => go_simp; try with_reducible rfl
      try simp only [Act.put, List.setIfInBounds_toArray, List.set_cons_zero, List.set_cons_succ]
      refine takeC (i := 5) (v := ?v5b) 20 rfl rfl (by kernel_rfl) (by kernel_rfl) (by kernel_rfl) (by kernel_rfl) (fun _ _ _ h => h) (Or.inl ⟨by rfl, fun w' hw' => ?hy5b⟩) hS0 ?rest5b
      case hy5b => go_simp; try with_reducible rfl
      try simp only [Act.put, List.setIfInBounds_toArray, List.set_cons_zero, List.set_cons_succ]
      refine takeC (i := 6) (v := ?v6b) 21 rfl rfl (by kernel_rfl) (by kernel_rfl) (by kernel_rfl) (by kernel_rfl) (fun _ _ _ h => h) (Or.inl ⟨by rfl, fun w' hw' => ?hy6b⟩) hS0 ?rest6b
      case hy6b => go_simp; try with_reducible rfl
      try simp only [Act.put, List.setIfInBounds_toArray, List.set_cons_zero, List.set_cons_succ]
      refine oneS (k := 1) (by kernel_rfl) rfl (by rfl) (fun K hK => ?_)
      go_simp
      go_at_call 6
      refine (HFW.out _ hS0).mono ?_
      rintro e9 w9 ⟨fv, lv, rfl, hmap, hls, hcs, hb⟩
      dsimp only
      have hfl : Fl w9 fv lv := few_fl hmap hls hcs
      obtain ⟨fA, fc, rfl⟩ := hfl.lr.spell
      have hS1 := hS0.trans (hb.mono hS0.size)
      refine hK _ _ hS1 ?_
      clear hK K
      try simp only [Act.put, List.setIfInBounds_toArray, List.set_cons_zero, List.set_cons_succ]
      clear hS0 hb hmap hls hcs
      have hS0 := hS1
      clear hS1
      refine takeC (i := 7) (v := ?v7b) 0 rfl rfl (by kernel_rfl) (by kernel_rfl) (by kernel_rfl) (by kernel_rfl) (fun _ _ _ h => h) (Or.inl ⟨by rfl, fun w' hw' => ?hy7b⟩) hS0 ?rest7b
      case hy7b => go_simp; try with_reducible rfl
      try simp only [Act.put, List.setIfInBounds_toArray, List.set_cons_zero]
      refine takeC (i := 8) (v := ?v8b) 1 rfl rfl (by kernel_rfl) (by kernel_rfl) (by kernel_rfl) (by kernel_rfl) (fun _ _ _ h => h) (Or.inl ⟨by rfl, fun w' hw' => ?hy8b⟩) hS0 ?rest8b
      case hy8b => go_simp; try with_reducible rfl
      try simp only [Act.put, List.setIfInBounds_toArray, List.set_cons_zero, List.set_cons_succ]
      refine doneS (by kernel_rfl) ?_ _
      go_wp2_with fail
      go_meet
      exact ⟨fA, fc, lv, rfl, rfl, hfl, hS0⟩
  case rest =>
    obtain ⟨fA, fc, lv, rfl, rfl, hfl, hb⟩ := hcut
    clear hcs hs
    have H0 := hid hb
    have HFL := hid hfl
    have HTc := hid (HT.out.below hb)
    have HWc := hid (HW.out.below hb)
    have HFD := hid (fun (r q : Int) (back : Bool) (X : World) (hb : Below wc.heap.size wc X) => find_any _ lv s r q back X (HFL.out.below hb) (HTc.out.below hb) (HWc.out.below hb))
    have HAL := hid (fun (X : World) (hb : Below wc.heap.size wc X) => fnAlive X (HTc.out.below hb) (HWc.out.below hb))
    have HTH := hid (fun (r q : Int) (X : World) (hb : Below wc.heap.size wc X) => there_any r q _ lv X (HFL.out.lr.below hb) (HFL.out.ces.below hb))
    have HMY := hid (fun (X : World) (hb : Below wc.heap.size wc X) => rMay_any _ lv X (HFL.out.lr.below hb) (HFL.out.ces.below hb) HFL.out.sm)
    clear hb hfl HFW HT HW
    generalize lv.length = n at *
    have hok : keptB lv = false ∨ (keptB lv = true ∧ inP (lv.map Prod.fst) (row, col) = false) ∨ (keptB lv = true ∧ inP (lv.map Prod.fst) (row, col) = true ∧ s = ⟨#[]⟩) ∨ (keptB lv = true ∧ inP (lv.map Prod.fst) (row, col) = true ∧ s.toList.isEmpty = false ∧ (64 : Int) < s.size ∧ 64 < s.size) ∨ (keptB lv = true ∧ inP (lv.map Prod.fst) (row, col) = true ∧ s.toList.isEmpty = false ∧ decide ((64 : Int) < s.size) = false ∧ 0 < s.size ∧ s.size ≤ 64) := by
      cases h1 : keptB lv with
      | false => exact .inl rfl
      | true =>
        cases h2 : inP (lv.map Prod.fst) (row, col) with
        | false => exact .inr (.inl ⟨rfl, rfl⟩)
        | true =>
          by_cases h3 : s.size = 0
          · exact .inr (.inr (.inl ⟨rfl, rfl, empty_yes h3⟩))
          · by_cases h4 : 64 < s.size
            · exact .inr (.inr (.inr (.inl ⟨rfl, rfl, empty_no h3, by omega, h4⟩)))
            · exact .inr (.inr (.inr (.inr ⟨rfl, rfl, empty_no h3, decide_eq_false (by omega), by omega, by omega⟩)))
    have HFM := hid HFL.out.may
    have HNO : Hid ((keptB lv = false ∨ inP (lv.map Prod.fst) (row, col) = false ∨ s.size = 0 ∨ 64 < s.size) → findR lv s (row, col) back = (0, 0, 1)) := fun h => by unfold findR; exact if_pos h
    have HFD := hid (HFD.out row col back wc (Below.refl _ _))
    have HMY := hid (fun X hb => (HFM.out ▸ HMY.out X hb : Calls Tryd.prog 8 #[.slice fA n fc] X fun e w' => e = .returned (.bool (keptB lv)) ∧ Below X.heap.size X w'))
    have HTH := hid (HTH.out row col)
    rcases hok with h1 | ⟨h1, h2⟩ | ⟨h1, h2, rfl⟩ | ⟨h1, h2, h3, h4, h5⟩ | ⟨h1, h2, h3, h4, h5, h6⟩
    · have hf := HNO.out (.inl h1)
      unfold FdPost at HFD
      rw [hf] at HFD
      rw [h1] at HMY
      clear hf h1 HTH HFM HNO HSS
      go_wp2_with first | (go_at_call 7; (with_reducible refine HFD.out.mono ?_); rintro e1 w1 ⟨rfl, hb1⟩; have HB := hid (H0.out.trans (hb1.mono H0.out.size)); have HQ := hid hb1; dsimp only) | (go_at_call 8; (with_reducible refine (HMY.out _ HQ.out).mono ?_); rintro e1 w2 ⟨rfl, hb2⟩; have HB := hid (HB.out.trans (hb2.mono HB.out.size)); have HQ := hid (HQ.out.trans (hb2.mono HQ.out.size)); dsimp only) | (go_at_call 9; (with_reducible refine (HTH.out _ HQ.out).mono ?_); rintro e1 w3 ⟨rfl, rfl⟩; dsimp only) | (go_at_call 11; (with_reducible refine (HRF.out _ HQ.out).mono ?_); rintro e1 w5 ⟨rfl, hb5⟩; have HB := hid ((HB.out.trans (hb5.mono HB.out.size)).alloc (Nat.le_trans HB.out.size hb5.size) (.cells #[.int .i64 (-1), .int .i64 (0)] 31)); have HQ := hid ((HQ.out.trans (hb5.mono HQ.out.size)).alloc (Nat.le_trans HQ.out.size hb5.size) (.cells #[.int .i64 (-1), .int .i64 (0)] 31)); dsimp only) | (go_at_call 10; (with_reducible refine (HAL.out _ HQ.out).mono ?_); rintro e1 w4 ⟨rfl, hb4⟩; have HB := hid (HB.out.trans (hb4.mono HB.out.size)); have HQ := hid (HQ.out.trans (hb4.mono HQ.out.size)); dsimp only)
      go_ret
      exact ⟨rfl, HB.out⟩
    · have hf := HNO.out (.inr (.inl h2))
      unfold FdPost at HFD
      rw [hf] at HFD
      rw [h1] at HMY
      rw [h2] at HTH
      clear hf h1 h2 HFM HNO HSS
      go_wp2_with first | (go_at_call 7; (with_reducible refine HFD.out.mono ?_); rintro e1 w1 ⟨rfl, hb1⟩; have HB := hid (H0.out.trans (hb1.mono H0.out.size)); have HQ := hid hb1; dsimp only) | (go_at_call 8; (with_reducible refine (HMY.out _ HQ.out).mono ?_); rintro e1 w2 ⟨rfl, hb2⟩; have HB := hid (HB.out.trans (hb2.mono HB.out.size)); have HQ := hid (HQ.out.trans (hb2.mono HQ.out.size)); dsimp only) | (go_at_call 9; (with_reducible refine (HTH.out _ HQ.out).mono ?_); rintro e1 w3 ⟨rfl, rfl⟩; dsimp only) | (go_at_call 11; (with_reducible refine (HRF.out _ HQ.out).mono ?_); rintro e1 w5 ⟨rfl, hb5⟩; have HB := hid ((HB.out.trans (hb5.mono HB.out.size)).alloc (Nat.le_trans HB.out.size hb5.size) (.cells #[.int .i64 (-1), .int .i64 (0)] 31)); have HQ := hid ((HQ.out.trans (hb5.mono HQ.out.size)).alloc (Nat.le_trans HQ.out.size hb5.size) (.cells #[.int .i64 (-1), .int .i64 (0)] 31)); dsimp only) | (go_at_call 10; (with_reducible refine (HAL.out _ HQ.out).mono ?_); rintro e1 w4 ⟨rfl, hb4⟩; have HB := hid (HB.out.trans (hb4.mono HB.out.size)); have HQ := hid (HQ.out.trans (hb4.mono HQ.out.size)); dsimp only)
      go_ret
      exact ⟨rfl, HB.out⟩
    · have hf := HNO.out (.inr (.inr (.inl rfl)))
      unfold FdPost at HFD
      rw [hf] at HFD
      rw [h1] at HMY
      rw [h2] at HTH
      clear hf h1 h2 HFM HNO HSS
      go_wp2_with first | (go_at_call 7; (with_reducible refine HFD.out.mono ?_); rintro e1 w1 ⟨rfl, hb1⟩; have HB := hid (H0.out.trans (hb1.mono H0.out.size)); have HQ := hid hb1; dsimp only) | (go_at_call 8; (with_reducible refine (HMY.out _ HQ.out).mono ?_); rintro e1 w2 ⟨rfl, hb2⟩; have HB := hid (HB.out.trans (hb2.mono HB.out.size)); have HQ := hid (HQ.out.trans (hb2.mono HQ.out.size)); dsimp only) | (go_at_call 9; (with_reducible refine (HTH.out _ HQ.out).mono ?_); rintro e1 w3 ⟨rfl, rfl⟩; dsimp only) | (go_at_call 11; (with_reducible refine (HRF.out _ HQ.out).mono ?_); rintro e1 w5 ⟨rfl, hb5⟩; have HB := hid ((HB.out.trans (hb5.mono HB.out.size)).alloc (Nat.le_trans HB.out.size hb5.size) (.cells #[.int .i64 (-1), .int .i64 (0)] 31)); have HQ := hid ((HQ.out.trans (hb5.mono HQ.out.size)).alloc (Nat.le_trans HQ.out.size hb5.size) (.cells #[.int .i64 (-1), .int .i64 (0)] 31)); dsimp only) | (go_at_call 10; (with_reducible refine (HAL.out _ HQ.out).mono ?_); rintro e1 w4 ⟨rfl, hb4⟩; have HB := hid (HB.out.trans (hb4.mono HB.out.size)); have HQ := hid (HQ.out.trans (hb4.mono HQ.out.size)); dsimp only)
      go_ret
      exact ⟨rfl, HB.out⟩
    · have hf := HNO.out (.inr (.inr (.inr h5)))
      unfold FdPost at HFD
      rw [hf] at HFD
      rw [h1] at HMY
      rw [h2] at HTH
      clear hf h1 h2 h5 HFM HNO HSS
      go_wp2_with first | (go_at_call 7; (with_reducible refine HFD.out.mono ?_); rintro e1 w1 ⟨rfl, hb1⟩; have HB := hid (H0.out.trans (hb1.mono H0.out.size)); have HQ := hid hb1; dsimp only) | (go_at_call 8; (with_reducible refine (HMY.out _ HQ.out).mono ?_); rintro e1 w2 ⟨rfl, hb2⟩; have HB := hid (HB.out.trans (hb2.mono HB.out.size)); have HQ := hid (HQ.out.trans (hb2.mono HQ.out.size)); dsimp only) | (go_at_call 9; (with_reducible refine (HTH.out _ HQ.out).mono ?_); rintro e1 w3 ⟨rfl, rfl⟩; dsimp only) | (go_at_call 11; (with_reducible refine (HRF.out _ HQ.out).mono ?_); rintro e1 w5 ⟨rfl, hb5⟩; have HB := hid ((HB.out.trans (hb5.mono HB.out.size)).alloc (Nat.le_trans HB.out.size hb5.size) (.cells #[.int .i64 (-1), .int .i64 (0)] 31)); have HQ := hid ((HQ.out.trans (hb5.mono HQ.out.size)).alloc (Nat.le_trans HQ.out.size hb5.size) (.cells #[.int .i64 (-1), .int .i64 (0)] 31)); dsimp only) | (go_at_call 10; (with_reducible refine (HAL.out _ HQ.out).mono ?_); rintro e1 w4 ⟨rfl, hb4⟩; have HB := hid (HB.out.trans (hb4.mono HB.out.size)); have HQ := hid (HQ.out.trans (hb4.mono HQ.out.size)); dsimp only)
      go_ret
      exact ⟨rfl, HB.out⟩
    · obtain ⟨⟨u1, _⟩, u3, _⟩ := inP_iff.1 h2
      obtain ⟨ka, rfl⟩ : ∃ ka : Nat, row = ka := ⟨row.toNat, by simp only at u1; omega⟩
      obtain ⟨kb, rfl⟩ : ∃ kb : Nat, col = kb := ⟨col.toNat, by simp only at u3; omega⟩
      have hf : findR lv s ((ka : Int), (kb : Int)) back = match foundL (lv.map Prod.fst) s (ka, kb) back with | some p => ((p.1 : Int), (p.2 : Int), 0) | none => (0, 0, 5) := by
        unfold findR
        rw [if_neg (by
          rintro (h | h | h | h)
          · rw [h1] at h; cases h
          · rw [h2] at h; cases h
          · omega
          · omega)]
        rfl
      have HRF := hid (fun (X : World) (hb : Below wc.heap.size wc X) => rfind_any s (ka, kb) back _ lv X (HFL.out.lr.below hb) (HFL.out.ces.below hb) HFL.out.sm (by omega))
      unfold FdPost at HFD
      rw [hf] at HFD
      rw [h1] at HMY
      rw [h2] at HTH
      obtain ⟨q, hq⟩ : ∃ q, foundL (lv.map Prod.fst) s (ka, kb) back = q := ⟨_, rfl⟩
      rw [hq] at HFD HRF
      clear hf h1 h2 h5 h6 hq u1 u3 HFM HNO HSS
      cases q with
      | none =>
        unfold RfPost rowO colO at HRF
        simp only at HFD HRF
        go_wp2_with first | (go_at_call 7; (with_reducible refine HFD.out.mono ?_); rintro e1 w1 ⟨rfl, hb1⟩; have HB := hid (H0.out.trans (hb1.mono H0.out.size)); have HQ := hid hb1; dsimp only) | (go_at_call 8; (with_reducible refine (HMY.out _ HQ.out).mono ?_); rintro e1 w2 ⟨rfl, hb2⟩; have HB := hid (HB.out.trans (hb2.mono HB.out.size)); have HQ := hid (HQ.out.trans (hb2.mono HQ.out.size)); dsimp only) | (go_at_call 9; (with_reducible refine (HTH.out _ HQ.out).mono ?_); rintro e1 w3 ⟨rfl, rfl⟩; dsimp only) | (go_at_call 11; (with_reducible refine (HRF.out _ HQ.out).mono ?_); rintro e1 w5 ⟨rfl, hb5⟩; have HB := hid ((HB.out.trans (hb5.mono HB.out.size)).alloc (Nat.le_trans HB.out.size hb5.size) (.cells #[.int .i64 (-1), .int .i64 (0)] 31)); have HQ := hid ((HQ.out.trans (hb5.mono HQ.out.size)).alloc (Nat.le_trans HQ.out.size hb5.size) (.cells #[.int .i64 (-1), .int .i64 (0)] 31)); dsimp only) | (go_at_call 10; (with_reducible refine (HAL.out _ HQ.out).mono ?_); rintro e1 w4 ⟨rfl, hb4⟩; have HB := hid (HB.out.trans (hb4.mono HB.out.size)); have HQ := hid (HQ.out.trans (hb4.mono HQ.out.size)); dsimp only)
        go_ret
        exact ⟨rfl, HB.out⟩
      | some p =>
        obtain ⟨pr, pc⟩ := p
        unfold RfPost rowO colO at HRF
        simp only at HFD HRF
        have hpr : ¬ (pr : Int) < 0 := by omega
        have hprb : decide ((pr : Int) < 0) = false := decide_eq_false hpr
        go_wp2_with first | (go_at_call 7; (with_reducible refine HFD.out.mono ?_); rintro e1 w1 ⟨rfl, hb1⟩; have HB := hid (H0.out.trans (hb1.mono H0.out.size)); have HQ := hid hb1; dsimp only) | (go_at_call 8; (with_reducible refine (HMY.out _ HQ.out).mono ?_); rintro e1 w2 ⟨rfl, hb2⟩; have HB := hid (HB.out.trans (hb2.mono HB.out.size)); have HQ := hid (HQ.out.trans (hb2.mono HQ.out.size)); dsimp only) | (go_at_call 9; (with_reducible refine (HTH.out _ HQ.out).mono ?_); rintro e1 w3 ⟨rfl, rfl⟩; dsimp only) | (go_at_call 11; (with_reducible refine (HRF.out _ HQ.out).mono ?_); rintro e1 w5 ⟨rfl, hb5⟩; have HB := hid ((HB.out.trans (hb5.mono HB.out.size)).alloc (Nat.le_trans HB.out.size hb5.size) (.cells #[.int .i64 (pr : Int), .int .i64 (pc : Int)] 31)); have HQ := hid ((HQ.out.trans (hb5.mono HQ.out.size)).alloc (Nat.le_trans HQ.out.size hb5.size) (.cells #[.int .i64 (pr : Int), .int .i64 (pc : Int)] 31)); dsimp only) | (go_at_call 10; (with_reducible refine (HAL.out _ HQ.out).mono ?_); rintro e1 w4 ⟨rfl, hb4⟩; have HB := hid (HB.out.trans (hb4.mono HB.out.size)); have HQ := hid (HQ.out.trans (hb4.mono HQ.out.size)); obtain ⟨⟨z0, z1⟩, _⟩ := ((Box.new w5 31 #[.int .i64 (pr : Int), .int .i64 (pc : Int)]).below hb4 (by simp)).two; dsimp only)
        go_ret
        exact ⟨rfl, HB.out⟩
end Go.Proofs.YteebbmmgbjpihaaDoor
