/- Layer 10, the law FindBack. Made by wip/gen/findLaws.py. -/
import Derived.Test.YteebbmmgbjpihaaDoorFindAlQ
import Derived.Test.YteebbmmgbjpihaaDoorHeldSQ
namespace Go.Proofs.YteebbmmgbjpihaaDoor
open Go.RowKit

theorem fd_yes {lv : List (Ln × Value)} {s : ByteArray} {p : Nat × Nat} {back : Bool} (hk : keptB lv = true) (hi : p ∈ placesP (lv.map Prod.fst)) (h0 : 0 < s.size) (h64 : s.size ≤ 64) :
    findR lv s ((p.1 : Int), (p.2 : Int)) back = match foundL (lv.map Prod.fst) s p back with | some p => ((p.1 : Int), (p.2 : Int), 0) | none => (0, 0, 5) := by
  unfold findR
  rw [if_neg (by
    rintro (h | h | h | h)
    · rw [hk] at h; cases h
    · rw [show (((p.1 : Int), (p.2 : Int)) : Int × Int) = toI p from rfl, inP_nat.2 hi] at h; cases h
    · omega
    · omega)]
  rfl
theorem last_place {ls : List Ln} {l : Ln} {la m : Nat} (hn : ls.length = la + 1) (hl : ls[la]? = some l) (hm : l.cs.length = m + 1) : (la, m) ∈ placesP ls ∧ ∀ p ∈ placesP ls, p ≠ (la, m) → behP (la, m) p := by
  have e := lenP_at hl
  refine ⟨places_mem.2 (by simp only; omega), ?_⟩
  rintro ⟨a, b⟩ hp hne
  have hp' := places_mem.1 hp
  simp only at hp'
  have ha : a < ls.length := by
    rcases Nat.lt_or_ge a ls.length with h | h
    · exact h
    · rw [lenP_no h] at hp'; omega
  unfold behP
  simp only
  by_cases h : a = la
  · subst h
    right
    refine ⟨rfl, ?_⟩
    rcases Nat.lt_or_ge b m with h | h
    · exact h
    · exact absurd (by rw [show b = m by omega]) hne
  · omega
set_option maxRecDepth 100000 in
set_option maxHeartbeats 8000000 in
theorem fback_any (v : Value) (l0 : List (Ln × Value)) (s0 : ByteArray) (row col : Int) (W : World) (hr : LR W v l0) (hc : CesOf W l0) (hn : (l0.length : Int) ≤ 9223372036854775807) (hl : ∀ e ∈ l0, (e.1.cs.length : Int) ≤ 9223372036854775807 ∧ ∀ c ∈ e.1.cs, (c.tx.size : Int) ≤ 9223372036854775807)
    (hs0 : (s0.size : Int) ≤ 9223372036854775807) (hT : Tab W) (hW : TabW W) :
    Calls Tryd.prog 5 #[v, .string s0, .int .i64 row, .int .i64 col] W fun e w' => e = .returned (.bool true) ∧ Below W.heap.size W w' := by
  have hfw := fun (X : World) (hb : Below W.heap.size W X) => ffew_any v l0 X (hr.below hb) (hc.below hb) hn hl
  have HFW := hid hfw
  have HT := hid hT
  have HW := hid hW
  obtain ⟨vA, vc, rfl⟩ := hr.spell
  obtain ⟨n0, hn0⟩ : ∃ n0, l0.length = n0 := ⟨_, rfl⟩
  rw [hn0] at HFW hn ⊢
  clear hfw hr hc hl hT hW hn0
  obtain ⟨s, hs, hs66, hcs⟩ : ∃ s : ByteArray, s0.extract 0 66 = s ∧ s.size ≤ 66 ∧ ((s0.size ≤ 66 ∧ s = s0) ∨ (66 : Int) < s0.size) := by
    refine ⟨_, rfl, by rw [size_extract']; omega, ?_⟩
    rcases Nat.lt_or_ge 66 s0.size with h | h
    · exact .inr (by omega)
    · exact .inl ⟨h, bytes_ext (by rw [size_extract']; omega) (fun i hi => by rw [byteAt_extract _ _ _ _ (by rw [size_extract'] at hi; omega), Nat.zero_add])⟩
  have HSS := hid hs66
  go_enter Tryd.func5, Tryd.ntmps5
  go_upto_region 1 with fail
  go_cut [0, 1] (fun a b wx => ∃ fA fc lv, a = .slice fA lv.length fc ∧ b = .string s ∧ Fl wx (.slice fA lv.length fc) lv ∧ Below W.heap.size W wx)
  case first =>
    rcases hcs with ⟨h66, rfl⟩ | h66
    · have h66i : (s.size : Int) ≤ 66 := by omega
      have hmin : min (s.size : Int) 66 = (s.size : Int) := Int.min_eq_left h66i
      have hse : s.extract 0 s.size = s := ByteArray.extract_zero_size
      clear hs
      go_wp2_with fail
      have hS0 : Below W.heap.size W _ := below_drew W 1
      refine wp_region_S (fun _ w' => Below W.heap.size W w') (by kernel_rfl) ?_
      refine takeC (i := 0) (v := ?v0a) 19 rfl rfl (by kernel_rfl) (by kernel_rfl) (by kernel_rfl) (by kernel_rfl) (fun _ _ _ h => h) (Or.inl ⟨by rfl, fun w' hw' => ?hy0a⟩) hS0 ?rest0a
      case hy0a => go_simp; try with_reducible rfl
      try simp only [Act.put, List.setIfInBounds_toArray, List.set_cons_zero, List.set_cons_succ]
      refine takeC (i := 2) (v := ?v2a) 21 rfl rfl (by kernel_rfl) (by kernel_rfl) (by kernel_rfl) (by kernel_rfl) (fun _ _ _ h => h) (Or.inl ⟨by rfl, fun w' hw' => ?hy2a⟩) hS0 ?rest2a
      case hy2a => go_simp; try with_reducible rfl
      try simp only [Act.put, List.setIfInBounds_toArray, List.set_cons_zero, List.set_cons_succ]
      refine takeC (i := 3) (v := ?v3a) 22 rfl rfl (by kernel_rfl) (by kernel_rfl) (by kernel_rfl) (by kernel_rfl) (fun _ _ _ h => h) (Or.inl ⟨by rfl, fun w' hw' => ?hy3a⟩) hS0 ?rest3a
      case hy3a => go_simp; try with_reducible rfl
      try simp only [Act.put, List.setIfInBounds_toArray, List.set_cons_zero, List.set_cons_succ]
      refine takeC (i := 4) (v := ?v4a) 23 rfl rfl (by kernel_rfl) (by kernel_rfl) (by kernel_rfl) (by kernel_rfl) (fun _ _ _ h => h) (Or.inl ⟨by rfl, fun w' hw' => ?hy4a⟩) hS0 ?rest4a
      case hy4a => go_simp; try with_reducible rfl
      try simp only [Act.put, List.setIfInBounds_toArray, List.set_cons_zero, List.set_cons_succ]
      refine takeC (i := 5) (v := ?v5a) 24 rfl rfl (by kernel_rfl) (by kernel_rfl) (by kernel_rfl) (by kernel_rfl) (fun _ _ _ h => h) (Or.inl ⟨by rfl, fun w' hw' => ?hy5a⟩) hS0 ?rest5a
      case hy5a => go_simp; try with_reducible rfl
      try simp only [Act.put, List.setIfInBounds_toArray, List.set_cons_zero, List.set_cons_succ]
      refine takeC (i := 6) (v := ?v6a) 25 rfl rfl (by kernel_rfl) (by kernel_rfl) (by kernel_rfl) (by kernel_rfl) (fun _ _ _ h => h) (Or.inl ⟨by rfl, fun w' hw' => ?hy6a⟩) hS0 ?rest6a
      case hy6a => go_simp; try with_reducible rfl
      try simp only [Act.put, List.setIfInBounds_toArray, List.set_cons_zero, List.set_cons_succ]
      refine oneS (k := 1) (by kernel_rfl) rfl (by rfl) (fun K hK => ?_)
      go_simp
      go_at_call 6
      refine (HFW.out _ hS0).mono ?_
      rintro e9 w9 ⟨fv, lv, rfl, hmap, hls, hcs, hb⟩
      dsimp only
      have hfl : Fl w9 fv lv := few_fl hmap hls hcs
      obtain ⟨fA, fc, rfl⟩ := hfl.lr.spell
      have hS1 := hS0.trans (hb.mono hS0.size)
      refine hK _ _ hS1 ?_
      clear hK K
      try simp only [Act.put, List.setIfInBounds_toArray, List.set_cons_zero, List.set_cons_succ]
      clear hS0 hb hmap hls hcs
      have hS0 := hS1
      clear hS1
      refine takeC (i := 7) (v := ?v7a) 0 rfl rfl (by kernel_rfl) (by kernel_rfl) (by kernel_rfl) (by kernel_rfl) (fun _ _ _ h => h) (Or.inl ⟨by rfl, fun w' hw' => ?hy7a⟩) hS0 ?rest7a
      case hy7a => go_simp; try with_reducible rfl
      try simp only [Act.put, List.setIfInBounds_toArray, List.set_cons_zero]
      refine takeC (i := 8) (v := ?v8a) 1 rfl rfl (by kernel_rfl) (by kernel_rfl) (by kernel_rfl) (by kernel_rfl) (fun _ _ _ h => h) (Or.inl ⟨by rfl, fun w' hw' => ?hy8a⟩) hS0 ?rest8a
      case hy8a => go_simp; try with_reducible rfl
      try simp only [Act.put, List.setIfInBounds_toArray, List.set_cons_zero, List.set_cons_succ]
      refine doneS (by kernel_rfl) ?_ _
      go_wp2_with fail
      go_meet
      exact ⟨fA, fc, lv, rfl, rfl, hfl, hS0⟩
    · have h66j : (66 : Int) ≤ s0.size := by omega
      have hmin : min (s0.size : Int) 66 = 66 := Int.min_eq_right h66j
      go_wp2_with fail
      have hS0 : Below W.heap.size W _ := below_drew W 1
      refine wp_region_S (fun _ w' => Below W.heap.size W w') (by kernel_rfl) ?_
      refine takeC (i := 0) (v := ?v0b) 19 rfl rfl (by kernel_rfl) (by kernel_rfl) (by kernel_rfl) (by kernel_rfl) (fun _ _ _ h => h) (Or.inl ⟨by rfl, fun w' hw' => ?hy0b⟩) hS0 ?rest0b
      case hy0b => go_simp; try with_reducible rfl
      try simp only [Act.put, List.setIfInBounds_toArray, List.set_cons_zero, List.set_cons_succ]
      refine takeC (i := 2) (v := ?v2b) 21 rfl rfl (by kernel_rfl) (by kernel_rfl) (by kernel_rfl) (by kernel_rfl) (fun _ _ _ h => h) (Or.inl ⟨by rfl, fun w' hw' => ?hy2b⟩) hS0 ?rest2b
      case hy2b => go_simp; try with_reducible rfl
      try simp only [Act.put, List.setIfInBounds_toArray, List.set_cons_zero, List.set_cons_succ]
      refine takeC (i := 3) (v := ?v3b) 22 rfl rfl (by kernel_rfl) (by kernel_rfl) (by kernel_rfl) (by kernel_rfl) (fun _ _ _ h => h) (Or.inl ⟨by rfl, fun w' hw' => ?hy3b⟩) hS0 ?rest3b
      case hy3b => go_simp; try with_reducible rfl
      try simp only [Act.put, List.setIfInBounds_toArray, List.set_cons_zero, List.set_cons_succ]
      refine takeC (i := 4) (v := ?v4b) 23 rfl rfl (by kernel_rfl) (by kernel_rfl) (by kernel_rfl) (by kernel_rfl) (fun _ _ _ h => h) (Or.inl ⟨by rfl, fun w' hw' => ?hy4b⟩) hS0 ?rest4b
      case hy4b => go_simp; try with_reducible rfl
      try simp only [Act.put, List.setIfInBounds_toArray, List.set_cons_zero, List.set_cons_succ]
      refine takeC (i := 5) (v := ?v5b) 24 rfl rfl (by kernel_rfl) (by kernel_rfl) (by kernel_rfl) (by kernel_rfl) (fun _ _ _ h => h) (Or.inl ⟨by rfl, fun w' hw' => ?hy5b⟩) hS0 ?rest5b
      case hy5b => go_simp; try with_reducible rfl
      try simp only [Act.put, List.setIfInBounds_toArray, List.set_cons_zero, List.set_cons_succ]
      refine takeC (i := 6) (v := ?v6b) 25 rfl rfl (by kernel_rfl) (by kernel_rfl) (by kernel_rfl) (by kernel_rfl) (fun _ _ _ h => h) (Or.inl ⟨by rfl, fun w' hw' => ?hy6b⟩) hS0 ?rest6b
      case hy6b => go_simp; try with_reducible rfl
      try simp only [Act.put, List.setIfInBounds_toArray, List.set_cons_zero, List.set_cons_succ]
      refine oneS (k := 1) (by kernel_rfl) rfl (by rfl) (fun K hK => ?_)
      go_simp
      go_at_call 6
      refine (HFW.out _ hS0).mono ?_
      rintro e9 w9 ⟨fv, lv, rfl, hmap, hls, hcs, hb⟩
      dsimp only
      have hfl : Fl w9 fv lv := few_fl hmap hls hcs
      obtain ⟨fA, fc, rfl⟩ := hfl.lr.spell
      have hS1 := hS0.trans (hb.mono hS0.size)
      refine hK _ _ hS1 ?_
      clear hK K
      try simp only [Act.put, List.setIfInBounds_toArray, List.set_cons_zero, List.set_cons_succ]
      clear hS0 hb hmap hls hcs
      have hS0 := hS1
      clear hS1
      refine takeC (i := 7) (v := ?v7b) 0 rfl rfl (by kernel_rfl) (by kernel_rfl) (by kernel_rfl) (by kernel_rfl) (fun _ _ _ h => h) (Or.inl ⟨by rfl, fun w' hw' => ?hy7b⟩) hS0 ?rest7b
      case hy7b => go_simp; try with_reducible rfl
      try simp only [Act.put, List.setIfInBounds_toArray, List.set_cons_zero]
      refine takeC (i := 8) (v := ?v8b) 1 rfl rfl (by kernel_rfl) (by kernel_rfl) (by kernel_rfl) (by kernel_rfl) (fun _ _ _ h => h) (Or.inl ⟨by rfl, fun w' hw' => ?hy8b⟩) hS0 ?rest8b
      case hy8b => go_simp; try with_reducible rfl
      try simp only [Act.put, List.setIfInBounds_toArray, List.set_cons_zero, List.set_cons_succ]
      refine doneS (by kernel_rfl) ?_ _
      go_wp2_with fail
      go_meet
      exact ⟨fA, fc, lv, rfl, rfl, hfl, hS0⟩
  case rest =>
    obtain ⟨fA, fc, lv, rfl, rfl, hfl, hb⟩ := hcut
    clear hcs hs
    have H0 := hid hb
    have HFL := hid hfl
    have HTc := hid (HT.out.below hb)
    have HWc := hid (HW.out.below hb)
    have HFD := hid (fun (r q : Int) (back : Bool) (X : World) (hb : Below wc.heap.size wc X) => find_any _ lv s r q back X (HFL.out.below hb) (HTc.out.below hb) (HWc.out.below hb))
    have HAL := hid (fun (X : World) (hb : Below wc.heap.size wc X) => fnAlive X (HTc.out.below hb) (HWc.out.below hb))
    have HTH := hid (fun (r q : Int) (X : World) (hb : Below wc.heap.size wc X) => there_any r q _ lv X (HFL.out.lr.below hb) (HFL.out.ces.below hb))
    clear hb hfl HFW HT HW
    by_cases hno : keptB lv = false ∨ inP (lv.map Prod.fst) (row, col) = false ∨ s.size = 0 ∨ 64 < s.size
    · have hf : findR lv s (row, col) false = (0, 0, 1) := by unfold findR; exact if_pos hno
      have HF1 := hid (HFD.out row col false)
      unfold FdPost at HF1
      rw [hf] at HF1
      clear hf hno HFD HTH HSS
      have HB := H0
      have HQ := hid (Below.refl wc.heap.size wc)
      generalize lv.length = n at *
      go_wp2_with first | (go_at_call 7; (with_reducible refine (HF1.out _ HQ.out).mono ?_); rintro e1 w1 ⟨rfl, hb1⟩; have HB := hid (HB.out.trans (hb1.mono HB.out.size)); have HQ := hid (HQ.out.trans (hb1.mono HQ.out.size)); dsimp only) | (go_at_call 10; (with_reducible refine (HAL.out _ HQ.out).mono ?_); rintro e1 w4 ⟨rfl, hb4⟩; have HB := hid (HB.out.trans (hb4.mono HB.out.size)); have HQ := hid (HQ.out.trans (hb4.mono HQ.out.size)); dsimp only)
      go_ret
      exact ⟨rfl, HB.out⟩
    · have h1 : keptB lv = true := by cases h : keptB lv with | true => rfl | false => exact absurd (.inl h) hno
      have h2 : inP (lv.map Prod.fst) (row, col) = true := by cases h : inP (lv.map Prod.fst) (row, col) with | true => rfl | false => exact absurd (.inr (.inl h)) hno
      have h3 : 0 < s.size := by rcases Nat.eq_zero_or_pos s.size with h | h; exact absurd (.inr (.inr (.inl h))) hno; exact h
      have h4 : s.size ≤ 64 := by rcases Nat.lt_or_ge 64 s.size with h | h; exact absurd (.inr (.inr (.inr h))) hno; exact h
      obtain ⟨⟨u1, _⟩, u3, _⟩ := inP_iff.1 h2
      obtain ⟨ka, rfl⟩ : ∃ ka : Nat, row = ka := ⟨row.toNat, by simp only at u1; omega⟩
      obtain ⟨kb, rfl⟩ : ∃ kb : Nat, col = kb := ⟨col.toNat, by simp only at u3; omega⟩
      have hi : (ka, kb) ∈ placesP (lv.map Prod.fst) := inP_nat.1 h2
      have hf := fd_yes (back := false) h1 hi h3 h4
      have HF1 := hid (HFD.out ka kb false)
      unfold FdPost at HF1
      rw [hf] at HF1
      clear hf hno h2 u1 u3
      cases hq : foundL (lv.map Prod.fst) s (ka, kb) false with
      | none =>
        rw [hq] at HF1
        simp only at HF1
        clear hq hi h1 HFD HTH HSS
        have HB := H0
        have HQ := hid (Below.refl wc.heap.size wc)
        generalize lv.length = n at *
        go_wp2_with first | (go_at_call 7; (with_reducible refine (HF1.out _ HQ.out).mono ?_); rintro e1 w1 ⟨rfl, hb1⟩; have HB := hid (HB.out.trans (hb1.mono HB.out.size)); have HQ := hid (HQ.out.trans (hb1.mono HQ.out.size)); dsimp only) | (go_at_call 10; (with_reducible refine (HAL.out _ HQ.out).mono ?_); rintro e1 w4 ⟨rfl, hb4⟩; have HB := hid (HB.out.trans (hb4.mono HB.out.size)); have HQ := hid (HQ.out.trans (hb4.mono HQ.out.size)); dsimp only)
        go_ret
        exact ⟨rfl, HB.out⟩
      | some p =>
        rw [hq] at HF1
        simp only at HF1
        have hq' : findF (lv.map Prod.fst) s (ka, kb) = some p := hq
        obtain ⟨g1, g2, g3⟩ := findF_is hq'
        have gno := fun q (a : q ∈ placesP (lv.map Prod.fst)) b c => findF_first hq' (q := q) a b c
        clear hq hq'
        obtain ⟨pr, pc⟩ := p
        have HTH := hid (HTH.out pr pc)
        rw [show inP (lv.map Prod.fst) ((pr : Int), (pc : Int)) = true from inP_nat.2 g1] at HTH
        have HST := hid (fun (X : World) (hb : Below wc.heap.size wc X) => rstands_any pr pc s _ lv X (HFL.out.lr.below hb) (HFL.out.ces.below hb) HFL.out.sm g1 (by omega))
        rw [g2] at HST
        have HBE := hid (fun (X : World) => behind_any pr pc ka kb X)
        rw [show behI (pr : Int) (pc : Int) (ka : Int) (kb : Int) = true from (behI_nat (pr, pc) (ka, kb)).trans (decide_eq_true g3)] at HBE
        have hf2 := fd_yes (back := true) h1 g1 h3 h4
        have HF2 := hid (HFD.out pr pc true)
        unfold FdPost at HF2
        rw [hf2] at HF2
        have hpos : 0 < lv.length := by
          have := (inP_iff.1 (inP_nat.2 g1)).1.2
          simp only [toI, List.length_map] at this
          omega
        obtain ⟨la, hla⟩ : ∃ la, lv.length = la + 1 := ⟨lv.length - 1, by omega⟩
        obtain ⟨gg, oo, ee, efA, hgg, hee, hcell⟩ := lr_at HFL.out.lr rfl la (by omega)
        subst efA
        have hk := kept_ok HFL.out.sm h1 ee.1 (List.mem_map.2 ⟨ee, List.mem_of_getElem? hee, rfl⟩)
        obtain ⟨m, hm⟩ : ∃ m, ee.1.cs.length = m + 1 := ⟨ee.1.cs.length - 1, by omega⟩
        have hlp := last_place (ls := lv.map Prod.fst) (l := ee.1) (la := la) (m := m) (by rw [List.length_map]; exact hla) (by rw [List.getElem?_map, hee]; rfl) hm
        obtain ⟨eA, ec, hev⟩ := (HFL.out.ces ee (List.mem_of_getElem? hee)).spell
        rw [hm] at hev
        rw [hev] at hcell
        have hf3 := fd_yes (p := (la, m)) (back := true) h1 hlp.1 h3 h4
        have HF3 := hid (HFD.out la m true)
        unfold FdPost at HF3
        simp only at hf3
        rw [hf3] at HF3
        have hm79 : m ≤ 79 := by omega
        have hla199 : la ≤ 199 := by have := HFL.out.n; omega
        have HCELL := hid hcell
        clear hcell hev hm hk hee HFD h1 hi h3 h4 hf2 hf3
        have hl1 : ((la + 1 : Nat) : Int) - 1 = (la : Int) := by omega
        have hl2 : IntKind.i64.wrap (la : Int) = (la : Int) := IntWalk.i64_in _ (by omega)
        have hl3 : (la : Int) < ((la + 1 : Nat) : Int) := by omega
        have hl4 : ((m + 1 : Nat) : Int) - 1 = (m : Int) := by omega
        have hl5 : IntKind.i64.wrap (m : Int) = (m : Int) := IntWalk.i64_in _ (by omega)
        rw [hla] at HF1 HF2 HF3 HTH HST HFL hpos ⊢
        have HB := H0
        have HQ := hid (Below.refl wc.heap.size wc)
        go_upto_region 7 with first | (go_at_call 7; (with_reducible refine (HF1.out _ HQ.out).mono ?_); rintro e1 w1 ⟨rfl, hb1⟩; have HB := hid (HB.out.trans (hb1.mono HB.out.size)); have HQ := hid (HQ.out.trans (hb1.mono HQ.out.size)); dsimp only) | (go_at_call 9; (with_reducible refine (HTH.out _ HQ.out).mono ?_); rintro e1 w2 ⟨rfl, rfl⟩; dsimp only) | (go_at_call 17; (with_reducible refine (HST.out _ HQ.out).mono ?_); rintro e1 w3 ⟨rfl, hb3⟩; have HB := hid (HB.out.trans (hb3.mono HB.out.size)); have HQ := hid (HQ.out.trans (hb3.mono HQ.out.size)); dsimp only) | (go_at_call 18; (with_reducible refine (HBE.out _).mono ?_); rintro e1 w5 ⟨rfl, rfl⟩; dsimp only) | (go_at_call 10; (with_reducible refine (HAL.out _ HQ.out).mono ?_); rintro e1 w4 ⟨rfl, hb4⟩; have HB := hid (HB.out.trans (hb4.mono HB.out.size)); have HQ := hid (HQ.out.trans (hb4.mono HQ.out.size)); dsimp only)
        cases hq2 : foundL (lv.map Prod.fst) s (pr, pc) true with
        | none =>
          rw [hq2] at HF2
          simp only at HF2
          clear hq2
          cases hq3 : foundL (lv.map Prod.fst) s (la, m) true with
          | none =>
            rw [hq3] at HF3
            simp only at HF3
            have hne : (pr, pc) = (la, m) := Classical.byContradiction fun h => by
              obtain ⟨q2, hq2⟩ := findB_some g1 g2 (hlp.2 (pr, pc) g1 h)
              have hq3 : findB (lv.map Prod.fst) s (la, m) = none := hq3
              rw [hq2] at hq3
              cases hq3
            obtain ⟨rfl, rfl⟩ := Prod.mk.inj hne
            clear hlp gno g1 g2 g3 hpos hq3 hne
            go_upto_region 11 with first | (go_at_call 7; (with_reducible refine (HF2.out _ HQ.out).mono ?_); rintro e1 w1 ⟨rfl, hb1⟩; have HB := hid (HB.out.trans (hb1.mono HB.out.size)); have HQ := hid (HQ.out.trans (hb1.mono HQ.out.size)); dsimp only)
            obtain ⟨c0, _⟩ := HCELL.out _ HQ.out
            go_upto_region 12 with (go_at_call 7; (with_reducible refine (HF3.out _ HQ.out).mono ?_); rintro e1 w1 ⟨rfl, hb1⟩; have HB := hid (HB.out.trans (hb1.mono HB.out.size)); have HQ := hid (HQ.out.trans (hb1.mono HQ.out.size)); dsimp only)
            obtain ⟨c1, _⟩ := HCELL.out _ HQ.out
            go_wp2_with fail
            go_ret
            exact ⟨rfl, HB.out⟩
          | some q2 =>
            rw [hq3] at HF3
            simp only at HF3
            have hq3 : findB (lv.map Prod.fst) s (la, m) = some q2 := hq3
            have z2 := findB_is hq3
            by_cases hne : (pr, pc) = (la, m)
            · obtain ⟨rfl, rfl⟩ := Prod.mk.inj hne
              clear hne
              clear hlp gno g1 g2 g3 hpos z2 hq3
              go_upto_region 11 with first | (go_at_call 7; (with_reducible refine (HF2.out _ HQ.out).mono ?_); rintro e1 w1 ⟨rfl, hb1⟩; have HB := hid (HB.out.trans (hb1.mono HB.out.size)); have HQ := hid (HQ.out.trans (hb1.mono HQ.out.size)); dsimp only)
              obtain ⟨c0, _⟩ := HCELL.out _ HQ.out
              go_upto_region 12 with (go_at_call 7; (with_reducible refine (HF3.out _ HQ.out).mono ?_); rintro e1 w1 ⟨rfl, hb1⟩; have HB := hid (HB.out.trans (hb1.mono HB.out.size)); have HQ := hid (HQ.out.trans (hb1.mono HQ.out.size)); dsimp only)
              obtain ⟨c1, _⟩ := HCELL.out _ HQ.out
              go_wp2_with fail
              go_ret
              exact ⟨rfl, HB.out⟩
            · by_cases hrow : pr = la
              · have hcol : pc ≠ m := fun h => hne (by rw [hrow, h])
                have hcb : ((pc : Int) == (m : Int)) = false := beq_eq_false_iff_ne.2 (by omega)
                subst hrow
                clear hcol
                have hbl := hlp.2 (pr, pc) g1 hne
                have hz2 := findB_last hq3 g1 g2 hbl
                have HST3 := hid (fun (X : World) (hb : Below wc.heap.size wc X) => rstands_any q2.1 q2.2 s _ lv X (HFL.out.lr.below hb) (HFL.out.ces.below hb) HFL.out.sm z2.1 (by omega))
                rw [z2.2.1] at HST3
                have HBE3 := hid (fun (X : World) => behind_any pr pc q2.1 q2.2 X)
                rw [show behI (pr : Int) (pc : Int) (q2.1 : Int) (q2.2 : Int) = false from (behI_nat (pr, pc) q2).trans (decide_eq_false hz2)] at HBE3
                clear hlp gno g1 g2 g3 hpos z2 hq3 hbl hz2 hne
                go_upto_region 11 with first | (go_at_call 7; (with_reducible refine (HF2.out _ HQ.out).mono ?_); rintro e1 w1 ⟨rfl, hb1⟩; have HB := hid (HB.out.trans (hb1.mono HB.out.size)); have HQ := hid (HQ.out.trans (hb1.mono HQ.out.size)); dsimp only)
                obtain ⟨c0, _⟩ := HCELL.out _ HQ.out
                go_upto_region 12 with (go_at_call 7; (with_reducible refine (HF3.out _ HQ.out).mono ?_); rintro e1 w1 ⟨rfl, hb1⟩; have HB := hid (HB.out.trans (hb1.mono HB.out.size)); have HQ := hid (HQ.out.trans (hb1.mono HQ.out.size)); dsimp only)
                obtain ⟨c1, _⟩ := HCELL.out _ HQ.out
                go_wp2_with first | (go_at_call 18; (with_reducible refine (HBE3.out _).mono ?_); rintro e1 w5 ⟨rfl, rfl⟩; dsimp only) | (go_at_call 17; (with_reducible refine (HST3.out _ HQ.out).mono ?_); rintro e1 w3 ⟨rfl, hb3⟩; have HB := hid (HB.out.trans (hb3.mono HB.out.size)); have HQ := hid (HQ.out.trans (hb3.mono HQ.out.size)); dsimp only)
                go_ret
                exact ⟨rfl, HB.out⟩
              · have hcb : ((pr : Int) == (la : Int)) = false := beq_eq_false_iff_ne.2 (by omega)
                clear hrow
                have hbl := hlp.2 (pr, pc) g1 hne
                have hz2 := findB_last hq3 g1 g2 hbl
                have HST3 := hid (fun (X : World) (hb : Below wc.heap.size wc X) => rstands_any q2.1 q2.2 s _ lv X (HFL.out.lr.below hb) (HFL.out.ces.below hb) HFL.out.sm z2.1 (by omega))
                rw [z2.2.1] at HST3
                have HBE3 := hid (fun (X : World) => behind_any pr pc q2.1 q2.2 X)
                rw [show behI (pr : Int) (pc : Int) (q2.1 : Int) (q2.2 : Int) = false from (behI_nat (pr, pc) q2).trans (decide_eq_false hz2)] at HBE3
                clear hlp gno g1 g2 g3 hpos z2 hq3 hbl hz2 hne
                go_upto_region 11 with first | (go_at_call 7; (with_reducible refine (HF2.out _ HQ.out).mono ?_); rintro e1 w1 ⟨rfl, hb1⟩; have HB := hid (HB.out.trans (hb1.mono HB.out.size)); have HQ := hid (HQ.out.trans (hb1.mono HQ.out.size)); dsimp only)
                obtain ⟨c0, _⟩ := HCELL.out _ HQ.out
                go_upto_region 12 with (go_at_call 7; (with_reducible refine (HF3.out _ HQ.out).mono ?_); rintro e1 w1 ⟨rfl, hb1⟩; have HB := hid (HB.out.trans (hb1.mono HB.out.size)); have HQ := hid (HQ.out.trans (hb1.mono HQ.out.size)); dsimp only)
                obtain ⟨c1, _⟩ := HCELL.out _ HQ.out
                go_wp2_with first | (go_at_call 18; (with_reducible refine (HBE3.out _).mono ?_); rintro e1 w5 ⟨rfl, rfl⟩; dsimp only) | (go_at_call 17; (with_reducible refine (HST3.out _ HQ.out).mono ?_); rintro e1 w3 ⟨rfl, hb3⟩; have HB := hid (HB.out.trans (hb3.mono HB.out.size)); have HQ := hid (HQ.out.trans (hb3.mono HQ.out.size)); dsimp only)
                go_ret
                exact ⟨rfl, HB.out⟩
        | some q1 =>
          rw [hq2] at HF2
          simp only at HF2
          have z1 := findB_is (show findB (lv.map Prod.fst) s (pr, pc) = some q1 from hq2)
          clear hq2
          cases hq3 : foundL (lv.map Prod.fst) s (la, m) true with
          | none =>
            rw [hq3] at HF3
            simp only at HF3
            have hne : (pr, pc) = (la, m) := Classical.byContradiction fun h => by
              obtain ⟨q2, hq2⟩ := findB_some g1 g2 (hlp.2 (pr, pc) g1 h)
              have hq3 : findB (lv.map Prod.fst) s (la, m) = none := hq3
              rw [hq2] at hq3
              cases hq3
            obtain ⟨rfl, rfl⟩ := Prod.mk.inj hne
            have HBE2 := hid (fun (X : World) => behind_any q1.1 q1.2 ka kb X)
            rw [show behI (q1.1 : Int) (q1.2 : Int) (ka : Int) (kb : Int) = false from (behI_nat q1 (ka, kb)).trans (decide_eq_false (fun h => gno q1 z1.1 z1.2.1 h z1.2.2))] at HBE2
            clear hlp gno g1 g2 g3 hpos z1 hq3 hne
            go_upto_region 11 with first | (go_at_call 7; (with_reducible refine (HF2.out _ HQ.out).mono ?_); rintro e1 w1 ⟨rfl, hb1⟩; have HB := hid (HB.out.trans (hb1.mono HB.out.size)); have HQ := hid (HQ.out.trans (hb1.mono HQ.out.size)); dsimp only) | (go_at_call 18; (with_reducible refine (HBE2.out _).mono ?_); rintro e1 w5 ⟨rfl, rfl⟩; dsimp only)
            obtain ⟨c0, _⟩ := HCELL.out _ HQ.out
            go_upto_region 12 with (go_at_call 7; (with_reducible refine (HF3.out _ HQ.out).mono ?_); rintro e1 w1 ⟨rfl, hb1⟩; have HB := hid (HB.out.trans (hb1.mono HB.out.size)); have HQ := hid (HQ.out.trans (hb1.mono HQ.out.size)); dsimp only)
            obtain ⟨c1, _⟩ := HCELL.out _ HQ.out
            go_wp2_with fail
            go_ret
            exact ⟨rfl, HB.out⟩
          | some q2 =>
            rw [hq3] at HF3
            simp only at HF3
            have hq3 : findB (lv.map Prod.fst) s (la, m) = some q2 := hq3
            have z2 := findB_is hq3
            by_cases hne : (pr, pc) = (la, m)
            · obtain ⟨rfl, rfl⟩ := Prod.mk.inj hne
              clear hne
              have HBE2 := hid (fun (X : World) => behind_any q1.1 q1.2 ka kb X)
              rw [show behI (q1.1 : Int) (q1.2 : Int) (ka : Int) (kb : Int) = false from (behI_nat q1 (ka, kb)).trans (decide_eq_false (fun h => gno q1 z1.1 z1.2.1 h z1.2.2))] at HBE2
              clear hlp gno g1 g2 g3 hpos z1 z2 hq3
              go_upto_region 11 with first | (go_at_call 7; (with_reducible refine (HF2.out _ HQ.out).mono ?_); rintro e1 w1 ⟨rfl, hb1⟩; have HB := hid (HB.out.trans (hb1.mono HB.out.size)); have HQ := hid (HQ.out.trans (hb1.mono HQ.out.size)); dsimp only) | (go_at_call 18; (with_reducible refine (HBE2.out _).mono ?_); rintro e1 w5 ⟨rfl, rfl⟩; dsimp only)
              obtain ⟨c0, _⟩ := HCELL.out _ HQ.out
              go_upto_region 12 with (go_at_call 7; (with_reducible refine (HF3.out _ HQ.out).mono ?_); rintro e1 w1 ⟨rfl, hb1⟩; have HB := hid (HB.out.trans (hb1.mono HB.out.size)); have HQ := hid (HQ.out.trans (hb1.mono HQ.out.size)); dsimp only)
              obtain ⟨c1, _⟩ := HCELL.out _ HQ.out
              go_wp2_with fail
              go_ret
              exact ⟨rfl, HB.out⟩
            · by_cases hrow : pr = la
              · have hcol : pc ≠ m := fun h => hne (by rw [hrow, h])
                have hcb : ((pc : Int) == (m : Int)) = false := beq_eq_false_iff_ne.2 (by omega)
                subst hrow
                clear hcol
                have HBE2 := hid (fun (X : World) => behind_any q1.1 q1.2 ka kb X)
                rw [show behI (q1.1 : Int) (q1.2 : Int) (ka : Int) (kb : Int) = false from (behI_nat q1 (ka, kb)).trans (decide_eq_false (fun h => gno q1 z1.1 z1.2.1 h z1.2.2))] at HBE2
                have hbl := hlp.2 (pr, pc) g1 hne
                have hz2 := findB_last hq3 g1 g2 hbl
                have HST3 := hid (fun (X : World) (hb : Below wc.heap.size wc X) => rstands_any q2.1 q2.2 s _ lv X (HFL.out.lr.below hb) (HFL.out.ces.below hb) HFL.out.sm z2.1 (by omega))
                rw [z2.2.1] at HST3
                have HBE3 := hid (fun (X : World) => behind_any pr pc q2.1 q2.2 X)
                rw [show behI (pr : Int) (pc : Int) (q2.1 : Int) (q2.2 : Int) = false from (behI_nat (pr, pc) q2).trans (decide_eq_false hz2)] at HBE3
                clear hlp gno g1 g2 g3 hpos z1 z2 hq3 hbl hz2 hne
                go_upto_region 11 with first | (go_at_call 7; (with_reducible refine (HF2.out _ HQ.out).mono ?_); rintro e1 w1 ⟨rfl, hb1⟩; have HB := hid (HB.out.trans (hb1.mono HB.out.size)); have HQ := hid (HQ.out.trans (hb1.mono HQ.out.size)); dsimp only) | (go_at_call 18; (with_reducible refine (HBE2.out _).mono ?_); rintro e1 w5 ⟨rfl, rfl⟩; dsimp only)
                obtain ⟨c0, _⟩ := HCELL.out _ HQ.out
                go_upto_region 12 with (go_at_call 7; (with_reducible refine (HF3.out _ HQ.out).mono ?_); rintro e1 w1 ⟨rfl, hb1⟩; have HB := hid (HB.out.trans (hb1.mono HB.out.size)); have HQ := hid (HQ.out.trans (hb1.mono HQ.out.size)); dsimp only)
                obtain ⟨c1, _⟩ := HCELL.out _ HQ.out
                go_wp2_with first | (go_at_call 18; (with_reducible refine (HBE3.out _).mono ?_); rintro e1 w5 ⟨rfl, rfl⟩; dsimp only) | (go_at_call 17; (with_reducible refine (HST3.out _ HQ.out).mono ?_); rintro e1 w3 ⟨rfl, hb3⟩; have HB := hid (HB.out.trans (hb3.mono HB.out.size)); have HQ := hid (HQ.out.trans (hb3.mono HQ.out.size)); dsimp only)
                go_ret
                exact ⟨rfl, HB.out⟩
              · have hcb : ((pr : Int) == (la : Int)) = false := beq_eq_false_iff_ne.2 (by omega)
                clear hrow
                have HBE2 := hid (fun (X : World) => behind_any q1.1 q1.2 ka kb X)
                rw [show behI (q1.1 : Int) (q1.2 : Int) (ka : Int) (kb : Int) = false from (behI_nat q1 (ka, kb)).trans (decide_eq_false (fun h => gno q1 z1.1 z1.2.1 h z1.2.2))] at HBE2
                have hbl := hlp.2 (pr, pc) g1 hne
                have hz2 := findB_last hq3 g1 g2 hbl
                have HST3 := hid (fun (X : World) (hb : Below wc.heap.size wc X) => rstands_any q2.1 q2.2 s _ lv X (HFL.out.lr.below hb) (HFL.out.ces.below hb) HFL.out.sm z2.1 (by omega))
                rw [z2.2.1] at HST3
                have HBE3 := hid (fun (X : World) => behind_any pr pc q2.1 q2.2 X)
                rw [show behI (pr : Int) (pc : Int) (q2.1 : Int) (q2.2 : Int) = false from (behI_nat (pr, pc) q2).trans (decide_eq_false hz2)] at HBE3
                clear hlp gno g1 g2 g3 hpos z1 z2 hq3 hbl hz2 hne
                go_upto_region 11 with first | (go_at_call 7; (with_reducible refine (HF2.out _ HQ.out).mono ?_); rintro e1 w1 ⟨rfl, hb1⟩; have HB := hid (HB.out.trans (hb1.mono HB.out.size)); have HQ := hid (HQ.out.trans (hb1.mono HQ.out.size)); dsimp only) | (go_at_call 18; (with_reducible refine (HBE2.out _).mono ?_); rintro e1 w5 ⟨rfl, rfl⟩; dsimp only)
                obtain ⟨c0, _⟩ := HCELL.out _ HQ.out
                go_upto_region 12 with (go_at_call 7; (with_reducible refine (HF3.out _ HQ.out).mono ?_); rintro e1 w1 ⟨rfl, hb1⟩; have HB := hid (HB.out.trans (hb1.mono HB.out.size)); have HQ := hid (HQ.out.trans (hb1.mono HQ.out.size)); dsimp only)
                obtain ⟨c1, _⟩ := HCELL.out _ HQ.out
                go_wp2_with first | (go_at_call 18; (with_reducible refine (HBE3.out _).mono ?_); rintro e1 w5 ⟨rfl, rfl⟩; dsimp only) | (go_at_call 17; (with_reducible refine (HST3.out _ HQ.out).mono ?_); rintro e1 w3 ⟨rfl, hb3⟩; have HB := hid (HB.out.trans (hb3.mono HB.out.size)); have HQ := hid (HQ.out.trans (hb3.mono HQ.out.size)); dsimp only)
                go_ret
                exact ⟨rfl, HB.out⟩
end Go.Proofs.YteebbmmgbjpihaaDoor
