/- Layer 12, the reference: Main. Made by wip/gen/presetS.py. -/
import Derived.Test.YtglfolbimafcaaaPresetRQ
namespace Go.Proofs.Ytglfolbimafcaaa
open Go.RowKit

theorem line_leaf (k : Int) (c : Nat) (p : Int) : lineT k c [p] = some (leafP p 0) := by unfold lineT sharedT; rfl
theorem rline_any1 (v : Value) (ps : List Int) (c : Nat) (x : Int) (W : World) (hv : NRow W v ps) (h1 : 1 ≤ ps.length) (h8 : ps.length ≤ 8) (hc : c ≤ 80) : Calls Try.prog 44 #[v, .int .i64 1, .int .i64 c, .int .i64 x] W (RLay W (lineT 1 c ps)) := by
  by_cases h2 : 2 ≤ ps.length
  · exact rline_row v ps c x W hv h2 h8 hc
  · obtain ⟨p, rfl⟩ := List.length_eq_one_iff.1 (show ps.length = 1 by omega)
    rw [line_leaf]
    exact rline_one v p 1 c x W hv
theorem rline_any2 (v : Value) (ps : List Int) (c : Nat) (x : Int) (W : World) (hv : NRow W v ps) (h1 : 1 ≤ ps.length) (h8 : ps.length ≤ 8) (hc : c ≤ 80) : Calls Try.prog 44 #[v, .int .i64 2, .int .i64 x, .int .i64 c] W (RLay W (lineT 2 c ps)) := by
  by_cases h2 : 2 ≤ ps.length
  · exact rline_pile v ps c x W hv h2 h8 hc
  · obtain ⟨p, rfl⟩ := List.length_eq_one_iff.1 (show ps.length = 1 by omega)
    rw [line_leaf]
    exact rline_one v p 2 x c W hv
set_option maxRecDepth 100000 in
set_option maxHeartbeats 4000000 in
theorem rmain_one (v : Value) (p k w h : Int) (W : World) (hv : NRow W v [p]) : Calls Try.prog 46 #[v, .int .i64 k, .int .i64 w, .int .i64 h] W (RLay W (some (leafP p 0))) := by
  obtain ⟨A, cc, rfl, hcc, hl⟩ := hv
  obtain ⟨g, o, rfl, hg, hx⟩ := hl (by simp)
  have q0 := hx 0 p rfl
  rw [Nat.add_zero] at q0
  have r0 := ((below_alloc W (.cells #[.int .i64 0, .int .i64 0, .int .i64 0, .slice none 0 0, .bool false] 44)).cell (p := ⟨g, o, none⟩) hg).trans q0
  simp only [List.length_singleton] at hcc ⊢
  have hne : ¬ g = W.heap.size := by omega
  clear hl hx
  go_enter Try.func46, Try.ntmps46
  go_wp2
  exact bodyPost_ret (v := .agg #[.int .i64 0, .int .i64 p, .int .i64 0, .slice none 0 0, .bool true]) (by simp [results, Try.f46, go_sem]) rfl ⟨below_alloc _ _, leafP p 0, none, 0, 0, true, rfl, TrB.leaf _ _ _ _, .inr ⟨rfl, rfl⟩⟩
theorem Box.drewH {W : World} {b : Nat} {t : TypeId} {cs : Array Value} (h : Box W b t cs) : Hid (Box W.drew b t cs) := h
set_option maxRecDepth 100000 in
set_option maxHeartbeats 8000000 in
theorem rmain_left (v : Value) (p : Int) (r : List Int) (w h : Nat) (W : World) (hv : NRow W v (p :: r)) (hr : 1 ≤ r.length) (hr8 : r.length ≤ 8) (w1 : 1 ≤ w) (w80 : w ≤ 80) (_ : 1 ≤ h) (h80 : h ≤ 80) : Calls Try.prog 46 #[v, .int .i64 1, .int .i64 w, .int .i64 h] W (RLay W (halvedT 1 w p (lineT 2 h r))) := by
  have hv0 := hv
  obtain ⟨A, cc, rfl, hcc, hl⟩ := hv
  obtain ⟨g, o1, rfl, hg, hx⟩ := hl (by simp)
  have q0 := hx 0 p rfl
  rw [Nat.add_zero] at q0
  have hsl := slice_one g o1 (p :: r).length cc (by simp; omega) hcc
  have hdr := hv0.drop1
  obtain ⟨n, hn⟩ : ∃ n, (p :: r).length = n := ⟨_, rfl⟩
  have hn2 : 2 ≤ n := by rw [← hn]; simp; omega
  have hn9 : n ≤ 9 := by rw [← hn]; simp; omega
  have hn0 : 0 < n := by omega
  rw [hn] at hsl hdr hcc ⊢
  obtain ⟨nv, hnv⟩ : ∃ nv, Value.slice (some ⟨g, o1 + 1, none⟩) (n - 1) (cc - 1) = nv := ⟨_, rfl⟩
  rw [hnv] at hsl hdr
  have HQ0 := hid q0
  have hn1 : ¬ (n : Int) = 1 := by omega
  obtain ⟨hf2, hhf⟩ : ∃ hf2 : Nat, halfN w = hf2 := ⟨_, rfl⟩
  obtain ⟨m1, hm1⟩ : ∃ m1 : Nat, w - 1 = m1 := ⟨_, rfl⟩
  have hm1i : (w : Int) - 1 = m1 := by omega
  have hdiv : (m1 : Int).tdiv 2 = hf2 := by
    rw [Int.tdiv_eq_ediv_of_nonneg (by omega), ← hhf, ← hm1]
    rfl
  have hhf80 : hf2 ≤ 80 ∧ (1 ≤ hf2 ↔ 2 ≤ m1) ∧ 2 * hf2 ≤ m1 := by unfold halfN at hhf; omega
  have HHF := hid hhf
  have HM1 := hid hm1
  have hwr : IntKind.i64.wrap (hf2 : Int) = hf2 := IntWalk.i64_in _ (by omega)
  have HC := hid (fun X (hb : Below W.heap.size W X) => rline_any2 nv r h hf2 X (hdr.below hb) hr hr8 h80)
  have HX8 := hid (Box.new W 44 #[.int .i64 0, .int .i64 0, .int .i64 0, .slice none 0 0, .bool false])
  have HB8 := hid (below_alloc W (.cells #[.int .i64 0, .int .i64 0, .int .i64 0, .slice none 0 0, .bool false] 44))
  have hne0 : ¬ g = W.heap.size := by omega
  clear hl hx hv0 hdr hhf hn q0 hm1
  go_enter Try.func46, Try.ntmps46
  go_upto_region 9 with ((with_reducible refine (HC.out _ HB8.out).mono ?_); rintro e w2 ⟨hb2, t, kA, kn, kc, b, rfl, ht, hcase⟩)
  have hb8s : (W.alloc (.cells #[.int .i64 0, .int .i64 0, .int .i64 0, .slice none 0 0, .bool false] 44)).heap.size = W.heap.size + 1 := World.size_alloc _ _
  have hb2s := hb2.size
  rw [hb8s] at ht hb2s
  have HY8 := hid ((HX8.out.below hb2 HX8.out.lt).alloc (.cells #[.int .i64 t.kind, .int .i64 t.pane, .int .i64 t.size, .slice kA kn kc, .bool b] 44))
  have HY10 := hid (Box.new w2 44 #[.int .i64 t.kind, .int .i64 t.pane, .int .i64 t.size, .slice kA kn kc, .bool b])
  have hbw := HB8.out.trans (hb2.mono HB8.out.size)
  have HBY := hid (hbw.alloc hbw.size (.cells #[.int .i64 t.kind, .int .i64 t.pane, .int .i64 t.size, .slice kA kn kc, .bool b] 44))
  have hXs : (w2.alloc (.cells #[.int .i64 t.kind, .int .i64 t.pane, .int .i64 t.size, .slice kA kn kc, .bool b] 44)).heap.size = w2.heap.size + 1 := World.size_alloc _ _
  have HTR := hid (ht.into (show Into w2 (w2.alloc (.cells #[.int .i64 t.kind, .int .i64 t.pane, .int .i64 t.size, .slice kA kn kc, .bool b] 44)) (fun c => W.heap.size + 1 ≤ c ∧ c < w2.heap.size) (fun c => W.heap.size + 1 ≤ c ∧ c < (w2.alloc (.cells #[.int .i64 t.kind, .int .i64 t.pane, .int .i64 t.size, .slice kA kn kc, .bool b] 44)).heap.size ∧ c ≠ w2.heap.size) from Into.block fun c ⟨c1, c2⟩ => ⟨⟨c1, by omega, by omega⟩, Below.heap_alloc w2 _ c c2⟩))
  obtain ⟨T10, hT10e⟩ : ∃ T10, w2.heap.size = T10 := ⟨_, rfl⟩
  obtain ⟨X, hXe⟩ : ∃ X, w2.alloc (.cells #[.int .i64 t.kind, .int .i64 t.pane, .int .i64 t.size, .slice kA kn kc, .bool b] 44) = X := ⟨_, rfl⟩
  rw [hXe] at HY8 HY10 HBY hXs HTR ⊢
  rw [hT10e] at HY10 hXs HTR hb2s ⊢
  clear hXe hT10e hb2 ht hbw HC
  have HXS := hid hXs
  clear hXs
  clear HX8 HB8
  obtain ⟨⟨a0, a1, a2, a3, a4⟩, f0, f1x, f2, f3, f4⟩ := HY8.out.five
  obtain ⟨⟨b0, b1, b2, b3, b4⟩, g0, g1, g2, g3, g4⟩ := HY10.out.five
  have hl8 := HY8.out.lt
  have hl10 := HY10.out.lt
  have hnt : ¬ T10 = W.heap.size := by omega
  have hnt2 : ¬ W.heap.size = T10 := by omega
  have zero : ∀ (Z : World), Box Z W.heap.size 44 #[.int .i64 0, .int .i64 0, .int .i64 0, .slice none 0 0, .bool false] → Below W.heap.size W Z → halvedT 1 w p (lineT 2 h r) = none → RLay W (halvedT 1 w p (lineT 2 h r)) (.returned (.agg #[.int .i64 0, .int .i64 0, .int .i64 0, .slice none 0 0, .bool false])) Z := fun Z _ hb e => ⟨hb, .mk 0 0 0 [], none, 0, 0, false, rfl, by unfold TrB; exact ⟨none, 0, rfl, Nat.le_refl _, fun h => absurd rfl h⟩, .inl ⟨e, rfl⟩⟩
  have ZERO := hid zero
  clear zero
  by_cases hh : hf2 < 1
  · have HR : Hid (halvedT 1 w p (lineT 2 h r) = none) := by
      unfold Hid halvedT
      split
      · rfl
      · rw [HHF.out, if_pos hh]
    have d1 : decide ((m1 : Int) < 2) = true := decide_eq_true (by omega)
    clear hh hcase
    go_wp2
    have hz := five_cells HY8.out rfl (.int .i64 0) (.int .i64 0) (.int .i64 0) (.slice none 0 0) (.bool false)
    have d0 := hz.cell 0
    have d1 := hz.cell 1
    have d2 := hz.cell 2
    have d3 := hz.cell 3
    have d4 := hz.cell 4
    exact bodyPost_ret (v := .agg #[.int .i64 0, .int .i64 0, .int .i64 0, .slice none 0 0, .bool false]) (by simp [results, Try.f46, go_sem, d0, d1, d2, d3, d4]) rfl (ZERO.out _ hz (below_set5 HBY.out (Nat.le_refl _)) HR.out)
  · have d1 : decide ((m1 : Int) < 2) = false := decide_eq_false (by omega)
    rcases hcase with ⟨hno, rfl⟩ | ⟨hyes, rfl⟩
    · have HR : Hid (halvedT 1 w p (lineT 2 h r) = none) := by unfold Hid halvedT; rw [hno]
      clear hno hh
      go_wp2
      have hz := five_cells HY8.out rfl (.int .i64 0) (.int .i64 0) (.int .i64 0) (.slice none 0 0) (.bool false)
      have d0 := hz.cell 0
      have d1 := hz.cell 1
      have d2 := hz.cell 2
      have d3 := hz.cell 3
      have d4 := hz.cell 4
      exact bodyPost_ret (v := .agg #[.int .i64 0, .int .i64 0, .int .i64 0, .slice none 0 0, .bool false]) (by simp [results, Try.f46, go_sem, d0, d1, d2, d3, d4]) rfl (ZERO.out _ hz (below_set5 HBY.out (Nat.le_refl _)) HR.out)
    · obtain ⟨f1, hf1⟩ : ∃ f1 : Nat, w - 1 - hf2 = f1 := ⟨_, rfl⟩
      have HR : Hid (halvedT 1 w p (lineT 2 h r) = some (.mk 1 0 0 [leafP p (f1 : Int), t.sized hf2])) := by unfold Hid halvedT; rw [hyes]; simp only; rw [HHF.out, if_neg hh, hf1]
      have hf1i : (m1 : Int) - hf2 = f1 := by have := HM1.out; omega
      have hwf : IntKind.i64.wrap (f1 : Int) = f1 := IntWalk.i64_in _ (by omega)
      have hT10 := HY10.out.set (i := 2) (.int .i64 (hf2 : Int))
      simp only [List.setIfInBounds_toArray, List.set_cons_zero, List.set_cons_succ] at hT10
      have HT10 := hid hT10
      have HY8b := hid (HY8.out.other (b' := T10) (i := 2) hnt2 (.int .i64 (hf2 : Int)))
      have HBYb := hid (below_set HBY.out (show W.heap.size ≤ T10 by omega) (i := 2) (.int .i64 (hf2 : Int)))
      have HTRb := hid (HTR.out.into (show Into X (X.setCell ⟨T10, 2, none⟩ (.int .i64 (hf2 : Int))) (fun c => W.heap.size + 1 ≤ c ∧ c < X.heap.size ∧ c ≠ T10) (fun c => W.heap.size + 1 ≤ c ∧ c < X.heap.size) from Into.block fun c ⟨c1, c2, c3⟩ => ⟨⟨c1, c2⟩, Below.heap_setCell X ⟨T10, 2, none⟩ _ c c3⟩))
      clear hyes hh hf1 hT10 ZERO
      go_upto_region 12 with fail
      obtain ⟨Y, hYe⟩ : ∃ Y, X.setCell ⟨T10, 2, none⟩ (.int .i64 (hf2 : Int)) = Y := ⟨_, rfl⟩
      have HYS := hid (show Y.heap.size = X.heap.size by rw [← hYe, size_set])
      rw [hYe] at HT10 HY8b HBYb HTRb ⊢
      clear a0 a1 a2 a3 a4 f0 f1x f2 f3 f4 b0 b1 b2 b3 b4 g0 g1 g2 g3 g4 HY8 hYe HBY HTR HY10 hl8
      have HY8 := hid (HY8b.out.alloc (.cells #[.int .i64 0, .int .i64 p, .int .i64 (f1 : Int), .slice none 0 0, .int .i64 t.kind, .int .i64 t.pane, .int .i64 (hf2 : Int), .slice kA kn kc] 24)).drewH
      have hp0 : Y.cell? ⟨g, o1, none⟩ = some (.int .i64 p) := (HBYb.out.cell (p := ⟨g, o1, none⟩) hg).trans HQ0.out
      have HPC0 : Hid (Y.drew.cell? ⟨g, o1, none⟩ = some (.int .i64 p)) := hp0
      have hgY : g < Y.heap.size := Nat.lt_of_lt_of_le hg HBYb.out.size
      have hal := below_alloc Y (.cells #[.int .i64 0, .int .i64 p, .int .i64 (f1 : Int), .slice none 0 0, .int .i64 t.kind, .int .i64 t.pane, .int .i64 (hf2 : Int), .slice kA kn kc] 24)
      have hald : Below Y.heap.size Y (Y.alloc (.cells #[.int .i64 0, .int .i64 p, .int .i64 (f1 : Int), .slice none 0 0, .int .i64 t.kind, .int .i64 t.pane, .int .i64 (hf2 : Int), .slice kA kn kc] 24)).drew := hal.trans ((below_drew _ 1).mono hal.size)
      have HPC := hid ((hald.cell (p := ⟨g, o1, none⟩) hgY).trans hp0)
      have HAL := hid hald
      clear hal hald hp0
      have hS0 : Y.drew.cell? ⟨g, o1, none⟩ = some (.int .i64 p) ∧ Box Y.drew T10 44 #[.int .i64 t.kind, .int .i64 t.pane, .int .i64 (hf2 : Int), .slice kA kn kc, .bool true] := ⟨HPC0.out, HT10.out.drew⟩
      refine wp_region_S (OneS 14 (fun w' => w'.cell? ⟨g, o1, none⟩ = some (.int .i64 p) ∧ Box w' T10 44 #[.int .i64 t.kind, .int .i64 t.pane, .int .i64 (hf2 : Int), .slice kA kn kc, .bool true])) (by kernel_rfl) ?_
      refine takeN (k := 14) (i := 0) (v := ?v0a) 55 rfl rfl (by kernel_rfl) (by kernel_rfl) (by kernel_rfl) (by kernel_rfl) (by decide) (fun _ _ _ h => h) (Or.inl ⟨by rfl, fun w' _ => ?hy0a⟩) (fun _ => hS0) ?rest0a
      case hy0a => go_simp; try with_reducible rfl
      try simp only [Act.put, List.setIfInBounds_toArray, List.set_cons_zero, List.set_cons_succ]
      refine takeN (k := 14) (i := 1) (v := ?v1a) 56 rfl rfl (by kernel_rfl) (by kernel_rfl) (by kernel_rfl) (by kernel_rfl) (by decide) (fun _ _ _ h => h) (Or.inl ⟨by rfl, fun w' _ => ?hy1a⟩) (fun _ => hS0) ?rest1a
      case hy1a => go_simp; try with_reducible rfl
      try simp only [Act.put, List.setIfInBounds_toArray, List.set_cons_zero, List.set_cons_succ]
      refine takeN (k := 14) (i := 2) (v := ?v2a) 57 rfl rfl (by kernel_rfl) (by kernel_rfl) (by kernel_rfl) (by kernel_rfl) (by decide) (fun _ _ _ h => h) (Or.inl ⟨by rfl, fun w' _ => ?hy2a⟩) (fun _ => hS0) ?rest2a
      case hy2a => go_simp; try with_reducible rfl
      try simp only [Act.put, List.setIfInBounds_toArray, List.set_cons_zero, List.set_cons_succ]
      refine takeG (k := 14) (i := 3) (v := ?v3a) 58 rfl rfl (by kernel_rfl) (by kernel_rfl) (by kernel_rfl) (by kernel_rfl) (by decide) (by kernel_rfl) (fun _ _ _ h => h) (Or.inl ⟨by rfl, fun w' hw' => ?hy3a⟩) (fun _ => hS0) ?rest3a
      case hy3a => have q1 := hw'.1; go_simp; try with_reducible rfl
      try simp only [Act.put, List.setIfInBounds_toArray, List.set_cons_zero, List.set_cons_succ]
      refine takeN (k := 14) (i := 4) (v := ?v4a) 59 rfl rfl (by kernel_rfl) (by kernel_rfl) (by kernel_rfl) (by kernel_rfl) (by decide) (fun _ _ _ h => h) (Or.inl ⟨by rfl, fun w' _ => ?hy4a⟩) (fun _ => hS0) ?rest4a
      case hy4a => go_simp; try with_reducible rfl
      try simp only [Act.put, List.setIfInBounds_toArray, List.set_cons_zero, List.set_cons_succ]
      refine takeN (k := 14) (i := 5) (v := ?v5a) 60 rfl rfl (by kernel_rfl) (by kernel_rfl) (by kernel_rfl) (by kernel_rfl) (by decide) (fun _ _ _ h => h) (Or.inl ⟨by rfl, fun w' _ => ?hy5a⟩) (fun _ => hS0) ?rest5a
      case hy5a => go_simp; try with_reducible rfl
      try simp only [Act.put, List.setIfInBounds_toArray, List.set_cons_zero, List.set_cons_succ]
      refine takeN (k := 14) (i := 6) (v := ?v6a) 61 rfl rfl (by kernel_rfl) (by kernel_rfl) (by kernel_rfl) (by kernel_rfl) (by decide) (fun _ _ _ h => h) (Or.inl ⟨by rfl, fun w' _ => ?hy6a⟩) (fun _ => hS0) ?rest6a
      case hy6a => go_simp; try with_reducible rfl
      try simp only [Act.put, List.setIfInBounds_toArray, List.set_cons_zero, List.set_cons_succ]
      refine takeN (k := 14) (i := 7) (v := ?v7a) 62 rfl rfl (by kernel_rfl) (by kernel_rfl) (by kernel_rfl) (by kernel_rfl) (by decide) (fun _ _ _ h => h) (Or.inl ⟨by rfl, fun w' _ => ?hy7a⟩) (fun _ => hS0) ?rest7a
      case hy7a => go_simp; try with_reducible rfl
      try simp only [Act.put, List.setIfInBounds_toArray, List.set_cons_zero, List.set_cons_succ]
      refine takeN (k := 14) (i := 8) (v := ?v8a) 63 rfl rfl (by kernel_rfl) (by kernel_rfl) (by kernel_rfl) (by kernel_rfl) (by decide) (fun _ _ _ h => h) (Or.inl ⟨by rfl, fun w' _ => ?hy8a⟩) (fun _ => hS0) ?rest8a
      case hy8a => go_simp; try with_reducible rfl
      try simp only [Act.put, List.setIfInBounds_toArray, List.set_cons_zero, List.set_cons_succ]
      refine takeN (k := 14) (i := 9) (v := ?v9a) 64 rfl rfl (by kernel_rfl) (by kernel_rfl) (by kernel_rfl) (by kernel_rfl) (by decide) (fun _ _ _ h => h) (Or.inl ⟨by rfl, fun w' _ => ?hy9a⟩) (fun _ => hS0) ?rest9a
      case hy9a => go_simp; try with_reducible rfl
      try simp only [Act.put, List.setIfInBounds_toArray, List.set_cons_zero, List.set_cons_succ]
      refine takeG (k := 14) (i := 10) (v := ?v10a) 65 rfl rfl (by kernel_rfl) (by kernel_rfl) (by kernel_rfl) (by kernel_rfl) (by decide) (by kernel_rfl) (fun _ _ _ h => h) (Or.inl ⟨by rfl, fun w' hw' => ?hy10a⟩) (fun _ => hS0) ?rest10a
      case hy10a => obtain ⟨⟨x0, x1, x2, x3, _⟩, _⟩ := hw'.2.five; go_simp; try with_reducible rfl
      try simp only [Act.put, List.setIfInBounds_toArray, List.set_cons_zero, List.set_cons_succ]
      refine oneS (k := 11) (by kernel_rfl) rfl (by rfl) (fun K hK => ?_)
      go_simp
      have hS1 : (Y.alloc (.cells #[.int .i64 0, .int .i64 p, .int .i64 (f1 : Int), .slice none 0 0, .int .i64 t.kind, .int .i64 t.pane, .int .i64 (hf2 : Int), .slice kA kn kc] 24)).drew.cell? ⟨g, o1, none⟩ = some (.int .i64 p) ∧ Box (Y.alloc (.cells #[.int .i64 0, .int .i64 p, .int .i64 (f1 : Int), .slice none 0 0, .int .i64 t.kind, .int .i64 t.pane, .int .i64 (hf2 : Int), .slice kA kn kc] 24)).drew T10 44 #[.int .i64 t.kind, .int .i64 t.pane, .int .i64 (hf2 : Int), .slice kA kn kc, .bool true] := ⟨HPC.out, (HT10.out.alloc _).drew⟩
      refine hK _ _ (fun _ => hS1) ?_
      clear hK K
      try simp only [Act.put, List.setIfInBounds_toArray, List.set_cons_zero, List.set_cons_succ]
      clear hS0
      have hS0 := hS1
      clear hS1
      obtain ⟨⟨a0, a1, a2, a3, a4⟩, f0, f1x, f2, f3, f4⟩ := HY8b.out.five
      have hl8 := HY8b.out.lt
      refine takeN (k := 14) (i := 12) (v := ?v12a) 67 rfl rfl (by kernel_rfl) (by kernel_rfl) (by kernel_rfl) (by kernel_rfl) (by decide) (fun _ _ _ h => h) (Or.inl ⟨by rfl, fun w' _ => ?hy12a⟩) (fun _ => hS0) ?rest12a
      case hy12a => go_simp; try with_reducible rfl
      try simp only [Act.put, List.setIfInBounds_toArray, List.set_cons_zero, List.set_cons_succ]
      refine takeN (k := 14) (i := 13) (v := ?v13a) 68 rfl rfl (by kernel_rfl) (by kernel_rfl) (by kernel_rfl) (by kernel_rfl) (by decide) (fun _ _ _ h => h) (Or.inl ⟨by rfl, fun w' _ => ?hy13a⟩) (fun _ => hS0) ?rest13a
      case hy13a => go_simp; try with_reducible rfl
      try simp only [Act.put, List.setIfInBounds_toArray, List.set_cons_zero, List.set_cons_succ]
      refine oneS (k := 14) (by kernel_rfl) rfl (by rfl) (fun K hK => ?_)
      go_simp
      refine hK _ _ (fun h => (by simp at h)) ?_
      clear hK K
      try simp only [Act.put]
      refine doneS (by kernel_rfl) ?_ _
      go_wp2
      have hz8 := five_cells HY8b.out rfl (.int .i64 1) (.int .i64 0) (.int .i64 0) (.slice (some ⟨Y.heap.size, 0, none⟩) 2 2) (.bool true)
      have hbZ := below_set5 (x := .int .i64 1) (y := .int .i64 0) (z := .int .i64 0) (u := .slice (some ⟨Y.heap.size, 0, none⟩) 2 2) (v := .bool true) HBYb.out (Nat.le_refl _)
      obtain ⟨Z, hZ⟩ : ∃ Z, ((((Y.setCell ⟨W.heap.size, 0, none⟩ (.int .i64 1)).setCell ⟨W.heap.size, 1, none⟩ (.int .i64 0)).setCell ⟨W.heap.size, 2, none⟩ (.int .i64 0)).setCell ⟨W.heap.size, 3, none⟩ (.slice (some ⟨Y.heap.size, 0, none⟩) 2 2)).setCell ⟨W.heap.size, 4, none⟩ (.bool true) = Z := ⟨_, rfl⟩
      have hzsz : Z.heap.size = Y.heap.size := by rw [← hZ]; simp only [size_set]
      have hzin : ∀ b, W.heap.size + 1 ≤ b → Z.heap[b]? = Y.heap[b]? := fun b h1 => by
        rw [← hZ, Below.heap_setCell _ _ _ b (show b ≠ W.heap.size by omega), Below.heap_setCell _ _ _ b (show b ≠ W.heap.size by omega), Below.heap_setCell _ _ _ b (show b ≠ W.heap.size by omega), Below.heap_setCell _ _ _ b (show b ≠ W.heap.size by omega), Below.heap_setCell _ _ _ b (show b ≠ W.heap.size by omega)]
      rw [hZ] at hz8 hbZ ⊢
      obtain ⟨G, hG⟩ : ∃ G, Y.heap.size = G := ⟨_, rfl⟩
      have hYl : W.heap.size < G := by rw [← hG]; exact HY8b.out.lt
      have hTR2 := HTRb.out
      rw [← HYS.out, hG] at hTR2
      rw [hG] at hz8 hzsz ⊢
      obtain ⟨L, hL⟩ : ∃ L : List (Tr × Value), L = [(leafP p f1, .slice none 0 0), (t.sized hf2, .slice kA kn kc)] := ⟨_, rfl⟩
      have hLa : (tflat L).toArray = #[.int .i64 0, .int .i64 p, .int .i64 (f1 : Int), .slice none 0 0, .int .i64 t.kind, .int .i64 t.pane, .int .i64 (hf2 : Int), .slice kA kn kc] := by rw [hL]; rfl
      rw [← hLa]
      have hw8 : Box (Z.alloc (.cells (tflat L).toArray 24)).drew W.heap.size 44 #[.int .i64 1, .int .i64 0, .int .i64 0, .slice (some ⟨G, 0, none⟩) 2 2, .bool true] := (hz8.alloc _).drew
      have hrow : Box (Z.alloc (.cells (tflat L).toArray 24)).drew G 24 (tflat L).toArray := by
        have := (Box.new Z 24 (tflat L).toArray).drew
        rwa [hzsz] at this
      have hds : (Z.alloc (.cells (tflat L).toArray 24)).drew.heap.size = G + 1 := (World.size_alloc _ _).trans (by rw [hzsz])
      have hbF : Below W.heap.size W (Z.alloc (.cells (tflat L).toArray 24)).drew := (hbZ.alloc hbZ.size _).trans ((below_drew _ 1).mono (by rw [World.size_alloc, hzsz]; omega))
      have hin : ∀ b, W.heap.size + 1 ≤ b → b < G → (Z.alloc (.cells (tflat L).toArray 24)).drew.heap[b]? = Y.heap[b]? := fun b h1 h2 => (Below.heap_alloc Z _ b (by omega)).trans (hzin b h1)
      obtain ⟨F, hFe⟩ : ∃ F, (Z.alloc (.cells (tflat L).toArray 24)).drew = F := ⟨_, rfl⟩
      rw [hFe] at hw8 hrow hds hbF hin ⊢
      have d0 := hw8.cell 0
      have d1 := hw8.cell 1
      have d2 := hw8.cell 2
      have d3 := hw8.cell 3
      have d4 := hw8.cell 4
      have htr : TrB F (fun b => W.heap.size ≤ b ∧ b < F.heap.size) (.mk 1 0 0 (L.map Prod.fst)) (.slice (some ⟨G, 0, none⟩) 2 2) := by
        unfold TrB
        refine ⟨_, 2, by rw [hL]; rfl, by rw [hL]; exact Nat.le_refl _, fun _ => ⟨G, 0, rfl, ⟨by omega, by omega⟩, TrsB.of L 0 (fun j e i u hj hu => ?_) fun e he => ?_⟩⟩
        · rw [Nat.zero_add, hrow.cell (j * 4 + i)]
          have := tflat_at L j e i u hj hu
          simpa using this
        · rw [hL] at he
          rcases List.mem_cons.1 he with rfl | he
          · exact TrB.leaf _ _ _ _
          · obtain rfl := List.mem_singleton.1 he
            exact (hTR2.sized hf2).into (Into.block fun b ⟨b1, b2⟩ => ⟨⟨by omega, by omega⟩, hin b b1 b2⟩)
      have hLm : L.map Prod.fst = [leafP p f1, t.sized hf2] := by rw [hL]; rfl
      rw [hLm] at htr
      exact bodyPost_ret (v := .agg #[.int .i64 1, .int .i64 0, .int .i64 0, .slice (some ⟨G, 0, none⟩) 2 2, .bool true]) (by simp [results, Try.f46, go_sem, d0, d1, d2, d3, d4]) rfl ⟨hbF, .mk 1 0 0 [leafP p f1, t.sized hf2], _, 2, 2, true, rfl, htr, .inr ⟨HR.out, rfl⟩⟩
set_option maxRecDepth 100000 in
set_option maxHeartbeats 8000000 in
theorem rmain_above (v : Value) (p : Int) (r : List Int) (w h : Nat) (W : World) (hv : NRow W v (p :: r)) (hr : 1 ≤ r.length) (hr8 : r.length ≤ 8) (_ : 1 ≤ w) (w80 : w ≤ 80) (h1 : 1 ≤ h) (h80 : h ≤ 80) : Calls Try.prog 46 #[v, .int .i64 2, .int .i64 w, .int .i64 h] W (RLay W (halvedT 2 h p (lineT 1 w r))) := by
  have hv0 := hv
  obtain ⟨A, cc, rfl, hcc, hl⟩ := hv
  obtain ⟨g, o1, rfl, hg, hx⟩ := hl (by simp)
  have q0 := hx 0 p rfl
  rw [Nat.add_zero] at q0
  have hsl := slice_one g o1 (p :: r).length cc (by simp; omega) hcc
  have hdr := hv0.drop1
  obtain ⟨n, hn⟩ : ∃ n, (p :: r).length = n := ⟨_, rfl⟩
  have hn2 : 2 ≤ n := by rw [← hn]; simp; omega
  have hn9 : n ≤ 9 := by rw [← hn]; simp; omega
  have hn0 : 0 < n := by omega
  rw [hn] at hsl hdr hcc ⊢
  obtain ⟨nv, hnv⟩ : ∃ nv, Value.slice (some ⟨g, o1 + 1, none⟩) (n - 1) (cc - 1) = nv := ⟨_, rfl⟩
  rw [hnv] at hsl hdr
  have HQ0 := hid q0
  have hn1 : ¬ (n : Int) = 1 := by omega
  obtain ⟨hf2, hhf⟩ : ∃ hf2 : Nat, halfN h = hf2 := ⟨_, rfl⟩
  obtain ⟨m1, hm1⟩ : ∃ m1 : Nat, h - 1 = m1 := ⟨_, rfl⟩
  have hm1i : (h : Int) - 1 = m1 := by omega
  have hdiv : (m1 : Int).tdiv 2 = hf2 := by
    rw [Int.tdiv_eq_ediv_of_nonneg (by omega), ← hhf, ← hm1]
    rfl
  have hhf80 : hf2 ≤ 80 ∧ (1 ≤ hf2 ↔ 2 ≤ m1) ∧ 2 * hf2 ≤ m1 := by unfold halfN at hhf; omega
  have HHF := hid hhf
  have HM1 := hid hm1
  have hwr : IntKind.i64.wrap (hf2 : Int) = hf2 := IntWalk.i64_in _ (by omega)
  have HC1 := hid (fun X (hb : Below W.heap.size W X) => rline_any1 nv r hf2 h X (hdr.below hb) hr hr8 (by omega))
  have HC2 := hid (fun X (hb : Below W.heap.size W X) => rline_any1 nv r w hf2 X (hdr.below hb) hr hr8 w80)
  have HX8 := hid (Box.new W 44 #[.int .i64 0, .int .i64 0, .int .i64 0, .slice none 0 0, .bool false])
  have HB8 := hid (below_alloc W (.cells #[.int .i64 0, .int .i64 0, .int .i64 0, .slice none 0 0, .bool false] 44))
  have hne0 : ¬ g = W.heap.size := by omega
  clear hl hx hv0 hdr hhf hn q0 hm1
  go_enter Try.func46, Try.ntmps46
  go_upto_region 9 with (first | ((with_reducible refine (HC1.out _ HB8.out).mono ?_); rintro e w2 ⟨hb2, ta, kAa, kna, kca, ba, rfl, hta, _⟩; have HY8 := hid ((HX8.out.below hb2 HX8.out.lt).alloc (.cells #[.int .i64 ta.kind, .int .i64 ta.pane, .int .i64 ta.size, .slice kAa kna kca, .bool ba] 44)); have HY10 := hid (Box.new w2 44 #[.int .i64 ta.kind, .int .i64 ta.pane, .int .i64 ta.size, .slice kAa kna kca, .bool ba]); have hbw := HB8.out.trans (hb2.mono HB8.out.size); have hb8s : (W.alloc (.cells #[.int .i64 0, .int .i64 0, .int .i64 0, .slice none 0 0, .bool false] 44)).heap.size = W.heap.size + 1 := World.size_alloc _ _; have hb2s := hb2.size; have HBY := hid (hbw.alloc hbw.size (.cells #[.int .i64 ta.kind, .int .i64 ta.pane, .int .i64 ta.size, .slice kAa kna kca, .bool ba] 44))) | ((with_reducible refine (HC2.out _ HBY.out).mono ?_); rintro e w3 ⟨hb3, t, kA, kn, kc, b, rfl, ht, hcase⟩; have hy8 := HY8.out.below hb3 HY8.out.lt; have hy10 := HY10.out.below hb3 HY10.out.lt; obtain ⟨⟨b0, b1, b2, b3, b4⟩, g0, g1, g2, g3, g4⟩ := hy10.five; have hl10 := hy10.lt))
  have hXs : (w2.alloc (.cells #[.int .i64 ta.kind, .int .i64 ta.pane, .int .i64 ta.size, .slice kAa kna kca, .bool ba] 44)).heap.size = w2.heap.size + 1 := World.size_alloc _ _
  rw [hXs] at ht
  rw [hb8s] at hb2s
  have hb3s := hb3.size
  rw [hXs] at hb3s
  have hz10 := five_cells hy10 rfl (.int .i64 t.kind) (.int .i64 t.pane) (.int .i64 t.size) (.slice kA kn kc) (.bool b)
  have hz8 := ((((hy8.other (b' := w2.heap.size) (i := 0) (by omega) (.int .i64 t.kind)).other (b' := w2.heap.size) (i := 1) (by omega) (.int .i64 t.pane)).other (b' := w2.heap.size) (i := 2) (by omega) (.int .i64 t.size)).other (b' := w2.heap.size) (i := 3) (by omega) (.slice kA kn kc)).other (b' := w2.heap.size) (i := 4) (by omega) (.bool b)
  have hbz := below_set5 (x := .int .i64 t.kind) (y := .int .i64 t.pane) (z := .int .i64 t.size) (u := .slice kA kn kc) (v := .bool b) (HBY.out.trans (hb3.mono HBY.out.size)) (show W.heap.size ≤ w2.heap.size by omega)
  have htz := ht.into (five_into (x := .int .i64 t.kind) (y := .int .i64 t.pane) (z := .int .i64 t.size) (u := .slice kA kn kc) (v := .bool b) (Nat.le_refl _) (fun c h1 _ => (by omega : c ≠ w2.heap.size)) (w2.heap.size + 1) (Nat.le_refl _))
  obtain ⟨T10, hT10e⟩ : ∃ T10, w2.heap.size = T10 := ⟨_, rfl⟩
  rw [hT10e] at hz10 hz8 hbz htz hb2s hb3s ⊢
  obtain ⟨X, hXe⟩ : ∃ X, ((((w3.setCell ⟨T10, 0, none⟩ (.int .i64 t.kind)).setCell ⟨T10, 1, none⟩ (.int .i64 t.pane)).setCell ⟨T10, 2, none⟩ (.int .i64 t.size)).setCell ⟨T10, 3, none⟩ (.slice kA kn kc)).setCell ⟨T10, 4, none⟩ (.bool b) = X := ⟨_, rfl⟩
  rw [hXe] at hz10 hz8 hbz htz ⊢
  have HTR := hid (htz.into (show Into X X (fun c => T10 + 1 ≤ c ∧ c < X.heap.size) (fun c => W.heap.size + 1 ≤ c ∧ c < X.heap.size ∧ c ≠ T10) from Into.block fun c ⟨c1, c2⟩ => ⟨⟨by omega, c2, by omega⟩, rfl⟩))
  clear HY8 HY10 HBY b0 b1 b2 b3 b4 g0 g1 g2 g3 g4
  have HY8 := hid hz8
  have HY10 := hid hz10
  have HBY := hid hbz
  clear hXe hT10e hb2 hb3 ht hta htz hz8 hz10 hbz hbw HC1 HC2 hy8 hy10 hXs
  clear HX8 HB8
  obtain ⟨⟨a0, a1, a2, a3, a4⟩, f0, f1x, f2, f3, f4⟩ := HY8.out.five
  obtain ⟨⟨b0, b1, b2, b3, b4⟩, g0, g1, g2, g3, g4⟩ := HY10.out.five
  have hl8 := HY8.out.lt
  have hl10 := HY10.out.lt
  have hnt : ¬ T10 = W.heap.size := by omega
  have hnt2 : ¬ W.heap.size = T10 := by omega
  have zero : ∀ (Z : World), Box Z W.heap.size 44 #[.int .i64 0, .int .i64 0, .int .i64 0, .slice none 0 0, .bool false] → Below W.heap.size W Z → halvedT 2 h p (lineT 1 w r) = none → RLay W (halvedT 2 h p (lineT 1 w r)) (.returned (.agg #[.int .i64 0, .int .i64 0, .int .i64 0, .slice none 0 0, .bool false])) Z := fun Z _ hb e => ⟨hb, .mk 0 0 0 [], none, 0, 0, false, rfl, by unfold TrB; exact ⟨none, 0, rfl, Nat.le_refl _, fun h => absurd rfl h⟩, .inl ⟨e, rfl⟩⟩
  have ZERO := hid zero
  clear zero
  by_cases hh : hf2 < 1
  · have HR : Hid (halvedT 2 h p (lineT 1 w r) = none) := by
      unfold Hid halvedT
      split
      · rfl
      · rw [HHF.out, if_pos hh]
    have d1 : decide ((m1 : Int) < 2) = true := decide_eq_true (by omega)
    clear hh hcase
    go_wp2
    have hz := five_cells HY8.out rfl (.int .i64 0) (.int .i64 0) (.int .i64 0) (.slice none 0 0) (.bool false)
    have d0 := hz.cell 0
    have d1 := hz.cell 1
    have d2 := hz.cell 2
    have d3 := hz.cell 3
    have d4 := hz.cell 4
    exact bodyPost_ret (v := .agg #[.int .i64 0, .int .i64 0, .int .i64 0, .slice none 0 0, .bool false]) (by simp [results, Try.f46, go_sem, d0, d1, d2, d3, d4]) rfl (ZERO.out _ hz (below_set5 HBY.out (Nat.le_refl _)) HR.out)
  · have d1 : decide ((m1 : Int) < 2) = false := decide_eq_false (by omega)
    rcases hcase with ⟨hno, rfl⟩ | ⟨hyes, rfl⟩
    · have HR : Hid (halvedT 2 h p (lineT 1 w r) = none) := by unfold Hid halvedT; rw [hno]
      clear hno hh
      go_wp2
      have hz := five_cells HY8.out rfl (.int .i64 0) (.int .i64 0) (.int .i64 0) (.slice none 0 0) (.bool false)
      have d0 := hz.cell 0
      have d1 := hz.cell 1
      have d2 := hz.cell 2
      have d3 := hz.cell 3
      have d4 := hz.cell 4
      exact bodyPost_ret (v := .agg #[.int .i64 0, .int .i64 0, .int .i64 0, .slice none 0 0, .bool false]) (by simp [results, Try.f46, go_sem, d0, d1, d2, d3, d4]) rfl (ZERO.out _ hz (below_set5 HBY.out (Nat.le_refl _)) HR.out)
    · obtain ⟨f1, hf1⟩ : ∃ f1 : Nat, h - 1 - hf2 = f1 := ⟨_, rfl⟩
      have HR : Hid (halvedT 2 h p (lineT 1 w r) = some (.mk 2 0 0 [leafP p (f1 : Int), t.sized hf2])) := by unfold Hid halvedT; rw [hyes]; simp only; rw [HHF.out, if_neg hh, hf1]
      have hf1i : (m1 : Int) - hf2 = f1 := by have := HM1.out; omega
      have hwf : IntKind.i64.wrap (f1 : Int) = f1 := IntWalk.i64_in _ (by omega)
      have hT10 := HY10.out.set (i := 2) (.int .i64 (hf2 : Int))
      simp only [List.setIfInBounds_toArray, List.set_cons_zero, List.set_cons_succ] at hT10
      have HT10 := hid hT10
      have HY8b := hid (HY8.out.other (b' := T10) (i := 2) hnt2 (.int .i64 (hf2 : Int)))
      have HBYb := hid (below_set HBY.out (show W.heap.size ≤ T10 by omega) (i := 2) (.int .i64 (hf2 : Int)))
      have HTRb := hid (HTR.out.into (show Into X (X.setCell ⟨T10, 2, none⟩ (.int .i64 (hf2 : Int))) (fun c => W.heap.size + 1 ≤ c ∧ c < X.heap.size ∧ c ≠ T10) (fun c => W.heap.size + 1 ≤ c ∧ c < X.heap.size) from Into.block fun c ⟨c1, c2, c3⟩ => ⟨⟨c1, c2⟩, Below.heap_setCell X ⟨T10, 2, none⟩ _ c c3⟩))
      clear hyes hh hf1 hT10 ZERO
      go_upto_region 12 with fail
      obtain ⟨Y, hYe⟩ : ∃ Y, X.setCell ⟨T10, 2, none⟩ (.int .i64 (hf2 : Int)) = Y := ⟨_, rfl⟩
      have HYS := hid (show Y.heap.size = X.heap.size by rw [← hYe, size_set])
      rw [hYe] at HT10 HY8b HBYb HTRb ⊢
      clear a0 a1 a2 a3 a4 f0 f1x f2 f3 f4 b0 b1 b2 b3 b4 g0 g1 g2 g3 g4 HY8 hYe HBY HTR HY10 hl8
      have HY8 := hid (HY8b.out.alloc (.cells #[.int .i64 0, .int .i64 p, .int .i64 (f1 : Int), .slice none 0 0, .int .i64 t.kind, .int .i64 t.pane, .int .i64 (hf2 : Int), .slice kA kn kc] 24)).drewH
      have hp0 : Y.cell? ⟨g, o1, none⟩ = some (.int .i64 p) := (HBYb.out.cell (p := ⟨g, o1, none⟩) hg).trans HQ0.out
      have HPC0 : Hid (Y.drew.cell? ⟨g, o1, none⟩ = some (.int .i64 p)) := hp0
      have hgY : g < Y.heap.size := Nat.lt_of_lt_of_le hg HBYb.out.size
      have hal := below_alloc Y (.cells #[.int .i64 0, .int .i64 p, .int .i64 (f1 : Int), .slice none 0 0, .int .i64 t.kind, .int .i64 t.pane, .int .i64 (hf2 : Int), .slice kA kn kc] 24)
      have hald : Below Y.heap.size Y (Y.alloc (.cells #[.int .i64 0, .int .i64 p, .int .i64 (f1 : Int), .slice none 0 0, .int .i64 t.kind, .int .i64 t.pane, .int .i64 (hf2 : Int), .slice kA kn kc] 24)).drew := hal.trans ((below_drew _ 1).mono hal.size)
      have HPC := hid ((hald.cell (p := ⟨g, o1, none⟩) hgY).trans hp0)
      have HAL := hid hald
      clear hal hald hp0
      have hS0 : Y.drew.cell? ⟨g, o1, none⟩ = some (.int .i64 p) ∧ Box Y.drew T10 44 #[.int .i64 t.kind, .int .i64 t.pane, .int .i64 (hf2 : Int), .slice kA kn kc, .bool true] := ⟨HPC0.out, HT10.out.drew⟩
      refine wp_region_S (OneS 14 (fun w' => w'.cell? ⟨g, o1, none⟩ = some (.int .i64 p) ∧ Box w' T10 44 #[.int .i64 t.kind, .int .i64 t.pane, .int .i64 (hf2 : Int), .slice kA kn kc, .bool true])) (by kernel_rfl) ?_
      refine takeN (k := 14) (i := 0) (v := ?v0b) 55 rfl rfl (by kernel_rfl) (by kernel_rfl) (by kernel_rfl) (by kernel_rfl) (by decide) (fun _ _ _ h => h) (Or.inl ⟨by rfl, fun w' _ => ?hy0b⟩) (fun _ => hS0) ?rest0b
      case hy0b => go_simp; try with_reducible rfl
      try simp only [Act.put, List.setIfInBounds_toArray, List.set_cons_zero, List.set_cons_succ]
      refine takeN (k := 14) (i := 1) (v := ?v1b) 56 rfl rfl (by kernel_rfl) (by kernel_rfl) (by kernel_rfl) (by kernel_rfl) (by decide) (fun _ _ _ h => h) (Or.inl ⟨by rfl, fun w' _ => ?hy1b⟩) (fun _ => hS0) ?rest1b
      case hy1b => go_simp; try with_reducible rfl
      try simp only [Act.put, List.setIfInBounds_toArray, List.set_cons_zero, List.set_cons_succ]
      refine takeN (k := 14) (i := 2) (v := ?v2b) 57 rfl rfl (by kernel_rfl) (by kernel_rfl) (by kernel_rfl) (by kernel_rfl) (by decide) (fun _ _ _ h => h) (Or.inl ⟨by rfl, fun w' _ => ?hy2b⟩) (fun _ => hS0) ?rest2b
      case hy2b => go_simp; try with_reducible rfl
      try simp only [Act.put, List.setIfInBounds_toArray, List.set_cons_zero, List.set_cons_succ]
      refine takeG (k := 14) (i := 3) (v := ?v3b) 58 rfl rfl (by kernel_rfl) (by kernel_rfl) (by kernel_rfl) (by kernel_rfl) (by decide) (by kernel_rfl) (fun _ _ _ h => h) (Or.inl ⟨by rfl, fun w' hw' => ?hy3b⟩) (fun _ => hS0) ?rest3b
      case hy3b => have q1 := hw'.1; go_simp; try with_reducible rfl
      try simp only [Act.put, List.setIfInBounds_toArray, List.set_cons_zero, List.set_cons_succ]
      refine takeN (k := 14) (i := 4) (v := ?v4b) 59 rfl rfl (by kernel_rfl) (by kernel_rfl) (by kernel_rfl) (by kernel_rfl) (by decide) (fun _ _ _ h => h) (Or.inl ⟨by rfl, fun w' _ => ?hy4b⟩) (fun _ => hS0) ?rest4b
      case hy4b => go_simp; try with_reducible rfl
      try simp only [Act.put, List.setIfInBounds_toArray, List.set_cons_zero, List.set_cons_succ]
      refine takeN (k := 14) (i := 5) (v := ?v5b) 60 rfl rfl (by kernel_rfl) (by kernel_rfl) (by kernel_rfl) (by kernel_rfl) (by decide) (fun _ _ _ h => h) (Or.inl ⟨by rfl, fun w' _ => ?hy5b⟩) (fun _ => hS0) ?rest5b
      case hy5b => go_simp; try with_reducible rfl
      try simp only [Act.put, List.setIfInBounds_toArray, List.set_cons_zero, List.set_cons_succ]
      refine takeN (k := 14) (i := 6) (v := ?v6b) 61 rfl rfl (by kernel_rfl) (by kernel_rfl) (by kernel_rfl) (by kernel_rfl) (by decide) (fun _ _ _ h => h) (Or.inl ⟨by rfl, fun w' _ => ?hy6b⟩) (fun _ => hS0) ?rest6b
      case hy6b => go_simp; try with_reducible rfl
      try simp only [Act.put, List.setIfInBounds_toArray, List.set_cons_zero, List.set_cons_succ]
      refine takeN (k := 14) (i := 7) (v := ?v7b) 62 rfl rfl (by kernel_rfl) (by kernel_rfl) (by kernel_rfl) (by kernel_rfl) (by decide) (fun _ _ _ h => h) (Or.inl ⟨by rfl, fun w' _ => ?hy7b⟩) (fun _ => hS0) ?rest7b
      case hy7b => go_simp; try with_reducible rfl
      try simp only [Act.put, List.setIfInBounds_toArray, List.set_cons_zero, List.set_cons_succ]
      refine takeN (k := 14) (i := 8) (v := ?v8b) 63 rfl rfl (by kernel_rfl) (by kernel_rfl) (by kernel_rfl) (by kernel_rfl) (by decide) (fun _ _ _ h => h) (Or.inl ⟨by rfl, fun w' _ => ?hy8b⟩) (fun _ => hS0) ?rest8b
      case hy8b => go_simp; try with_reducible rfl
      try simp only [Act.put, List.setIfInBounds_toArray, List.set_cons_zero, List.set_cons_succ]
      refine takeN (k := 14) (i := 9) (v := ?v9b) 64 rfl rfl (by kernel_rfl) (by kernel_rfl) (by kernel_rfl) (by kernel_rfl) (by decide) (fun _ _ _ h => h) (Or.inl ⟨by rfl, fun w' _ => ?hy9b⟩) (fun _ => hS0) ?rest9b
      case hy9b => go_simp; try with_reducible rfl
      try simp only [Act.put, List.setIfInBounds_toArray, List.set_cons_zero, List.set_cons_succ]
      refine takeG (k := 14) (i := 10) (v := ?v10b) 65 rfl rfl (by kernel_rfl) (by kernel_rfl) (by kernel_rfl) (by kernel_rfl) (by decide) (by kernel_rfl) (fun _ _ _ h => h) (Or.inl ⟨by rfl, fun w' hw' => ?hy10b⟩) (fun _ => hS0) ?rest10b
      case hy10b => obtain ⟨⟨x0, x1, x2, x3, _⟩, _⟩ := hw'.2.five; go_simp; try with_reducible rfl
      try simp only [Act.put, List.setIfInBounds_toArray, List.set_cons_zero, List.set_cons_succ]
      refine oneS (k := 11) (by kernel_rfl) rfl (by rfl) (fun K hK => ?_)
      go_simp
      have hS1 : (Y.alloc (.cells #[.int .i64 0, .int .i64 p, .int .i64 (f1 : Int), .slice none 0 0, .int .i64 t.kind, .int .i64 t.pane, .int .i64 (hf2 : Int), .slice kA kn kc] 24)).drew.cell? ⟨g, o1, none⟩ = some (.int .i64 p) ∧ Box (Y.alloc (.cells #[.int .i64 0, .int .i64 p, .int .i64 (f1 : Int), .slice none 0 0, .int .i64 t.kind, .int .i64 t.pane, .int .i64 (hf2 : Int), .slice kA kn kc] 24)).drew T10 44 #[.int .i64 t.kind, .int .i64 t.pane, .int .i64 (hf2 : Int), .slice kA kn kc, .bool true] := ⟨HPC.out, (HT10.out.alloc _).drew⟩
      refine hK _ _ (fun _ => hS1) ?_
      clear hK K
      try simp only [Act.put, List.setIfInBounds_toArray, List.set_cons_zero, List.set_cons_succ]
      clear hS0
      have hS0 := hS1
      clear hS1
      obtain ⟨⟨a0, a1, a2, a3, a4⟩, f0, f1x, f2, f3, f4⟩ := HY8b.out.five
      have hl8 := HY8b.out.lt
      refine takeN (k := 14) (i := 12) (v := ?v12b) 67 rfl rfl (by kernel_rfl) (by kernel_rfl) (by kernel_rfl) (by kernel_rfl) (by decide) (fun _ _ _ h => h) (Or.inl ⟨by rfl, fun w' _ => ?hy12b⟩) (fun _ => hS0) ?rest12b
      case hy12b => go_simp; try with_reducible rfl
      try simp only [Act.put, List.setIfInBounds_toArray, List.set_cons_zero, List.set_cons_succ]
      refine takeN (k := 14) (i := 13) (v := ?v13b) 68 rfl rfl (by kernel_rfl) (by kernel_rfl) (by kernel_rfl) (by kernel_rfl) (by decide) (fun _ _ _ h => h) (Or.inl ⟨by rfl, fun w' _ => ?hy13b⟩) (fun _ => hS0) ?rest13b
      case hy13b => go_simp; try with_reducible rfl
      try simp only [Act.put, List.setIfInBounds_toArray, List.set_cons_zero, List.set_cons_succ]
      refine oneS (k := 14) (by kernel_rfl) rfl (by rfl) (fun K hK => ?_)
      go_simp
      refine hK _ _ (fun h => (by simp at h)) ?_
      clear hK K
      try simp only [Act.put]
      refine doneS (by kernel_rfl) ?_ _
      go_wp2
      have hz8 := five_cells HY8b.out rfl (.int .i64 2) (.int .i64 0) (.int .i64 0) (.slice (some ⟨Y.heap.size, 0, none⟩) 2 2) (.bool true)
      have hbZ := below_set5 (x := .int .i64 2) (y := .int .i64 0) (z := .int .i64 0) (u := .slice (some ⟨Y.heap.size, 0, none⟩) 2 2) (v := .bool true) HBYb.out (Nat.le_refl _)
      obtain ⟨Z, hZ⟩ : ∃ Z, ((((Y.setCell ⟨W.heap.size, 0, none⟩ (.int .i64 2)).setCell ⟨W.heap.size, 1, none⟩ (.int .i64 0)).setCell ⟨W.heap.size, 2, none⟩ (.int .i64 0)).setCell ⟨W.heap.size, 3, none⟩ (.slice (some ⟨Y.heap.size, 0, none⟩) 2 2)).setCell ⟨W.heap.size, 4, none⟩ (.bool true) = Z := ⟨_, rfl⟩
      have hzsz : Z.heap.size = Y.heap.size := by rw [← hZ]; simp only [size_set]
      have hzin : ∀ b, W.heap.size + 1 ≤ b → Z.heap[b]? = Y.heap[b]? := fun b h1 => by
        rw [← hZ, Below.heap_setCell _ _ _ b (show b ≠ W.heap.size by omega), Below.heap_setCell _ _ _ b (show b ≠ W.heap.size by omega), Below.heap_setCell _ _ _ b (show b ≠ W.heap.size by omega), Below.heap_setCell _ _ _ b (show b ≠ W.heap.size by omega), Below.heap_setCell _ _ _ b (show b ≠ W.heap.size by omega)]
      rw [hZ] at hz8 hbZ ⊢
      obtain ⟨G, hG⟩ : ∃ G, Y.heap.size = G := ⟨_, rfl⟩
      have hYl : W.heap.size < G := by rw [← hG]; exact HY8b.out.lt
      have hTR2 := HTRb.out
      rw [← HYS.out, hG] at hTR2
      rw [hG] at hz8 hzsz ⊢
      obtain ⟨L, hL⟩ : ∃ L : List (Tr × Value), L = [(leafP p f1, .slice none 0 0), (t.sized hf2, .slice kA kn kc)] := ⟨_, rfl⟩
      have hLa : (tflat L).toArray = #[.int .i64 0, .int .i64 p, .int .i64 (f1 : Int), .slice none 0 0, .int .i64 t.kind, .int .i64 t.pane, .int .i64 (hf2 : Int), .slice kA kn kc] := by rw [hL]; rfl
      rw [← hLa]
      have hw8 : Box (Z.alloc (.cells (tflat L).toArray 24)).drew W.heap.size 44 #[.int .i64 2, .int .i64 0, .int .i64 0, .slice (some ⟨G, 0, none⟩) 2 2, .bool true] := (hz8.alloc _).drew
      have hrow : Box (Z.alloc (.cells (tflat L).toArray 24)).drew G 24 (tflat L).toArray := by
        have := (Box.new Z 24 (tflat L).toArray).drew
        rwa [hzsz] at this
      have hds : (Z.alloc (.cells (tflat L).toArray 24)).drew.heap.size = G + 1 := (World.size_alloc _ _).trans (by rw [hzsz])
      have hbF : Below W.heap.size W (Z.alloc (.cells (tflat L).toArray 24)).drew := (hbZ.alloc hbZ.size _).trans ((below_drew _ 1).mono (by rw [World.size_alloc, hzsz]; omega))
      have hin : ∀ b, W.heap.size + 1 ≤ b → b < G → (Z.alloc (.cells (tflat L).toArray 24)).drew.heap[b]? = Y.heap[b]? := fun b h1 h2 => (Below.heap_alloc Z _ b (by omega)).trans (hzin b h1)
      obtain ⟨F, hFe⟩ : ∃ F, (Z.alloc (.cells (tflat L).toArray 24)).drew = F := ⟨_, rfl⟩
      rw [hFe] at hw8 hrow hds hbF hin ⊢
      have d0 := hw8.cell 0
      have d1 := hw8.cell 1
      have d2 := hw8.cell 2
      have d3 := hw8.cell 3
      have d4 := hw8.cell 4
      have htr : TrB F (fun b => W.heap.size ≤ b ∧ b < F.heap.size) (.mk 2 0 0 (L.map Prod.fst)) (.slice (some ⟨G, 0, none⟩) 2 2) := by
        unfold TrB
        refine ⟨_, 2, by rw [hL]; rfl, by rw [hL]; exact Nat.le_refl _, fun _ => ⟨G, 0, rfl, ⟨by omega, by omega⟩, TrsB.of L 0 (fun j e i u hj hu => ?_) fun e he => ?_⟩⟩
        · rw [Nat.zero_add, hrow.cell (j * 4 + i)]
          have := tflat_at L j e i u hj hu
          simpa using this
        · rw [hL] at he
          rcases List.mem_cons.1 he with rfl | he
          · exact TrB.leaf _ _ _ _
          · obtain rfl := List.mem_singleton.1 he
            exact (hTR2.sized hf2).into (Into.block fun b ⟨b1, b2⟩ => ⟨⟨by omega, by omega⟩, hin b b1 b2⟩)
      have hLm : L.map Prod.fst = [leafP p f1, t.sized hf2] := by rw [hL]; rfl
      rw [hLm] at htr
      exact bodyPost_ret (v := .agg #[.int .i64 2, .int .i64 0, .int .i64 0, .slice (some ⟨G, 0, none⟩) 2 2, .bool true]) (by simp [results, Try.f46, go_sem, d0, d1, d2, d3, d4]) rfl ⟨hbF, .mk 2 0 0 [leafP p f1, t.sized hf2], _, 2, 2, true, rfl, htr, .inr ⟨HR.out, rfl⟩⟩
end Go.Proofs.Ytglfolbimafcaaa
