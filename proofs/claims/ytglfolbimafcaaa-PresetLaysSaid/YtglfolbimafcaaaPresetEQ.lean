/- Layer 12, the package: ways, and Lay where it says no, or asks one of them. Made by wip/gen/presetLay.py. -/
import Derived.Test.YtglfolbimafcaaaPresetDQ
import Derived.Laws.EntriesVeiled
namespace Go.Proofs.Ytglfolbimafcaaa
open Go.RowKit

abbrev fnV (n : Nat) : Value := .func (.func n) #[] #[]
abbrev waysV : Array Value := #[fnV 60, fnV 61, fnV 62, fnV 63, fnV 64]
set_option maxRecDepth 100000 in
theorem ways_any (W : World) : Calls Try.prog 40 #[] W fun e w' => e = .returned (.agg waysV) ∧ Below W.heap.size W w' := by
  go_enter Try.func40, Try.ntmps40
  go_wp2
  exact bodyPost_ret (v := .agg waysV) (by simp [results, Try.f40, go_sem, waysV, fnV]) rfl ⟨rfl, below_alloc _ _⟩
/-- What Lay comes to. -/
def LayR (W : World) (ps : List Int) (how w h : Int) (e : Ending) (w' : World) : Prop :=
  (¬ (mayP ps w h = true ∧ 1 ≤ how ∧ how ≤ 5) ∧ e = .returned (.tuple #[.agg #[.int .i64 0, .int .i64 0, .int .i64 0, .slice none 0 0], .int .i64 1]) ∧ Below W.heap.size W w') ∨
    ((mayP ps w h = true ∧ 1 ≤ how ∧ how ≤ 5) ∧ LayP W W.heap.size (layT ps how w.toNat h.toNat) e w')
set_option maxRecDepth 100000 in
set_option maxHeartbeats 2000000 in
theorem lay_no_may (v : Value) (ps : List Int) (how w h : Int) (W : World) (hv : NRow W v ps) (hn : ps.length ≤ 1000) (hno : mayP ps w h = false) : Calls Try.prog 19 #[v, .int .i64 how, .int .i64 w, .int .i64 h] W (LayR W ps how w h) := by
  have HP := hid (fun (w' : World) (hb : Below W.heap.size W w') => show LayR W ps how w h (.returned (.tuple #[.agg #[.int .i64 0, .int .i64 0, .int .i64 0, .slice none 0 0], .int .i64 1])) w' from .inl ⟨fun hx => by rw [hno] at hx; exact absurd hx.1 (by decide), rfl, hb⟩)
  have HM := hid (fun X (hb : Below W.heap.size W X) => mayLie_any v ps w h X (hv.below hb) hn)
  have HWy := hid ways_any
  simp only [waysV, fnV] at HWy
  obtain ⟨A, c, rfl, _⟩ := hv
  obtain ⟨n, hnn⟩ : ∃ n, ps.length = n := ⟨_, rfl⟩
  rw [hnn] at HM ⊢
  have hb0 := below_alloc W (.cells #[.int .i64 0, .int .i64 0, .int .i64 0, .slice none 0 0] 24)
  have hx0 := Box.new W 24 #[.int .i64 0, .int .i64 0, .int .i64 0, .slice none 0 0]
  have HB0 := hid hb0
  have HX0 := hid hx0
  clear hb0 hx0
  rw [hno] at HM
  clear hno
  go_enter Try.func19, Try.ntmps19
  go_wp2_with (first | ((with_reducible refine (HWy.out _).mono ?_); rintro e w2 ⟨rfl, hb2⟩; have HX2 := hid (HX0.out.below hb2 HX0.out.lt); have HB2 := hid ((HB0.out.trans (hb2.mono HB0.out.size)).alloc (HB0.out.trans (hb2.mono HB0.out.size)).size (.cells waysV 73)); have HA2 := hid (Box.new w2 73 waysV)) | ((with_reducible refine (HM.out _ HB2.out).mono ?_); rintro e w3 ⟨rfl, hb3⟩; have hx3 := (HX2.out.alloc (.cells waysV 73)).below hb3 (by rw [World.size_alloc]; exact Nat.lt_succ_of_lt HX2.out.lt); obtain ⟨⟨k0, k1, k2, k3⟩, f0, f1, f2, f3⟩ := hx3.four; have hlt3 := hx3.lt; have HX3 := hid hx3; clear hx3))
  have hz := four_cells HX3.out rfl (.int .i64 0) (.int .i64 0) (.int .i64 0) (.slice none 0 0)
  have d0 := hz.cell 0
  have d1 := hz.cell 1
  have d2 := hz.cell 2
  have d3 := hz.cell 3
  have hbW := HB2.out.trans (hb3.mono HB2.out.size)
  have hbZ := below_set (below_set (below_set (below_set hbW (Nat.le_refl _) (i := 0) (.int .i64 0)) (Nat.le_refl _) (i := 1) (.int .i64 0)) (Nat.le_refl _) (i := 2) (.int .i64 0)) (Nat.le_refl _) (i := 3) (.slice none 0 0)
  exact bodyPost_ret (v := .tuple #[.agg #[.int .i64 0, .int .i64 0, .int .i64 0, .slice none 0 0], .int .i64 1]) (by simp [results, Try.f19, go_sem, d0, d1, d2, d3]) rfl (HP.out _ hbZ)
set_option maxRecDepth 100000 in
set_option maxHeartbeats 2000000 in
theorem lay_no_below (v : Value) (ps : List Int) (how w h : Int) (W : World) (hv : NRow W v ps) (hn : ps.length ≤ 1000) (hno : mayP ps w h = true) (h1 : how < 1) : Calls Try.prog 19 #[v, .int .i64 how, .int .i64 w, .int .i64 h] W (LayR W ps how w h) := by
  have HP := hid (fun (w' : World) (hb : Below W.heap.size W w') => show LayR W ps how w h (.returned (.tuple #[.agg #[.int .i64 0, .int .i64 0, .int .i64 0, .slice none 0 0], .int .i64 1])) w' from .inl ⟨fun hx => by omega, rfl, hb⟩)
  have HM := hid (fun X (hb : Below W.heap.size W X) => mayLie_any v ps w h X (hv.below hb) hn)
  have HWy := hid ways_any
  simp only [waysV, fnV] at HWy
  obtain ⟨A, c, rfl, _⟩ := hv
  obtain ⟨n, hnn⟩ : ∃ n, ps.length = n := ⟨_, rfl⟩
  rw [hnn] at HM ⊢
  have hb0 := below_alloc W (.cells #[.int .i64 0, .int .i64 0, .int .i64 0, .slice none 0 0] 24)
  have hx0 := Box.new W 24 #[.int .i64 0, .int .i64 0, .int .i64 0, .slice none 0 0]
  have HB0 := hid hb0
  have HX0 := hid hx0
  clear hb0 hx0
  rw [hno] at HM
  have e1 : decide (how < 1) = true := decide_eq_true h1
  clear h1
  clear hno
  go_enter Try.func19, Try.ntmps19
  go_wp2_with (first | ((with_reducible refine (HWy.out _).mono ?_); rintro e w2 ⟨rfl, hb2⟩; have HX2 := hid (HX0.out.below hb2 HX0.out.lt); have HB2 := hid ((HB0.out.trans (hb2.mono HB0.out.size)).alloc (HB0.out.trans (hb2.mono HB0.out.size)).size (.cells waysV 73)); have HA2 := hid (Box.new w2 73 waysV)) | ((with_reducible refine (HM.out _ HB2.out).mono ?_); rintro e w3 ⟨rfl, hb3⟩; have hx3 := (HX2.out.alloc (.cells waysV 73)).below hb3 (by rw [World.size_alloc]; exact Nat.lt_succ_of_lt HX2.out.lt); obtain ⟨⟨k0, k1, k2, k3⟩, f0, f1, f2, f3⟩ := hx3.four; have hlt3 := hx3.lt; have HX3 := hid hx3; clear hx3))
  have hz := four_cells HX3.out rfl (.int .i64 0) (.int .i64 0) (.int .i64 0) (.slice none 0 0)
  have d0 := hz.cell 0
  have d1 := hz.cell 1
  have d2 := hz.cell 2
  have d3 := hz.cell 3
  have hbW := HB2.out.trans (hb3.mono HB2.out.size)
  have hbZ := below_set (below_set (below_set (below_set hbW (Nat.le_refl _) (i := 0) (.int .i64 0)) (Nat.le_refl _) (i := 1) (.int .i64 0)) (Nat.le_refl _) (i := 2) (.int .i64 0)) (Nat.le_refl _) (i := 3) (.slice none 0 0)
  exact bodyPost_ret (v := .tuple #[.agg #[.int .i64 0, .int .i64 0, .int .i64 0, .slice none 0 0], .int .i64 1]) (by simp [results, Try.f19, go_sem, d0, d1, d2, d3]) rfl (HP.out _ hbZ)
set_option maxRecDepth 100000 in
set_option maxHeartbeats 2000000 in
theorem lay_no_above (v : Value) (ps : List Int) (how w h : Int) (W : World) (hv : NRow W v ps) (hn : ps.length ≤ 1000) (hno : mayP ps w h = true) (h5 : 5 < how) : Calls Try.prog 19 #[v, .int .i64 how, .int .i64 w, .int .i64 h] W (LayR W ps how w h) := by
  have HP := hid (fun (w' : World) (hb : Below W.heap.size W w') => show LayR W ps how w h (.returned (.tuple #[.agg #[.int .i64 0, .int .i64 0, .int .i64 0, .slice none 0 0], .int .i64 1])) w' from .inl ⟨fun hx => by omega, rfl, hb⟩)
  have HM := hid (fun X (hb : Below W.heap.size W X) => mayLie_any v ps w h X (hv.below hb) hn)
  have HWy := hid ways_any
  simp only [waysV, fnV] at HWy
  obtain ⟨A, c, rfl, _⟩ := hv
  obtain ⟨n, hnn⟩ : ∃ n, ps.length = n := ⟨_, rfl⟩
  rw [hnn] at HM ⊢
  have hb0 := below_alloc W (.cells #[.int .i64 0, .int .i64 0, .int .i64 0, .slice none 0 0] 24)
  have hx0 := Box.new W 24 #[.int .i64 0, .int .i64 0, .int .i64 0, .slice none 0 0]
  have HB0 := hid hb0
  have HX0 := hid hx0
  clear hb0 hx0
  rw [hno] at HM
  have e1 : decide (how < 1) = false := decide_eq_false (by omega)
  have e2 : decide (5 < how) = true := decide_eq_true h5
  clear h5
  clear hno
  go_enter Try.func19, Try.ntmps19
  go_wp2_with (first | ((with_reducible refine (HWy.out _).mono ?_); rintro e w2 ⟨rfl, hb2⟩; have HX2 := hid (HX0.out.below hb2 HX0.out.lt); have HB2 := hid ((HB0.out.trans (hb2.mono HB0.out.size)).alloc (HB0.out.trans (hb2.mono HB0.out.size)).size (.cells waysV 73)); have HA2 := hid (Box.new w2 73 waysV)) | ((with_reducible refine (HM.out _ HB2.out).mono ?_); rintro e w3 ⟨rfl, hb3⟩; have hx3 := (HX2.out.alloc (.cells waysV 73)).below hb3 (by rw [World.size_alloc]; exact Nat.lt_succ_of_lt HX2.out.lt); obtain ⟨⟨k0, k1, k2, k3⟩, f0, f1, f2, f3⟩ := hx3.four; have hlt3 := hx3.lt; have HX3 := hid hx3; clear hx3))
  have hz := four_cells HX3.out rfl (.int .i64 0) (.int .i64 0) (.int .i64 0) (.slice none 0 0)
  have d0 := hz.cell 0
  have d1 := hz.cell 1
  have d2 := hz.cell 2
  have d3 := hz.cell 3
  have hbW := HB2.out.trans (hb3.mono HB2.out.size)
  have hbZ := below_set (below_set (below_set (below_set hbW (Nat.le_refl _) (i := 0) (.int .i64 0)) (Nat.le_refl _) (i := 1) (.int .i64 0)) (Nat.le_refl _) (i := 2) (.int .i64 0)) (Nat.le_refl _) (i := 3) (.slice none 0 0)
  exact bodyPost_ret (v := .tuple #[.agg #[.int .i64 0, .int .i64 0, .int .i64 0, .slice none 0 0], .int .i64 1]) (by simp [results, Try.f19, go_sem, d0, d1, d2, d3]) rfl (HP.out _ hbZ)
theorem lay_no (v : Value) (ps : List Int) (how w h : Int) (W : World) (hv : NRow W v ps) (hn : ps.length ≤ 1000) (hno : ¬ (mayP ps w h = true ∧ 1 ≤ how ∧ how ≤ 5)) : Calls Try.prog 19 #[v, .int .i64 how, .int .i64 w, .int .i64 h] W (LayR W ps how w h) := by
  cases hm : mayP ps w h
  · exact lay_no_may v ps how w h W hv hn hm
  · by_cases h1 : how < 1
    · exact lay_no_below v ps how w h W hv hn hm h1
    · exact lay_no_above v ps how w h W hv hn hm (Int.not_le.1 fun h5 => hno ⟨hm, by omega, h5⟩)
/-- What a way comes to, in any world behind. -/
def WayC (fn : Nat) (W : World) (v : Value) (w h : Int) (o : Option Tr) : Prop := ∀ X, Below W.heap.size W X → Calls Try.prog fn #[.agg #[.int .i64 w, .int .i64 h], v] X (LayP X X.heap.size o)
set_option maxRecDepth 100000 in
set_option maxHeartbeats 2000000 in
theorem lay_yes1 (v : Value) (ps : List Int) (w h : Int) (W : World) (hv : NRow W v ps) (hn : ps.length ≤ 1000) (hm : mayP ps w h = true) (o : Option Tr) (hw : WayC 60 W v w h o) : Calls Try.prog 19 #[v, .int .i64 1, .int .i64 w, .int .i64 h] W (LayP W W.heap.size o) := by
  have HW := hid hw
  unfold WayC at HW
  clear hw
  have HM := hid (fun X (hb : Below W.heap.size W X) => mayLie_any v ps w h X (hv.below hb) hn)
  have HWy := hid ways_any
  simp only [waysV, fnV] at HWy
  obtain ⟨A, c, rfl, _⟩ := hv
  obtain ⟨n, hnn⟩ : ∃ n, ps.length = n := ⟨_, rfl⟩
  rw [hnn] at HM HW ⊢
  have hb0 := below_alloc W (.cells #[.int .i64 0, .int .i64 0, .int .i64 0, .slice none 0 0] 24)
  have hx0 := Box.new W 24 #[.int .i64 0, .int .i64 0, .int .i64 0, .slice none 0 0]
  have HB0 := hid hb0
  have HX0 := hid hx0
  clear hb0 hx0
  rw [hm] at HM
  clear hm
  go_enter Try.func19, Try.ntmps19
  go_wp2_with (first | ((with_reducible refine (HWy.out _).mono ?_); rintro e w2 ⟨rfl, hb2⟩; have HX2 := hid (HX0.out.below hb2 HX0.out.lt); have HB2 := hid ((HB0.out.trans (hb2.mono HB0.out.size)).alloc (HB0.out.trans (hb2.mono HB0.out.size)).size (.cells waysV 73)); have HA2 := hid (Box.new w2 73 waysV)) | ((with_reducible refine (HM.out _ HB2.out).mono ?_); rintro e w3 ⟨rfl, hb3⟩; have hx3 := (HX2.out.alloc (.cells waysV 73)).below hb3 (by rw [World.size_alloc]; exact Nat.lt_succ_of_lt HX2.out.lt); obtain ⟨⟨k0, k1, k2, k3⟩, f0, f1, f2, f3⟩ := hx3.four; have hlt3 := hx3.lt; have HX3 := hid hx3; have ha3 := HA2.out.below hb3 (by rw [World.size_alloc]; exact Nat.lt_succ_self _); have y0 := ha3.cell 0; have HB3 := hid (HB2.out.trans (hb3.mono HB2.out.size)); clear ha3; clear hx3) | ((with_reducible refine (HW.out _ HB3.out).mono ?_); rintro e w4 hp; obtain ⟨hb4, t, kA, kn, kc, err, rfl, ht, hcase⟩ := hp.one; have hx4 := HX3.out.below hb4 HX3.out.lt; obtain ⟨⟨q0, q1, q2, q3⟩, g0, g1, g2, g3⟩ := hx4.four; have hlt4 := hx4.lt; have HX4 := hid hx4; clear hx4))
  have hz := four_cells HX4.out rfl (.int .i64 t.kind) (.int .i64 t.pane) (.int .i64 t.size) (.slice kA kn kc)
  have d0 := hz.cell 0
  have d1 := hz.cell 1
  have d2 := hz.cell 2
  have d3 := hz.cell 3
  have hbW := HB3.out.trans (hb4.mono HB3.out.size)
  have hbZ := below_set (below_set (below_set (below_set hbW (Nat.le_refl _) (i := 0) (.int .i64 t.kind)) (Nat.le_refl _) (i := 1) (.int .i64 t.pane)) (Nat.le_refl _) (i := 2) (.int .i64 t.size)) (Nat.le_refl _) (i := 3) (.slice kA kn kc)
  have hw3 := HX3.out.lt
  exact bodyPost_ret (v := .tuple #[.agg #[.int .i64 t.kind, .int .i64 t.pane, .int .i64 t.size, .slice kA kn kc], .int .i64 err]) (by simp [results, Try.f19, go_sem, d0, d1, d2, d3]) rfl (LayP.of hbZ (ht.into (four_into (Nat.le_refl _) (fun c h1 _ => by omega) W.heap.size (by omega))) hcase)
set_option maxRecDepth 100000 in
set_option maxHeartbeats 2000000 in
theorem lay_yes2 (v : Value) (ps : List Int) (w h : Int) (W : World) (hv : NRow W v ps) (hn : ps.length ≤ 1000) (hm : mayP ps w h = true) (o : Option Tr) (hw : WayC 61 W v w h o) : Calls Try.prog 19 #[v, .int .i64 2, .int .i64 w, .int .i64 h] W (LayP W W.heap.size o) := by
  have HW := hid hw
  unfold WayC at HW
  clear hw
  have HM := hid (fun X (hb : Below W.heap.size W X) => mayLie_any v ps w h X (hv.below hb) hn)
  have HWy := hid ways_any
  simp only [waysV, fnV] at HWy
  obtain ⟨A, c, rfl, _⟩ := hv
  obtain ⟨n, hnn⟩ : ∃ n, ps.length = n := ⟨_, rfl⟩
  rw [hnn] at HM HW ⊢
  have hb0 := below_alloc W (.cells #[.int .i64 0, .int .i64 0, .int .i64 0, .slice none 0 0] 24)
  have hx0 := Box.new W 24 #[.int .i64 0, .int .i64 0, .int .i64 0, .slice none 0 0]
  have HB0 := hid hb0
  have HX0 := hid hx0
  clear hb0 hx0
  rw [hm] at HM
  clear hm
  go_enter Try.func19, Try.ntmps19
  go_wp2_with (first | ((with_reducible refine (HWy.out _).mono ?_); rintro e w2 ⟨rfl, hb2⟩; have HX2 := hid (HX0.out.below hb2 HX0.out.lt); have HB2 := hid ((HB0.out.trans (hb2.mono HB0.out.size)).alloc (HB0.out.trans (hb2.mono HB0.out.size)).size (.cells waysV 73)); have HA2 := hid (Box.new w2 73 waysV)) | ((with_reducible refine (HM.out _ HB2.out).mono ?_); rintro e w3 ⟨rfl, hb3⟩; have hx3 := (HX2.out.alloc (.cells waysV 73)).below hb3 (by rw [World.size_alloc]; exact Nat.lt_succ_of_lt HX2.out.lt); obtain ⟨⟨k0, k1, k2, k3⟩, f0, f1, f2, f3⟩ := hx3.four; have hlt3 := hx3.lt; have HX3 := hid hx3; have ha3 := HA2.out.below hb3 (by rw [World.size_alloc]; exact Nat.lt_succ_self _); have y1 := ha3.cell 1; have HB3 := hid (HB2.out.trans (hb3.mono HB2.out.size)); clear ha3; clear hx3) | ((with_reducible refine (HW.out _ HB3.out).mono ?_); rintro e w4 hp; obtain ⟨hb4, t, kA, kn, kc, err, rfl, ht, hcase⟩ := hp.one; have hx4 := HX3.out.below hb4 HX3.out.lt; obtain ⟨⟨q0, q1, q2, q3⟩, g0, g1, g2, g3⟩ := hx4.four; have hlt4 := hx4.lt; have HX4 := hid hx4; clear hx4))
  have hz := four_cells HX4.out rfl (.int .i64 t.kind) (.int .i64 t.pane) (.int .i64 t.size) (.slice kA kn kc)
  have d0 := hz.cell 0
  have d1 := hz.cell 1
  have d2 := hz.cell 2
  have d3 := hz.cell 3
  have hbW := HB3.out.trans (hb4.mono HB3.out.size)
  have hbZ := below_set (below_set (below_set (below_set hbW (Nat.le_refl _) (i := 0) (.int .i64 t.kind)) (Nat.le_refl _) (i := 1) (.int .i64 t.pane)) (Nat.le_refl _) (i := 2) (.int .i64 t.size)) (Nat.le_refl _) (i := 3) (.slice kA kn kc)
  have hw3 := HX3.out.lt
  exact bodyPost_ret (v := .tuple #[.agg #[.int .i64 t.kind, .int .i64 t.pane, .int .i64 t.size, .slice kA kn kc], .int .i64 err]) (by simp [results, Try.f19, go_sem, d0, d1, d2, d3]) rfl (LayP.of hbZ (ht.into (four_into (Nat.le_refl _) (fun c h1 _ => by omega) W.heap.size (by omega))) hcase)
set_option maxRecDepth 100000 in
set_option maxHeartbeats 2000000 in
theorem lay_yes3 (v : Value) (ps : List Int) (w h : Int) (W : World) (hv : NRow W v ps) (hn : ps.length ≤ 1000) (hm : mayP ps w h = true) (o : Option Tr) (hw : WayC 62 W v w h o) : Calls Try.prog 19 #[v, .int .i64 3, .int .i64 w, .int .i64 h] W (LayP W W.heap.size o) := by
  have HW := hid hw
  unfold WayC at HW
  clear hw
  have HM := hid (fun X (hb : Below W.heap.size W X) => mayLie_any v ps w h X (hv.below hb) hn)
  have HWy := hid ways_any
  simp only [waysV, fnV] at HWy
  obtain ⟨A, c, rfl, _⟩ := hv
  obtain ⟨n, hnn⟩ : ∃ n, ps.length = n := ⟨_, rfl⟩
  rw [hnn] at HM HW ⊢
  have hb0 := below_alloc W (.cells #[.int .i64 0, .int .i64 0, .int .i64 0, .slice none 0 0] 24)
  have hx0 := Box.new W 24 #[.int .i64 0, .int .i64 0, .int .i64 0, .slice none 0 0]
  have HB0 := hid hb0
  have HX0 := hid hx0
  clear hb0 hx0
  rw [hm] at HM
  clear hm
  go_enter Try.func19, Try.ntmps19
  go_wp2_with (first | ((with_reducible refine (HWy.out _).mono ?_); rintro e w2 ⟨rfl, hb2⟩; have HX2 := hid (HX0.out.below hb2 HX0.out.lt); have HB2 := hid ((HB0.out.trans (hb2.mono HB0.out.size)).alloc (HB0.out.trans (hb2.mono HB0.out.size)).size (.cells waysV 73)); have HA2 := hid (Box.new w2 73 waysV)) | ((with_reducible refine (HM.out _ HB2.out).mono ?_); rintro e w3 ⟨rfl, hb3⟩; have hx3 := (HX2.out.alloc (.cells waysV 73)).below hb3 (by rw [World.size_alloc]; exact Nat.lt_succ_of_lt HX2.out.lt); obtain ⟨⟨k0, k1, k2, k3⟩, f0, f1, f2, f3⟩ := hx3.four; have hlt3 := hx3.lt; have HX3 := hid hx3; have ha3 := HA2.out.below hb3 (by rw [World.size_alloc]; exact Nat.lt_succ_self _); have y2 := ha3.cell 2; have HB3 := hid (HB2.out.trans (hb3.mono HB2.out.size)); clear ha3; clear hx3) | ((with_reducible refine (HW.out _ HB3.out).mono ?_); rintro e w4 hp; obtain ⟨hb4, t, kA, kn, kc, err, rfl, ht, hcase⟩ := hp.one; have hx4 := HX3.out.below hb4 HX3.out.lt; obtain ⟨⟨q0, q1, q2, q3⟩, g0, g1, g2, g3⟩ := hx4.four; have hlt4 := hx4.lt; have HX4 := hid hx4; clear hx4))
  have hz := four_cells HX4.out rfl (.int .i64 t.kind) (.int .i64 t.pane) (.int .i64 t.size) (.slice kA kn kc)
  have d0 := hz.cell 0
  have d1 := hz.cell 1
  have d2 := hz.cell 2
  have d3 := hz.cell 3
  have hbW := HB3.out.trans (hb4.mono HB3.out.size)
  have hbZ := below_set (below_set (below_set (below_set hbW (Nat.le_refl _) (i := 0) (.int .i64 t.kind)) (Nat.le_refl _) (i := 1) (.int .i64 t.pane)) (Nat.le_refl _) (i := 2) (.int .i64 t.size)) (Nat.le_refl _) (i := 3) (.slice kA kn kc)
  have hw3 := HX3.out.lt
  exact bodyPost_ret (v := .tuple #[.agg #[.int .i64 t.kind, .int .i64 t.pane, .int .i64 t.size, .slice kA kn kc], .int .i64 err]) (by simp [results, Try.f19, go_sem, d0, d1, d2, d3]) rfl (LayP.of hbZ (ht.into (four_into (Nat.le_refl _) (fun c h1 _ => by omega) W.heap.size (by omega))) hcase)
set_option maxRecDepth 100000 in
set_option maxHeartbeats 2000000 in
theorem lay_yes4 (v : Value) (ps : List Int) (w h : Int) (W : World) (hv : NRow W v ps) (hn : ps.length ≤ 1000) (hm : mayP ps w h = true) (o : Option Tr) (hw : WayC 63 W v w h o) : Calls Try.prog 19 #[v, .int .i64 4, .int .i64 w, .int .i64 h] W (LayP W W.heap.size o) := by
  have HW := hid hw
  unfold WayC at HW
  clear hw
  have HM := hid (fun X (hb : Below W.heap.size W X) => mayLie_any v ps w h X (hv.below hb) hn)
  have HWy := hid ways_any
  simp only [waysV, fnV] at HWy
  obtain ⟨A, c, rfl, _⟩ := hv
  obtain ⟨n, hnn⟩ : ∃ n, ps.length = n := ⟨_, rfl⟩
  rw [hnn] at HM HW ⊢
  have hb0 := below_alloc W (.cells #[.int .i64 0, .int .i64 0, .int .i64 0, .slice none 0 0] 24)
  have hx0 := Box.new W 24 #[.int .i64 0, .int .i64 0, .int .i64 0, .slice none 0 0]
  have HB0 := hid hb0
  have HX0 := hid hx0
  clear hb0 hx0
  rw [hm] at HM
  clear hm
  go_enter Try.func19, Try.ntmps19
  go_wp2_with (first | ((with_reducible refine (HWy.out _).mono ?_); rintro e w2 ⟨rfl, hb2⟩; have HX2 := hid (HX0.out.below hb2 HX0.out.lt); have HB2 := hid ((HB0.out.trans (hb2.mono HB0.out.size)).alloc (HB0.out.trans (hb2.mono HB0.out.size)).size (.cells waysV 73)); have HA2 := hid (Box.new w2 73 waysV)) | ((with_reducible refine (HM.out _ HB2.out).mono ?_); rintro e w3 ⟨rfl, hb3⟩; have hx3 := (HX2.out.alloc (.cells waysV 73)).below hb3 (by rw [World.size_alloc]; exact Nat.lt_succ_of_lt HX2.out.lt); obtain ⟨⟨k0, k1, k2, k3⟩, f0, f1, f2, f3⟩ := hx3.four; have hlt3 := hx3.lt; have HX3 := hid hx3; have ha3 := HA2.out.below hb3 (by rw [World.size_alloc]; exact Nat.lt_succ_self _); have y3 := ha3.cell 3; have HB3 := hid (HB2.out.trans (hb3.mono HB2.out.size)); clear ha3; clear hx3) | ((with_reducible refine (HW.out _ HB3.out).mono ?_); rintro e w4 hp; obtain ⟨hb4, t, kA, kn, kc, err, rfl, ht, hcase⟩ := hp.one; have hx4 := HX3.out.below hb4 HX3.out.lt; obtain ⟨⟨q0, q1, q2, q3⟩, g0, g1, g2, g3⟩ := hx4.four; have hlt4 := hx4.lt; have HX4 := hid hx4; clear hx4))
  have hz := four_cells HX4.out rfl (.int .i64 t.kind) (.int .i64 t.pane) (.int .i64 t.size) (.slice kA kn kc)
  have d0 := hz.cell 0
  have d1 := hz.cell 1
  have d2 := hz.cell 2
  have d3 := hz.cell 3
  have hbW := HB3.out.trans (hb4.mono HB3.out.size)
  have hbZ := below_set (below_set (below_set (below_set hbW (Nat.le_refl _) (i := 0) (.int .i64 t.kind)) (Nat.le_refl _) (i := 1) (.int .i64 t.pane)) (Nat.le_refl _) (i := 2) (.int .i64 t.size)) (Nat.le_refl _) (i := 3) (.slice kA kn kc)
  have hw3 := HX3.out.lt
  exact bodyPost_ret (v := .tuple #[.agg #[.int .i64 t.kind, .int .i64 t.pane, .int .i64 t.size, .slice kA kn kc], .int .i64 err]) (by simp [results, Try.f19, go_sem, d0, d1, d2, d3]) rfl (LayP.of hbZ (ht.into (four_into (Nat.le_refl _) (fun c h1 _ => by omega) W.heap.size (by omega))) hcase)
set_option maxRecDepth 100000 in
set_option maxHeartbeats 2000000 in
theorem lay_yes5 (v : Value) (ps : List Int) (w h : Int) (W : World) (hv : NRow W v ps) (hn : ps.length ≤ 1000) (hm : mayP ps w h = true) (o : Option Tr) (hw : WayC 64 W v w h o) : Calls Try.prog 19 #[v, .int .i64 5, .int .i64 w, .int .i64 h] W (LayP W W.heap.size o) := by
  have HW := hid hw
  unfold WayC at HW
  clear hw
  have HM := hid (fun X (hb : Below W.heap.size W X) => mayLie_any v ps w h X (hv.below hb) hn)
  have HWy := hid ways_any
  simp only [waysV, fnV] at HWy
  obtain ⟨A, c, rfl, _⟩ := hv
  obtain ⟨n, hnn⟩ : ∃ n, ps.length = n := ⟨_, rfl⟩
  rw [hnn] at HM HW ⊢
  have hb0 := below_alloc W (.cells #[.int .i64 0, .int .i64 0, .int .i64 0, .slice none 0 0] 24)
  have hx0 := Box.new W 24 #[.int .i64 0, .int .i64 0, .int .i64 0, .slice none 0 0]
  have HB0 := hid hb0
  have HX0 := hid hx0
  clear hb0 hx0
  rw [hm] at HM
  clear hm
  go_enter Try.func19, Try.ntmps19
  go_wp2_with (first | ((with_reducible refine (HWy.out _).mono ?_); rintro e w2 ⟨rfl, hb2⟩; have HX2 := hid (HX0.out.below hb2 HX0.out.lt); have HB2 := hid ((HB0.out.trans (hb2.mono HB0.out.size)).alloc (HB0.out.trans (hb2.mono HB0.out.size)).size (.cells waysV 73)); have HA2 := hid (Box.new w2 73 waysV)) | ((with_reducible refine (HM.out _ HB2.out).mono ?_); rintro e w3 ⟨rfl, hb3⟩; have hx3 := (HX2.out.alloc (.cells waysV 73)).below hb3 (by rw [World.size_alloc]; exact Nat.lt_succ_of_lt HX2.out.lt); obtain ⟨⟨k0, k1, k2, k3⟩, f0, f1, f2, f3⟩ := hx3.four; have hlt3 := hx3.lt; have HX3 := hid hx3; have ha3 := HA2.out.below hb3 (by rw [World.size_alloc]; exact Nat.lt_succ_self _); have y4 := ha3.cell 4; have HB3 := hid (HB2.out.trans (hb3.mono HB2.out.size)); clear ha3; clear hx3) | ((with_reducible refine (HW.out _ HB3.out).mono ?_); rintro e w4 hp; obtain ⟨hb4, t, kA, kn, kc, err, rfl, ht, hcase⟩ := hp.one; have hx4 := HX3.out.below hb4 HX3.out.lt; obtain ⟨⟨q0, q1, q2, q3⟩, g0, g1, g2, g3⟩ := hx4.four; have hlt4 := hx4.lt; have HX4 := hid hx4; clear hx4))
  have hz := four_cells HX4.out rfl (.int .i64 t.kind) (.int .i64 t.pane) (.int .i64 t.size) (.slice kA kn kc)
  have d0 := hz.cell 0
  have d1 := hz.cell 1
  have d2 := hz.cell 2
  have d3 := hz.cell 3
  have hbW := HB3.out.trans (hb4.mono HB3.out.size)
  have hbZ := below_set (below_set (below_set (below_set hbW (Nat.le_refl _) (i := 0) (.int .i64 t.kind)) (Nat.le_refl _) (i := 1) (.int .i64 t.pane)) (Nat.le_refl _) (i := 2) (.int .i64 t.size)) (Nat.le_refl _) (i := 3) (.slice kA kn kc)
  have hw3 := HX3.out.lt
  exact bodyPost_ret (v := .tuple #[.agg #[.int .i64 t.kind, .int .i64 t.pane, .int .i64 t.size, .slice kA kn kc], .int .i64 err]) (by simp [results, Try.f19, go_sem, d0, d1, d2, d3]) rfl (LayP.of hbZ (ht.into (four_into (Nat.le_refl _) (fun c h1 _ => by omega) W.heap.size (by omega))) hcase)
end Go.Proofs.Ytglfolbimafcaaa
