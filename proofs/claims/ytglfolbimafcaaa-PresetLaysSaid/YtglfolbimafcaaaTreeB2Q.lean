/- Layer 11, the package: madeRight, at a row or a pile. Made by wip/gen/treeB2.py. -/
import Derived.Test.YtglfolbimafcaaaTreeBQ
namespace Go.Proofs.Ytglfolbimafcaaa
open Go.RowKit
set_option maxRecDepth 100000 in
set_option maxHeartbeats 4000000 in
theorem made_yes1 (g o : Nat) (q : Rc) (W : World) (kp : Int) (kA : Option Addr) (km kc : Nat) (ff : Bool) (c0 : W.cell? ⟨g, o, none⟩ = some (.int .i64 1)) (c1 : W.cell? ⟨g, o + 1, none⟩ = some (.int .i64 kp)) (c3 : W.cell? ⟨g, o + 3, none⟩ = some (.slice kA km kc)) (hn : km ≤ 1000)
    (HFI : Hid (∀ W' : World, Below W.heap.size W W' → Calls Try.prog 49 #[.slice kA km kc, .int .i64 1, .int .i64 q.w] W' fun e w' => e = .returned (.bool ff) ∧ Below W'.heap.size W' w')) (hp : kp = 0) (dm : decide (2 ≤ (km : Int)) = true) :
    Calls Try.prog 25 #[.pointer (some ⟨g, o, none⟩), .agg q.row] W fun e w' => e = .returned (.bool ff) ∧ Below W.heap.size W w' := by
  subst hp
  have hg : g < W.heap.size := by obtain ⟨_, ho, _⟩ := cells_of_cell c0; exact (Array.getElem?_eq_some_iff.1 ho).1
  have hba := below_alloc W (.cells q.row 50)
  have hbx := Box.new W 50 q.row
  have d0 := (hba.cell (p := ⟨g, o, none⟩) hg).trans c0
  have d1 := (hba.cell (p := ⟨g, o + 1, none⟩) hg).trans c1
  have d3 := (hba.cell (p := ⟨g, o + 3, none⟩) hg).trans c3
  have HA := hid (fun (W' : World) => along_any W.heap.size 1 W')
  rw [show cellsO 1 = 3 from rfl] at HA
  have hni : (km : Int) ≤ 1000 := by omega
  have HBA := hid hba
  have HBX := hid hbx
  clear c0 c1 c3 hba hbx
  go_enter Try.func25, Try.ntmps25
  go_wp2_with ((with_reducible refine (HA.out _).mono ?_); rintro e w2 ⟨rfl, hb2⟩)
  have hw2 := HBA.out.trans (hb2.mono HBA.out.size)
  have hs2 := hb2.size
  have x0 := cell_regrown ((hb2.cell (p := ⟨g, o, none⟩) (by simp; omega)).trans d0)
  have x1 := cell_regrown ((hb2.cell (p := ⟨g, o + 1, none⟩) (by simp; omega)).trans d1)
  have x3 := cell_regrown ((hb2.cell (p := ⟨g, o + 3, none⟩) (by simp; omega)).trans d3)
  have y := cell_regrown (v := .int .i64 q.w) ((hb2.cell (p := ⟨W.heap.size, 3, none⟩) (by simp)).trans (HBX.out.cell 3))
  have cF : ∀ d os, Calls Try.prog 49 #[.slice kA km kc, .int .i64 1, .int .i64 q.w] (Go.Sort.grow (redrawn w2 d) os) fun e w'' => e = .returned (.bool ff) ∧ ∃ p : Regrown, w'' = Go.Sort.grow (redrawn w2 p.d) p.os := fun d os => Calls.regrown_of (HFI.out _ (hw2.trans ((below_regrown w2 d os).mono hw2.size)))
  clear hb2 d0 d1 d3 HFI HA HBX HBA hs2 hg
  refine wp_region_quiet_below (by kernel_rfl) (by kernel_rfl) ?_
  iterate 28 (go_big_quiet_step (with_reducible exact cF _ _))
  refine wpQuiet_nil ?_
  intro _ hw'
  obtain ⟨⟨dq, osq⟩, hw''⟩ := hw'
  subst hw''
  have hb6 := hw2.trans ((below_regrown w2 dq osq).mono hw2.size)
  generalize Go.Sort.grow (redrawn w2 dq) osq = w6 at *
  clear x0 x1 x3 y cF
  go_wp2
  go_ret
  exact ⟨rfl, hb6⟩
set_option maxRecDepth 100000 in
set_option maxHeartbeats 4000000 in
theorem made_few1 (g o : Nat) (q : Rc) (W : World) (kp : Int) (kA : Option Addr) (km kc : Nat) (ff : Bool) (c0 : W.cell? ⟨g, o, none⟩ = some (.int .i64 1)) (c1 : W.cell? ⟨g, o + 1, none⟩ = some (.int .i64 kp)) (c3 : W.cell? ⟨g, o + 3, none⟩ = some (.slice kA km kc)) (hn : km ≤ 1000)
    (HFI : Hid (∀ W' : World, Below W.heap.size W W' → Calls Try.prog 49 #[.slice kA km kc, .int .i64 1, .int .i64 q.w] W' fun e w' => e = .returned (.bool ff) ∧ Below W'.heap.size W' w')) (hp : kp = 0) (dm : decide (2 ≤ (km : Int)) = false) :
    Calls Try.prog 25 #[.pointer (some ⟨g, o, none⟩), .agg q.row] W fun e w' => e = .returned (.bool false) ∧ Below W.heap.size W w' := by
  subst hp
  have hg : g < W.heap.size := by obtain ⟨_, ho, _⟩ := cells_of_cell c0; exact (Array.getElem?_eq_some_iff.1 ho).1
  have hba := below_alloc W (.cells q.row 50)
  have hbx := Box.new W 50 q.row
  have d0 := (hba.cell (p := ⟨g, o, none⟩) hg).trans c0
  have d1 := (hba.cell (p := ⟨g, o + 1, none⟩) hg).trans c1
  have d3 := (hba.cell (p := ⟨g, o + 3, none⟩) hg).trans c3
  have HA := hid (fun (W' : World) => along_any W.heap.size 1 W')
  rw [show cellsO 1 = 3 from rfl] at HA
  have hni : (km : Int) ≤ 1000 := by omega
  have HBA := hid hba
  have HBX := hid hbx
  clear c0 c1 c3 hba hbx
  go_enter Try.func25, Try.ntmps25
  go_wp2_with ((with_reducible refine (HA.out _).mono ?_); rintro e w2 ⟨rfl, hb2⟩)
  have hw2 := HBA.out.trans (hb2.mono HBA.out.size)
  have hs2 := hb2.size
  have x0 := cell_regrown ((hb2.cell (p := ⟨g, o, none⟩) (by simp; omega)).trans d0)
  have x1 := cell_regrown ((hb2.cell (p := ⟨g, o + 1, none⟩) (by simp; omega)).trans d1)
  have x3 := cell_regrown ((hb2.cell (p := ⟨g, o + 3, none⟩) (by simp; omega)).trans d3)
  have y := cell_regrown (v := .int .i64 q.w) ((hb2.cell (p := ⟨W.heap.size, 3, none⟩) (by simp)).trans (HBX.out.cell 3))
  have cF : ∀ d os, Calls Try.prog 49 #[.slice kA km kc, .int .i64 1, .int .i64 q.w] (Go.Sort.grow (redrawn w2 d) os) fun e w'' => e = .returned (.bool ff) ∧ ∃ p : Regrown, w'' = Go.Sort.grow (redrawn w2 p.d) p.os := fun d os => Calls.regrown_of (HFI.out _ (hw2.trans ((below_regrown w2 d os).mono hw2.size)))
  clear hb2 d0 d1 d3 HFI HA HBX HBA hs2 hg
  refine wp_region_quiet_below (by kernel_rfl) (by kernel_rfl) ?_
  iterate 28 (go_big_quiet_step (fail))
  refine wpQuiet_nil ?_
  intro _ hw'
  obtain ⟨⟨dq, osq⟩, hw''⟩ := hw'
  subst hw''
  have hb6 := hw2.trans ((below_regrown w2 dq osq).mono hw2.size)
  generalize Go.Sort.grow (redrawn w2 dq) osq = w6 at *
  clear x0 x1 x3 y cF
  go_wp2
  go_ret
  exact ⟨rfl, hb6⟩
set_option maxRecDepth 100000 in
set_option maxHeartbeats 4000000 in
theorem made_pane1 (g o : Nat) (q : Rc) (W : World) (kp : Int) (kA : Option Addr) (km kc : Nat) (ff : Bool) (c0 : W.cell? ⟨g, o, none⟩ = some (.int .i64 1)) (c1 : W.cell? ⟨g, o + 1, none⟩ = some (.int .i64 kp)) (c3 : W.cell? ⟨g, o + 3, none⟩ = some (.slice kA km kc)) (hn : km ≤ 1000)
    (HFI : Hid (∀ W' : World, Below W.heap.size W W' → Calls Try.prog 49 #[.slice kA km kc, .int .i64 1, .int .i64 q.w] W' fun e w' => e = .returned (.bool ff) ∧ Below W'.heap.size W' w')) (dp : (kp == 0) = false) :
    Calls Try.prog 25 #[.pointer (some ⟨g, o, none⟩), .agg q.row] W fun e w' => e = .returned (.bool false) ∧ Below W.heap.size W w' := by
  have hg : g < W.heap.size := by obtain ⟨_, ho, _⟩ := cells_of_cell c0; exact (Array.getElem?_eq_some_iff.1 ho).1
  have hba := below_alloc W (.cells q.row 50)
  have hbx := Box.new W 50 q.row
  have d0 := (hba.cell (p := ⟨g, o, none⟩) hg).trans c0
  have d1 := (hba.cell (p := ⟨g, o + 1, none⟩) hg).trans c1
  have d3 := (hba.cell (p := ⟨g, o + 3, none⟩) hg).trans c3
  have HA := hid (fun (W' : World) => along_any W.heap.size 1 W')
  rw [show cellsO 1 = 3 from rfl] at HA
  have hni : (km : Int) ≤ 1000 := by omega
  have HBA := hid hba
  have HBX := hid hbx
  clear c0 c1 c3 hba hbx
  go_enter Try.func25, Try.ntmps25
  go_wp2_with ((with_reducible refine (HA.out _).mono ?_); rintro e w2 ⟨rfl, hb2⟩)
  have hw2 := HBA.out.trans (hb2.mono HBA.out.size)
  have hs2 := hb2.size
  have x0 := cell_regrown ((hb2.cell (p := ⟨g, o, none⟩) (by simp; omega)).trans d0)
  have x1 := cell_regrown ((hb2.cell (p := ⟨g, o + 1, none⟩) (by simp; omega)).trans d1)
  have x3 := cell_regrown ((hb2.cell (p := ⟨g, o + 3, none⟩) (by simp; omega)).trans d3)
  have y := cell_regrown (v := .int .i64 q.w) ((hb2.cell (p := ⟨W.heap.size, 3, none⟩) (by simp)).trans (HBX.out.cell 3))
  have cF : ∀ d os, Calls Try.prog 49 #[.slice kA km kc, .int .i64 1, .int .i64 q.w] (Go.Sort.grow (redrawn w2 d) os) fun e w'' => e = .returned (.bool ff) ∧ ∃ p : Regrown, w'' = Go.Sort.grow (redrawn w2 p.d) p.os := fun d os => Calls.regrown_of (HFI.out _ (hw2.trans ((below_regrown w2 d os).mono hw2.size)))
  clear hb2 d0 d1 d3 HFI HA HBX HBA hs2 hg
  refine wp_region_quiet_below (by kernel_rfl) (by kernel_rfl) ?_
  iterate 28 (go_big_quiet_step (fail))
  refine wpQuiet_nil ?_
  intro _ hw'
  obtain ⟨⟨dq, osq⟩, hw''⟩ := hw'
  subst hw''
  have hb6 := hw2.trans ((below_regrown w2 dq osq).mono hw2.size)
  generalize Go.Sort.grow (redrawn w2 dq) osq = w6 at *
  clear x0 x1 x3 y cF
  go_wp2
  go_ret
  exact ⟨rfl, hb6⟩
set_option maxRecDepth 100000 in
set_option maxHeartbeats 4000000 in
theorem made_yes2 (g o : Nat) (q : Rc) (W : World) (kp : Int) (kA : Option Addr) (km kc : Nat) (ff : Bool) (c0 : W.cell? ⟨g, o, none⟩ = some (.int .i64 2)) (c1 : W.cell? ⟨g, o + 1, none⟩ = some (.int .i64 kp)) (c3 : W.cell? ⟨g, o + 3, none⟩ = some (.slice kA km kc)) (hn : km ≤ 1000)
    (HFI : Hid (∀ W' : World, Below W.heap.size W W' → Calls Try.prog 49 #[.slice kA km kc, .int .i64 2, .int .i64 q.h] W' fun e w' => e = .returned (.bool ff) ∧ Below W'.heap.size W' w')) (hp : kp = 0) (dm : decide (2 ≤ (km : Int)) = true) :
    Calls Try.prog 25 #[.pointer (some ⟨g, o, none⟩), .agg q.row] W fun e w' => e = .returned (.bool ff) ∧ Below W.heap.size W w' := by
  subst hp
  have hg : g < W.heap.size := by obtain ⟨_, ho, _⟩ := cells_of_cell c0; exact (Array.getElem?_eq_some_iff.1 ho).1
  have hba := below_alloc W (.cells q.row 50)
  have hbx := Box.new W 50 q.row
  have d0 := (hba.cell (p := ⟨g, o, none⟩) hg).trans c0
  have d1 := (hba.cell (p := ⟨g, o + 1, none⟩) hg).trans c1
  have d3 := (hba.cell (p := ⟨g, o + 3, none⟩) hg).trans c3
  have HA := hid (fun (W' : World) => along_any W.heap.size 2 W')
  rw [show cellsO 2 = 4 from rfl] at HA
  have hni : (km : Int) ≤ 1000 := by omega
  have HBA := hid hba
  have HBX := hid hbx
  clear c0 c1 c3 hba hbx
  go_enter Try.func25, Try.ntmps25
  go_wp2_with ((with_reducible refine (HA.out _).mono ?_); rintro e w2 ⟨rfl, hb2⟩)
  have hw2 := HBA.out.trans (hb2.mono HBA.out.size)
  have hs2 := hb2.size
  have x0 := cell_regrown ((hb2.cell (p := ⟨g, o, none⟩) (by simp; omega)).trans d0)
  have x1 := cell_regrown ((hb2.cell (p := ⟨g, o + 1, none⟩) (by simp; omega)).trans d1)
  have x3 := cell_regrown ((hb2.cell (p := ⟨g, o + 3, none⟩) (by simp; omega)).trans d3)
  have y := cell_regrown (v := .int .i64 q.h) ((hb2.cell (p := ⟨W.heap.size, 4, none⟩) (by simp)).trans (HBX.out.cell 4))
  have cF : ∀ d os, Calls Try.prog 49 #[.slice kA km kc, .int .i64 2, .int .i64 q.h] (Go.Sort.grow (redrawn w2 d) os) fun e w'' => e = .returned (.bool ff) ∧ ∃ p : Regrown, w'' = Go.Sort.grow (redrawn w2 p.d) p.os := fun d os => Calls.regrown_of (HFI.out _ (hw2.trans ((below_regrown w2 d os).mono hw2.size)))
  clear hb2 d0 d1 d3 HFI HA HBX HBA hs2 hg
  refine wp_region_quiet_below (by kernel_rfl) (by kernel_rfl) ?_
  iterate 28 (go_big_quiet_step (with_reducible exact cF _ _))
  refine wpQuiet_nil ?_
  intro _ hw'
  obtain ⟨⟨dq, osq⟩, hw''⟩ := hw'
  subst hw''
  have hb6 := hw2.trans ((below_regrown w2 dq osq).mono hw2.size)
  generalize Go.Sort.grow (redrawn w2 dq) osq = w6 at *
  clear x0 x1 x3 y cF
  go_wp2
  go_ret
  exact ⟨rfl, hb6⟩
set_option maxRecDepth 100000 in
set_option maxHeartbeats 4000000 in
theorem made_few2 (g o : Nat) (q : Rc) (W : World) (kp : Int) (kA : Option Addr) (km kc : Nat) (ff : Bool) (c0 : W.cell? ⟨g, o, none⟩ = some (.int .i64 2)) (c1 : W.cell? ⟨g, o + 1, none⟩ = some (.int .i64 kp)) (c3 : W.cell? ⟨g, o + 3, none⟩ = some (.slice kA km kc)) (hn : km ≤ 1000)
    (HFI : Hid (∀ W' : World, Below W.heap.size W W' → Calls Try.prog 49 #[.slice kA km kc, .int .i64 2, .int .i64 q.h] W' fun e w' => e = .returned (.bool ff) ∧ Below W'.heap.size W' w')) (hp : kp = 0) (dm : decide (2 ≤ (km : Int)) = false) :
    Calls Try.prog 25 #[.pointer (some ⟨g, o, none⟩), .agg q.row] W fun e w' => e = .returned (.bool false) ∧ Below W.heap.size W w' := by
  subst hp
  have hg : g < W.heap.size := by obtain ⟨_, ho, _⟩ := cells_of_cell c0; exact (Array.getElem?_eq_some_iff.1 ho).1
  have hba := below_alloc W (.cells q.row 50)
  have hbx := Box.new W 50 q.row
  have d0 := (hba.cell (p := ⟨g, o, none⟩) hg).trans c0
  have d1 := (hba.cell (p := ⟨g, o + 1, none⟩) hg).trans c1
  have d3 := (hba.cell (p := ⟨g, o + 3, none⟩) hg).trans c3
  have HA := hid (fun (W' : World) => along_any W.heap.size 2 W')
  rw [show cellsO 2 = 4 from rfl] at HA
  have hni : (km : Int) ≤ 1000 := by omega
  have HBA := hid hba
  have HBX := hid hbx
  clear c0 c1 c3 hba hbx
  go_enter Try.func25, Try.ntmps25
  go_wp2_with ((with_reducible refine (HA.out _).mono ?_); rintro e w2 ⟨rfl, hb2⟩)
  have hw2 := HBA.out.trans (hb2.mono HBA.out.size)
  have hs2 := hb2.size
  have x0 := cell_regrown ((hb2.cell (p := ⟨g, o, none⟩) (by simp; omega)).trans d0)
  have x1 := cell_regrown ((hb2.cell (p := ⟨g, o + 1, none⟩) (by simp; omega)).trans d1)
  have x3 := cell_regrown ((hb2.cell (p := ⟨g, o + 3, none⟩) (by simp; omega)).trans d3)
  have y := cell_regrown (v := .int .i64 q.h) ((hb2.cell (p := ⟨W.heap.size, 4, none⟩) (by simp)).trans (HBX.out.cell 4))
  have cF : ∀ d os, Calls Try.prog 49 #[.slice kA km kc, .int .i64 2, .int .i64 q.h] (Go.Sort.grow (redrawn w2 d) os) fun e w'' => e = .returned (.bool ff) ∧ ∃ p : Regrown, w'' = Go.Sort.grow (redrawn w2 p.d) p.os := fun d os => Calls.regrown_of (HFI.out _ (hw2.trans ((below_regrown w2 d os).mono hw2.size)))
  clear hb2 d0 d1 d3 HFI HA HBX HBA hs2 hg
  refine wp_region_quiet_below (by kernel_rfl) (by kernel_rfl) ?_
  iterate 28 (go_big_quiet_step (fail))
  refine wpQuiet_nil ?_
  intro _ hw'
  obtain ⟨⟨dq, osq⟩, hw''⟩ := hw'
  subst hw''
  have hb6 := hw2.trans ((below_regrown w2 dq osq).mono hw2.size)
  generalize Go.Sort.grow (redrawn w2 dq) osq = w6 at *
  clear x0 x1 x3 y cF
  go_wp2
  go_ret
  exact ⟨rfl, hb6⟩
set_option maxRecDepth 100000 in
set_option maxHeartbeats 4000000 in
theorem made_pane2 (g o : Nat) (q : Rc) (W : World) (kp : Int) (kA : Option Addr) (km kc : Nat) (ff : Bool) (c0 : W.cell? ⟨g, o, none⟩ = some (.int .i64 2)) (c1 : W.cell? ⟨g, o + 1, none⟩ = some (.int .i64 kp)) (c3 : W.cell? ⟨g, o + 3, none⟩ = some (.slice kA km kc)) (hn : km ≤ 1000)
    (HFI : Hid (∀ W' : World, Below W.heap.size W W' → Calls Try.prog 49 #[.slice kA km kc, .int .i64 2, .int .i64 q.h] W' fun e w' => e = .returned (.bool ff) ∧ Below W'.heap.size W' w')) (dp : (kp == 0) = false) :
    Calls Try.prog 25 #[.pointer (some ⟨g, o, none⟩), .agg q.row] W fun e w' => e = .returned (.bool false) ∧ Below W.heap.size W w' := by
  have hg : g < W.heap.size := by obtain ⟨_, ho, _⟩ := cells_of_cell c0; exact (Array.getElem?_eq_some_iff.1 ho).1
  have hba := below_alloc W (.cells q.row 50)
  have hbx := Box.new W 50 q.row
  have d0 := (hba.cell (p := ⟨g, o, none⟩) hg).trans c0
  have d1 := (hba.cell (p := ⟨g, o + 1, none⟩) hg).trans c1
  have d3 := (hba.cell (p := ⟨g, o + 3, none⟩) hg).trans c3
  have HA := hid (fun (W' : World) => along_any W.heap.size 2 W')
  rw [show cellsO 2 = 4 from rfl] at HA
  have hni : (km : Int) ≤ 1000 := by omega
  have HBA := hid hba
  have HBX := hid hbx
  clear c0 c1 c3 hba hbx
  go_enter Try.func25, Try.ntmps25
  go_wp2_with ((with_reducible refine (HA.out _).mono ?_); rintro e w2 ⟨rfl, hb2⟩)
  have hw2 := HBA.out.trans (hb2.mono HBA.out.size)
  have hs2 := hb2.size
  have x0 := cell_regrown ((hb2.cell (p := ⟨g, o, none⟩) (by simp; omega)).trans d0)
  have x1 := cell_regrown ((hb2.cell (p := ⟨g, o + 1, none⟩) (by simp; omega)).trans d1)
  have x3 := cell_regrown ((hb2.cell (p := ⟨g, o + 3, none⟩) (by simp; omega)).trans d3)
  have y := cell_regrown (v := .int .i64 q.h) ((hb2.cell (p := ⟨W.heap.size, 4, none⟩) (by simp)).trans (HBX.out.cell 4))
  have cF : ∀ d os, Calls Try.prog 49 #[.slice kA km kc, .int .i64 2, .int .i64 q.h] (Go.Sort.grow (redrawn w2 d) os) fun e w'' => e = .returned (.bool ff) ∧ ∃ p : Regrown, w'' = Go.Sort.grow (redrawn w2 p.d) p.os := fun d os => Calls.regrown_of (HFI.out _ (hw2.trans ((below_regrown w2 d os).mono hw2.size)))
  clear hb2 d0 d1 d3 HFI HA HBX HBA hs2 hg
  refine wp_region_quiet_below (by kernel_rfl) (by kernel_rfl) ?_
  iterate 28 (go_big_quiet_step (fail))
  refine wpQuiet_nil ?_
  intro _ hw'
  obtain ⟨⟨dq, osq⟩, hw''⟩ := hw'
  subst hw''
  have hb6 := hw2.trans ((below_regrown w2 dq osq).mono hw2.size)
  generalize Go.Sort.grow (redrawn w2 dq) osq = w6 at *
  clear x0 x1 x3 y cF
  go_wp2
  go_ret
  exact ⟨rfl, hb6⟩
set_option maxRecDepth 100000 in
set_option maxHeartbeats 4000000 in
theorem made_any (t : Tr) (g o : Nat) (q : Rc) (W : World) (h : NodeAt W g o t) (hn : t.kids.length ≤ 1000) :
    Calls Try.prog 25 #[.pointer (some ⟨g, o, none⟩), .agg q.row] W fun e w' => e = .returned (.bool (madeR t q)) ∧ Below W.heap.size W w' := by
  obtain ⟨kv, c0, c1, c2, c3, hkv⟩ := h
  have HFI := hid (fun (W' : World) (hb : Below W.heap.size W W') => fill_any t kv t.kind (q.cells t.kind) W' (hkv.below hb) hn)
  have HM : Hid (madeR t q = _) := madeR_K t q
  obtain ⟨kA, kc, rfl, _⟩ := hkv.spell
  obtain ⟨km, hkm⟩ : ∃ km, t.kids.length = km := ⟨_, rfl⟩
  obtain ⟨kk, hkk⟩ : ∃ kk, t.kind = kk := ⟨_, rfl⟩
  obtain ⟨kp, hkp⟩ : ∃ kp, t.pane = kp := ⟨_, rfl⟩
  obtain ⟨ks, hks⟩ : ∃ ks, t.size = ks := ⟨_, rfl⟩
  rw [hkm] at c3 hn HM HFI
  rw [hkk] at c0 HM HFI
  rw [hkp] at c1 HM
  rw [hks] at c2
  obtain ⟨ff, hff⟩ : ∃ ff, fillT t.kids kk (q.cells kk) = ff := ⟨_, rfl⟩
  rw [hff] at HM HFI
  have hg : g < W.heap.size := by obtain ⟨_, ho, _⟩ := cells_of_cell c0; exact (Array.getElem?_eq_some_iff.1 ho).1
  have hba := below_alloc W (.cells q.row 50)
  have hbx := Box.new W 50 q.row
  have d0 := (hba.cell (p := ⟨g, o, none⟩) hg).trans c0
  have d1 := (hba.cell (p := ⟨g, o + 1, none⟩) hg).trans c1
  have d3 := (hba.cell (p := ⟨g, o + 3, none⟩) hg).trans c3
  have HP := hid (fun (W' : World) => isPane_any kp W')
  have HA := hid (fun (W' : World) => along_any W.heap.size kk W')
  have hni : (km : Int) ≤ 1000 := by omega
  have HBA := hid hba
  have HBX := hid hbx
  clear hkm hkk hkp hks hkv hff hba hbx
  by_cases e0 : kk = 0
  · subst e0
    by_cases m0 : km = 0
    · subst m0
      have HV : Hid (madeR t q = isPaneB kp) := by unfold Hid; rw [HM.out]; simp [madeK]
      clear HM HFI HA
      go_enter Try.func25, Try.ntmps25
      go_wp2_with ((with_reducible refine (HP.out _).mono ?_); rintro e w2 ⟨rfl, rfl⟩)
      go_ret
      exact ⟨ret_bool HV.out.symm, HBA.out⟩
    · have HV : Hid (madeR t q = false) := by unfold Hid; rw [HM.out]; simp [madeK, m0]
      have hm0 : ¬ (km : Int) = 0 := by omega
      clear HM HFI HA
      go_enter Try.func25, Try.ntmps25
      go_wp2_with fail
      go_ret
      exact ⟨ret_bool HV.out.symm, HBA.out⟩
  · by_cases e12 : kk = 1 ∨ kk = 2
    · rcases e12 with rfl | rfl
      · by_cases p0 : kp = 0
        · by_cases m2 : 2 ≤ (km : Int)
          · have HV : madeR t q = ff := by rw [HM.out]; simp [madeK, m2, p0]
            rw [HV]
            exact made_yes1 g o q W kp kA km kc ff c0 c1 c3 hn HFI p0 (decide_eq_true m2)
          · have HV : madeR t q = false := by rw [HM.out]; simp [madeK, m2]
            rw [HV]
            exact made_few1 g o q W kp kA km kc ff c0 c1 c3 hn HFI p0 (decide_eq_false m2)
        · have HV : madeR t q = false := by rw [HM.out]; simp [madeK, p0]
          rw [HV]
          exact made_pane1 g o q W kp kA km kc ff c0 c1 c3 hn HFI (by simp [p0])
      · by_cases p0 : kp = 0
        · by_cases m2 : 2 ≤ (km : Int)
          · have HV : madeR t q = ff := by rw [HM.out]; simp [madeK, m2, p0]
            rw [HV]
            exact made_yes2 g o q W kp kA km kc ff c0 c1 c3 hn HFI p0 (decide_eq_true m2)
          · have HV : madeR t q = false := by rw [HM.out]; simp [madeK, m2]
            rw [HV]
            exact made_few2 g o q W kp kA km kc ff c0 c1 c3 hn HFI p0 (decide_eq_false m2)
        · have HV : madeR t q = false := by rw [HM.out]; simp [madeK, p0]
          rw [HV]
          exact made_pane2 g o q W kp kA km kc ff c0 c1 c3 hn HFI (by simp [p0])
    · have HV : Hid (madeR t q = false) := by unfold Hid; rw [HM.out]; simp [madeK, e0, e12]
      have e1 : ¬ kk = 1 := fun h => e12 (.inl h)
      have e2 : ¬ kk = 2 := fun h => e12 (.inr h)
      clear HM HFI HA e12
      go_enter Try.func25, Try.ntmps25
      go_wp2_with fail
      go_ret
      exact ⟨ret_bool HV.out.symm, HBA.out⟩
end Go.Proofs.Ytglfolbimafcaaa
