/- Layer 6, the package: may cells be shifted, may lines go. Made by wip/gen/gridOps.py. -/
import Derived.Test.YtkejoknphnkhnaaDoorGridEraseQ
namespace Go.Proofs.YtkejoknphnkhnaaDoor
open Go.RowKit

def shiftOk (cols : Int) (lv : List (Ln × Value)) (row col num : Int) (a : At) : Bool := mayB cols lv && (rowB row lv.length && (colB col cols && (decide (0 ≤ num) && lookB a)))
set_option maxRecDepth 100000 in
set_option maxHeartbeats 2000000 in
theorem shift_0 (cols row col num : Int) (a : At) (v : Value) (lv : List (Ln × Value)) (W : World) (hg : GIn W v lv) (hT : Tab W) (hW : TabW W) (a0 : mayB cols lv = false) :
    Calls Tryd.prog 41 #[.agg #[.int .i64 cols, v], .int .i64 row, .int .i64 col, .int .i64 num, a.agg] W fun e w' => e = .returned (.bool false) ∧ Below W.heap.size W w' := by
  obtain ⟨A, c0, rfl⟩ := hg.lr.spell
  have HG := hid hg
  have HTT := hid hT
  have HWW := hid hW
  obtain ⟨fg, bg, fl⟩ := a
  obtain ⟨n, hn⟩ : ∃ n, lv.length = n := ⟨_, rfl⟩
  have HN := hid hn
  have b0 := (((Bxs.nil W).alloc 24 #[.int .i64 cols, .slice A n c0]).alloc 26 #[.int .i64 fg, .int .i64 bg, .int .i64 fl])
  simp only [World.size_alloc, List.nil_append, List.cons_append] at b0
  have h0 : Below W.heap.size W ((W.alloc (.cells #[.int .i64 cols, .slice A n c0] 24)).alloc (.cells #[.int .i64 fg, .int .i64 bg, .int .i64 fl] 26)) := ((below_alloc _ _).alloc (by simp <;> omega) _)
  have s0 : W.heap.size + 1 + 1 ≤ ((W.alloc (.cells #[.int .i64 cols, .slice A n c0] 24)).alloc (.cells #[.int .i64 fg, .int .i64 bg, .int .i64 fl] 26)).heap.size := by simp
  have BX0 := hid b0
  have H0 := hid h0
  have S0 := hid s0
  unfold mayB at a0
  rw [hn] at a0 ⊢
  have A0 := hid a0
  clear hg hT hW hn b0 h0 s0 a0
  unfold At.agg
  simp only
  go_enter Tryd.func41, Tryd.ntmps41
  go_upto_region 1 with fail
  generalize ((W.alloc (.cells #[.int .i64 cols, .slice A n c0] 24)).alloc (.cells #[.int .i64 fg, .int .i64 bg, .int .i64 fl] 26)) = w0 at *
  obtain ⟨⟨k0_0, k0_1⟩, f0_0, f0_1⟩ := (BX0.out.get 0 rfl).two
  obtain ⟨⟨k1_0, k1_1, k1_2⟩, f1_0, f1_1, f1_2⟩ := (BX0.out.get 1 rfl).three
  have hraw := pRight_any cols _ lv w0 (HG.out.below H0.out).lr (HG.out.below H0.out).ces HG.out.sm (HTT.out.below H0.out) (HWW.out.below H0.out)
  rw [HN.out] at hraw
  rw [show (sizeB cols n && allB cols lv) = _ from A0.out] at hraw
  have hcall := hraw
  have HCALL := hid hcall
  clear hcall
  go_wp2_with fail
  with_reducible refine HCALL.out.mono ?_
  rintro e w1 ⟨rfl, hb⟩
  dsimp only
  have BX1 := hid (BX0.out.below hb)
  have H1 := hid (H0.out.trans (hb.mono H0.out.size))
  have S1 := hid (Nat.le_trans S0.out hb.size)
  clear hb HCALL
  clear k0_0 k0_1 k1_0 k1_1 k1_2 f0_0 f0_1 f1_0 f1_1 f1_2
  obtain ⟨⟨k0_0, k0_1⟩, f0_0, f0_1⟩ := (BX1.out.get 0 rfl).two
  obtain ⟨⟨k1_0, k1_1, k1_2⟩, f1_0, f1_1, f1_2⟩ := (BX1.out.get 1 rfl).three
  clear hraw
  go_wp2
  go_ret
  exact ⟨rfl, H1.out⟩

set_option maxRecDepth 100000 in
set_option maxHeartbeats 2000000 in
theorem shift_1 (cols row col num : Int) (a : At) (v : Value) (lv : List (Ln × Value)) (W : World) (hg : GIn W v lv) (hT : Tab W) (hW : TabW W) (a0 : mayB cols lv = true) (a1 : rowB row lv.length = false) :
    Calls Tryd.prog 41 #[.agg #[.int .i64 cols, v], .int .i64 row, .int .i64 col, .int .i64 num, a.agg] W fun e w' => e = .returned (.bool false) ∧ Below W.heap.size W w' := by
  obtain ⟨A, c0, rfl⟩ := hg.lr.spell
  have HG := hid hg
  have HTT := hid hT
  have HWW := hid hW
  obtain ⟨fg, bg, fl⟩ := a
  obtain ⟨n, hn⟩ : ∃ n, lv.length = n := ⟨_, rfl⟩
  have HN := hid hn
  have b0 := (((Bxs.nil W).alloc 24 #[.int .i64 cols, .slice A n c0]).alloc 26 #[.int .i64 fg, .int .i64 bg, .int .i64 fl])
  simp only [World.size_alloc, List.nil_append, List.cons_append] at b0
  have h0 : Below W.heap.size W ((W.alloc (.cells #[.int .i64 cols, .slice A n c0] 24)).alloc (.cells #[.int .i64 fg, .int .i64 bg, .int .i64 fl] 26)) := ((below_alloc _ _).alloc (by simp <;> omega) _)
  have s0 : W.heap.size + 1 + 1 ≤ ((W.alloc (.cells #[.int .i64 cols, .slice A n c0] 24)).alloc (.cells #[.int .i64 fg, .int .i64 bg, .int .i64 fl] 26)).heap.size := by simp
  have BX0 := hid b0
  have H0 := hid h0
  have S0 := hid s0
  unfold mayB at a0
  rw [hn] at a0 a1 ⊢
  have A0 := hid a0
  have A1 := hid a1
  clear hg hT hW hn b0 h0 s0 a0 a1
  unfold At.agg
  simp only
  go_enter Tryd.func41, Tryd.ntmps41
  go_upto_region 1 with fail
  generalize ((W.alloc (.cells #[.int .i64 cols, .slice A n c0] 24)).alloc (.cells #[.int .i64 fg, .int .i64 bg, .int .i64 fl] 26)) = w0 at *
  obtain ⟨⟨k0_0, k0_1⟩, f0_0, f0_1⟩ := (BX0.out.get 0 rfl).two
  obtain ⟨⟨k1_0, k1_1, k1_2⟩, f1_0, f1_1, f1_2⟩ := (BX0.out.get 1 rfl).three
  have hraw := pRight_any cols _ lv w0 (HG.out.below H0.out).lr (HG.out.below H0.out).ces HG.out.sm (HTT.out.below H0.out) (HWW.out.below H0.out)
  rw [HN.out] at hraw
  rw [show (sizeB cols n && allB cols lv) = _ from A0.out] at hraw
  have hcall := hraw
  have HCALL := hid hcall
  clear hcall
  go_wp2_with fail
  with_reducible refine HCALL.out.mono ?_
  rintro e w1 ⟨rfl, hb⟩
  dsimp only
  have BX1 := hid (BX0.out.below hb)
  have H1 := hid (H0.out.trans (hb.mono H0.out.size))
  have S1 := hid (Nat.le_trans S0.out hb.size)
  clear hb HCALL
  clear k0_0 k0_1 k1_0 k1_1 k1_2 f0_0 f0_1 f1_0 f1_1 f1_2
  obtain ⟨⟨k0_0, k0_1⟩, f0_0, f0_1⟩ := (BX1.out.get 0 rfl).two
  obtain ⟨⟨k1_0, k1_1, k1_2⟩, f1_0, f1_1, f1_2⟩ := (BX1.out.get 1 rfl).three
  clear hraw
  have hraw := hasRow_any cols row A n c0 w1
  rw [A1.out] at hraw
  have hcall := hraw
  have HCALL := hid hcall
  clear hcall
  go_wp2_with fail
  with_reducible refine HCALL.out.mono ?_
  rintro e w2 ⟨rfl, hb⟩
  dsimp only
  have BX2 := hid (BX1.out.below hb)
  have H2 := hid (H1.out.trans (hb.mono H1.out.size))
  have S2 := hid (Nat.le_trans S1.out hb.size)
  clear hb HCALL
  clear k0_0 k0_1 k1_0 k1_1 k1_2 f0_0 f0_1 f1_0 f1_1 f1_2
  obtain ⟨⟨k0_0, k0_1⟩, f0_0, f0_1⟩ := (BX2.out.get 0 rfl).two
  obtain ⟨⟨k1_0, k1_1, k1_2⟩, f1_0, f1_1, f1_2⟩ := (BX2.out.get 1 rfl).three
  clear hraw
  go_wp2
  go_ret
  exact ⟨rfl, H2.out⟩

set_option maxRecDepth 100000 in
set_option maxHeartbeats 2000000 in
theorem shift_2 (cols row col num : Int) (a : At) (v : Value) (lv : List (Ln × Value)) (W : World) (hg : GIn W v lv) (hT : Tab W) (hW : TabW W) (a0 : mayB cols lv = true) (a1 : rowB row lv.length = true) (a2 : colB col cols = false) :
    Calls Tryd.prog 41 #[.agg #[.int .i64 cols, v], .int .i64 row, .int .i64 col, .int .i64 num, a.agg] W fun e w' => e = .returned (.bool false) ∧ Below W.heap.size W w' := by
  obtain ⟨A, c0, rfl⟩ := hg.lr.spell
  have HG := hid hg
  have HTT := hid hT
  have HWW := hid hW
  obtain ⟨fg, bg, fl⟩ := a
  obtain ⟨n, hn⟩ : ∃ n, lv.length = n := ⟨_, rfl⟩
  have HN := hid hn
  have b0 := (((Bxs.nil W).alloc 24 #[.int .i64 cols, .slice A n c0]).alloc 26 #[.int .i64 fg, .int .i64 bg, .int .i64 fl])
  simp only [World.size_alloc, List.nil_append, List.cons_append] at b0
  have h0 : Below W.heap.size W ((W.alloc (.cells #[.int .i64 cols, .slice A n c0] 24)).alloc (.cells #[.int .i64 fg, .int .i64 bg, .int .i64 fl] 26)) := ((below_alloc _ _).alloc (by simp <;> omega) _)
  have s0 : W.heap.size + 1 + 1 ≤ ((W.alloc (.cells #[.int .i64 cols, .slice A n c0] 24)).alloc (.cells #[.int .i64 fg, .int .i64 bg, .int .i64 fl] 26)).heap.size := by simp
  have BX0 := hid b0
  have H0 := hid h0
  have S0 := hid s0
  unfold mayB at a0
  rw [hn] at a0 a1 ⊢
  have A0 := hid a0
  have A1 := hid a1
  have A2 := hid a2
  clear hg hT hW hn b0 h0 s0 a0 a1 a2
  unfold At.agg
  simp only
  go_enter Tryd.func41, Tryd.ntmps41
  go_upto_region 1 with fail
  generalize ((W.alloc (.cells #[.int .i64 cols, .slice A n c0] 24)).alloc (.cells #[.int .i64 fg, .int .i64 bg, .int .i64 fl] 26)) = w0 at *
  obtain ⟨⟨k0_0, k0_1⟩, f0_0, f0_1⟩ := (BX0.out.get 0 rfl).two
  obtain ⟨⟨k1_0, k1_1, k1_2⟩, f1_0, f1_1, f1_2⟩ := (BX0.out.get 1 rfl).three
  have hraw := pRight_any cols _ lv w0 (HG.out.below H0.out).lr (HG.out.below H0.out).ces HG.out.sm (HTT.out.below H0.out) (HWW.out.below H0.out)
  rw [HN.out] at hraw
  rw [show (sizeB cols n && allB cols lv) = _ from A0.out] at hraw
  have hcall := hraw
  have HCALL := hid hcall
  clear hcall
  go_wp2_with fail
  with_reducible refine HCALL.out.mono ?_
  rintro e w1 ⟨rfl, hb⟩
  dsimp only
  have BX1 := hid (BX0.out.below hb)
  have H1 := hid (H0.out.trans (hb.mono H0.out.size))
  have S1 := hid (Nat.le_trans S0.out hb.size)
  clear hb HCALL
  clear k0_0 k0_1 k1_0 k1_1 k1_2 f0_0 f0_1 f1_0 f1_1 f1_2
  obtain ⟨⟨k0_0, k0_1⟩, f0_0, f0_1⟩ := (BX1.out.get 0 rfl).two
  obtain ⟨⟨k1_0, k1_1, k1_2⟩, f1_0, f1_1, f1_2⟩ := (BX1.out.get 1 rfl).three
  clear hraw
  have hraw := hasRow_any cols row A n c0 w1
  rw [A1.out] at hraw
  have hcall := hraw
  have HCALL := hid hcall
  clear hcall
  go_wp2_with fail
  with_reducible refine HCALL.out.mono ?_
  rintro e w2 ⟨rfl, hb⟩
  dsimp only
  have BX2 := hid (BX1.out.below hb)
  have H2 := hid (H1.out.trans (hb.mono H1.out.size))
  have S2 := hid (Nat.le_trans S1.out hb.size)
  clear hb HCALL
  clear k0_0 k0_1 k1_0 k1_1 k1_2 f0_0 f0_1 f1_0 f1_1 f1_2
  obtain ⟨⟨k0_0, k0_1⟩, f0_0, f0_1⟩ := (BX2.out.get 0 rfl).two
  obtain ⟨⟨k1_0, k1_1, k1_2⟩, f1_0, f1_1, f1_2⟩ := (BX2.out.get 1 rfl).three
  clear hraw
  have hraw := hasCol_any cols col A n c0 w2
  rw [A2.out] at hraw
  have hcall := hraw
  have HCALL := hid hcall
  clear hcall
  go_wp2_with fail
  with_reducible refine HCALL.out.mono ?_
  rintro e w3 ⟨rfl, hb⟩
  dsimp only
  have BX3 := hid (BX2.out.below hb)
  have H3 := hid (H2.out.trans (hb.mono H2.out.size))
  have S3 := hid (Nat.le_trans S2.out hb.size)
  clear hb HCALL
  clear k0_0 k0_1 k1_0 k1_1 k1_2 f0_0 f0_1 f1_0 f1_1 f1_2
  obtain ⟨⟨k0_0, k0_1⟩, f0_0, f0_1⟩ := (BX3.out.get 0 rfl).two
  obtain ⟨⟨k1_0, k1_1, k1_2⟩, f1_0, f1_1, f1_2⟩ := (BX3.out.get 1 rfl).three
  clear hraw
  go_wp2
  go_ret
  exact ⟨rfl, H3.out⟩

set_option maxRecDepth 100000 in
set_option maxHeartbeats 2000000 in
theorem shift_3 (cols row col num : Int) (a : At) (v : Value) (lv : List (Ln × Value)) (W : World) (hg : GIn W v lv) (hT : Tab W) (hW : TabW W) (a0 : mayB cols lv = true) (a1 : rowB row lv.length = true) (a2 : colB col cols = true) (a3 : num < 0) :
    Calls Tryd.prog 41 #[.agg #[.int .i64 cols, v], .int .i64 row, .int .i64 col, .int .i64 num, a.agg] W fun e w' => e = .returned (.bool false) ∧ Below W.heap.size W w' := by
  obtain ⟨A, c0, rfl⟩ := hg.lr.spell
  have HG := hid hg
  have HTT := hid hT
  have HWW := hid hW
  obtain ⟨fg, bg, fl⟩ := a
  obtain ⟨n, hn⟩ : ∃ n, lv.length = n := ⟨_, rfl⟩
  have HN := hid hn
  have b0 := (((Bxs.nil W).alloc 24 #[.int .i64 cols, .slice A n c0]).alloc 26 #[.int .i64 fg, .int .i64 bg, .int .i64 fl])
  simp only [World.size_alloc, List.nil_append, List.cons_append] at b0
  have h0 : Below W.heap.size W ((W.alloc (.cells #[.int .i64 cols, .slice A n c0] 24)).alloc (.cells #[.int .i64 fg, .int .i64 bg, .int .i64 fl] 26)) := ((below_alloc _ _).alloc (by simp <;> omega) _)
  have s0 : W.heap.size + 1 + 1 ≤ ((W.alloc (.cells #[.int .i64 cols, .slice A n c0] 24)).alloc (.cells #[.int .i64 fg, .int .i64 bg, .int .i64 fl] 26)).heap.size := by simp
  have BX0 := hid b0
  have H0 := hid h0
  have S0 := hid s0
  unfold mayB at a0
  rw [hn] at a0 a1 ⊢
  have A0 := hid a0
  have A1 := hid a1
  have A2 := hid a2
  have q3 : decide (0 ≤ num) = false := by simp; omega
  clear hg hT hW hn b0 h0 s0 a0 a1 a2
  unfold At.agg
  simp only
  go_enter Tryd.func41, Tryd.ntmps41
  go_upto_region 1 with fail
  generalize ((W.alloc (.cells #[.int .i64 cols, .slice A n c0] 24)).alloc (.cells #[.int .i64 fg, .int .i64 bg, .int .i64 fl] 26)) = w0 at *
  obtain ⟨⟨k0_0, k0_1⟩, f0_0, f0_1⟩ := (BX0.out.get 0 rfl).two
  obtain ⟨⟨k1_0, k1_1, k1_2⟩, f1_0, f1_1, f1_2⟩ := (BX0.out.get 1 rfl).three
  have hraw := pRight_any cols _ lv w0 (HG.out.below H0.out).lr (HG.out.below H0.out).ces HG.out.sm (HTT.out.below H0.out) (HWW.out.below H0.out)
  rw [HN.out] at hraw
  rw [show (sizeB cols n && allB cols lv) = _ from A0.out] at hraw
  have hcall := hraw
  have HCALL := hid hcall
  clear hcall
  go_wp2_with fail
  with_reducible refine HCALL.out.mono ?_
  rintro e w1 ⟨rfl, hb⟩
  dsimp only
  have BX1 := hid (BX0.out.below hb)
  have H1 := hid (H0.out.trans (hb.mono H0.out.size))
  have S1 := hid (Nat.le_trans S0.out hb.size)
  clear hb HCALL
  clear k0_0 k0_1 k1_0 k1_1 k1_2 f0_0 f0_1 f1_0 f1_1 f1_2
  obtain ⟨⟨k0_0, k0_1⟩, f0_0, f0_1⟩ := (BX1.out.get 0 rfl).two
  obtain ⟨⟨k1_0, k1_1, k1_2⟩, f1_0, f1_1, f1_2⟩ := (BX1.out.get 1 rfl).three
  clear hraw
  have hraw := hasRow_any cols row A n c0 w1
  rw [A1.out] at hraw
  have hcall := hraw
  have HCALL := hid hcall
  clear hcall
  go_wp2_with fail
  with_reducible refine HCALL.out.mono ?_
  rintro e w2 ⟨rfl, hb⟩
  dsimp only
  have BX2 := hid (BX1.out.below hb)
  have H2 := hid (H1.out.trans (hb.mono H1.out.size))
  have S2 := hid (Nat.le_trans S1.out hb.size)
  clear hb HCALL
  clear k0_0 k0_1 k1_0 k1_1 k1_2 f0_0 f0_1 f1_0 f1_1 f1_2
  obtain ⟨⟨k0_0, k0_1⟩, f0_0, f0_1⟩ := (BX2.out.get 0 rfl).two
  obtain ⟨⟨k1_0, k1_1, k1_2⟩, f1_0, f1_1, f1_2⟩ := (BX2.out.get 1 rfl).three
  clear hraw
  have hraw := hasCol_any cols col A n c0 w2
  rw [A2.out] at hraw
  have hcall := hraw
  have HCALL := hid hcall
  clear hcall
  go_wp2_with fail
  with_reducible refine HCALL.out.mono ?_
  rintro e w3 ⟨rfl, hb⟩
  dsimp only
  have BX3 := hid (BX2.out.below hb)
  have H3 := hid (H2.out.trans (hb.mono H2.out.size))
  have S3 := hid (Nat.le_trans S2.out hb.size)
  clear hb HCALL
  clear k0_0 k0_1 k1_0 k1_1 k1_2 f0_0 f0_1 f1_0 f1_1 f1_2
  obtain ⟨⟨k0_0, k0_1⟩, f0_0, f0_1⟩ := (BX3.out.get 0 rfl).two
  obtain ⟨⟨k1_0, k1_1, k1_2⟩, f1_0, f1_1, f1_2⟩ := (BX3.out.get 1 rfl).three
  clear hraw
  go_wp2
  go_ret
  exact ⟨rfl, H3.out⟩

set_option maxRecDepth 100000 in
set_option maxHeartbeats 2000000 in
theorem shift_4 (cols row col num : Int) (a : At) (v : Value) (lv : List (Ln × Value)) (W : World) (hg : GIn W v lv) (hT : Tab W) (hW : TabW W) (a0 : mayB cols lv = true) (a1 : rowB row lv.length = true) (a2 : colB col cols = true) (a3 : 0 ≤ num) (a4 : lookB a = false) :
    Calls Tryd.prog 41 #[.agg #[.int .i64 cols, v], .int .i64 row, .int .i64 col, .int .i64 num, a.agg] W fun e w' => e = .returned (.bool false) ∧ Below W.heap.size W w' := by
  obtain ⟨A, c0, rfl⟩ := hg.lr.spell
  have HG := hid hg
  have HTT := hid hT
  have HWW := hid hW
  obtain ⟨fg, bg, fl⟩ := a
  obtain ⟨n, hn⟩ : ∃ n, lv.length = n := ⟨_, rfl⟩
  have HN := hid hn
  have b0 := (((Bxs.nil W).alloc 24 #[.int .i64 cols, .slice A n c0]).alloc 26 #[.int .i64 fg, .int .i64 bg, .int .i64 fl])
  simp only [World.size_alloc, List.nil_append, List.cons_append] at b0
  have h0 : Below W.heap.size W ((W.alloc (.cells #[.int .i64 cols, .slice A n c0] 24)).alloc (.cells #[.int .i64 fg, .int .i64 bg, .int .i64 fl] 26)) := ((below_alloc _ _).alloc (by simp <;> omega) _)
  have s0 : W.heap.size + 1 + 1 ≤ ((W.alloc (.cells #[.int .i64 cols, .slice A n c0] 24)).alloc (.cells #[.int .i64 fg, .int .i64 bg, .int .i64 fl] 26)).heap.size := by simp
  have BX0 := hid b0
  have H0 := hid h0
  have S0 := hid s0
  unfold mayB at a0
  rw [hn] at a0 a1 ⊢
  have A0 := hid a0
  have A1 := hid a1
  have A2 := hid a2
  have A4 := hid a4
  have q3 : decide (0 ≤ num) = true := by simp; omega
  clear hg hT hW hn b0 h0 s0 a0 a1 a2 a4
  unfold At.agg
  simp only
  go_enter Tryd.func41, Tryd.ntmps41
  go_upto_region 1 with fail
  generalize ((W.alloc (.cells #[.int .i64 cols, .slice A n c0] 24)).alloc (.cells #[.int .i64 fg, .int .i64 bg, .int .i64 fl] 26)) = w0 at *
  obtain ⟨⟨k0_0, k0_1⟩, f0_0, f0_1⟩ := (BX0.out.get 0 rfl).two
  obtain ⟨⟨k1_0, k1_1, k1_2⟩, f1_0, f1_1, f1_2⟩ := (BX0.out.get 1 rfl).three
  have hraw := pRight_any cols _ lv w0 (HG.out.below H0.out).lr (HG.out.below H0.out).ces HG.out.sm (HTT.out.below H0.out) (HWW.out.below H0.out)
  rw [HN.out] at hraw
  rw [show (sizeB cols n && allB cols lv) = _ from A0.out] at hraw
  have hcall := hraw
  have HCALL := hid hcall
  clear hcall
  go_wp2_with fail
  with_reducible refine HCALL.out.mono ?_
  rintro e w1 ⟨rfl, hb⟩
  dsimp only
  have BX1 := hid (BX0.out.below hb)
  have H1 := hid (H0.out.trans (hb.mono H0.out.size))
  have S1 := hid (Nat.le_trans S0.out hb.size)
  clear hb HCALL
  clear k0_0 k0_1 k1_0 k1_1 k1_2 f0_0 f0_1 f1_0 f1_1 f1_2
  obtain ⟨⟨k0_0, k0_1⟩, f0_0, f0_1⟩ := (BX1.out.get 0 rfl).two
  obtain ⟨⟨k1_0, k1_1, k1_2⟩, f1_0, f1_1, f1_2⟩ := (BX1.out.get 1 rfl).three
  clear hraw
  have hraw := hasRow_any cols row A n c0 w1
  rw [A1.out] at hraw
  have hcall := hraw
  have HCALL := hid hcall
  clear hcall
  go_wp2_with fail
  with_reducible refine HCALL.out.mono ?_
  rintro e w2 ⟨rfl, hb⟩
  dsimp only
  have BX2 := hid (BX1.out.below hb)
  have H2 := hid (H1.out.trans (hb.mono H1.out.size))
  have S2 := hid (Nat.le_trans S1.out hb.size)
  clear hb HCALL
  clear k0_0 k0_1 k1_0 k1_1 k1_2 f0_0 f0_1 f1_0 f1_1 f1_2
  obtain ⟨⟨k0_0, k0_1⟩, f0_0, f0_1⟩ := (BX2.out.get 0 rfl).two
  obtain ⟨⟨k1_0, k1_1, k1_2⟩, f1_0, f1_1, f1_2⟩ := (BX2.out.get 1 rfl).three
  clear hraw
  have hraw := hasCol_any cols col A n c0 w2
  rw [A2.out] at hraw
  have hcall := hraw
  have HCALL := hid hcall
  clear hcall
  go_wp2_with fail
  with_reducible refine HCALL.out.mono ?_
  rintro e w3 ⟨rfl, hb⟩
  dsimp only
  have BX3 := hid (BX2.out.below hb)
  have H3 := hid (H2.out.trans (hb.mono H2.out.size))
  have S3 := hid (Nat.le_trans S2.out hb.size)
  clear hb HCALL
  clear k0_0 k0_1 k1_0 k1_1 k1_2 f0_0 f0_1 f1_0 f1_1 f1_2
  obtain ⟨⟨k0_0, k0_1⟩, f0_0, f0_1⟩ := (BX3.out.get 0 rfl).two
  obtain ⟨⟨k1_0, k1_1, k1_2⟩, f1_0, f1_1, f1_2⟩ := (BX3.out.get 1 rfl).three
  clear hraw
  have hraw := pLook_any ⟨fg, bg, fl⟩ w3
  rw [A4.out] at hraw
  unfold At.agg at hraw
  have hcall := hraw
  have HCALL := hid hcall
  clear hcall
  go_wp2_with fail
  with_reducible refine HCALL.out.mono ?_
  rintro e w4 ⟨rfl, hb⟩
  dsimp only
  have BX4 := hid (BX3.out.below hb)
  have H4 := hid (H3.out.trans (hb.mono H3.out.size))
  have S4 := hid (Nat.le_trans S3.out hb.size)
  clear hb HCALL
  clear k0_0 k0_1 k1_0 k1_1 k1_2 f0_0 f0_1 f1_0 f1_1 f1_2
  obtain ⟨⟨k0_0, k0_1⟩, f0_0, f0_1⟩ := (BX4.out.get 0 rfl).two
  obtain ⟨⟨k1_0, k1_1, k1_2⟩, f1_0, f1_1, f1_2⟩ := (BX4.out.get 1 rfl).three
  clear hraw
  go_wp2
  go_ret
  exact ⟨rfl, H4.out⟩

set_option maxRecDepth 100000 in
set_option maxHeartbeats 2000000 in
theorem shift_5 (cols row col num : Int) (a : At) (v : Value) (lv : List (Ln × Value)) (W : World) (hg : GIn W v lv) (hT : Tab W) (hW : TabW W) (a0 : mayB cols lv = true) (a1 : rowB row lv.length = true) (a2 : colB col cols = true) (a3 : 0 ≤ num) (a4 : lookB a = true) :
    Calls Tryd.prog 41 #[.agg #[.int .i64 cols, v], .int .i64 row, .int .i64 col, .int .i64 num, a.agg] W fun e w' => e = .returned (.bool true) ∧ Below W.heap.size W w' := by
  obtain ⟨A, c0, rfl⟩ := hg.lr.spell
  have HG := hid hg
  have HTT := hid hT
  have HWW := hid hW
  obtain ⟨fg, bg, fl⟩ := a
  obtain ⟨n, hn⟩ : ∃ n, lv.length = n := ⟨_, rfl⟩
  have HN := hid hn
  have b0 := (((Bxs.nil W).alloc 24 #[.int .i64 cols, .slice A n c0]).alloc 26 #[.int .i64 fg, .int .i64 bg, .int .i64 fl])
  simp only [World.size_alloc, List.nil_append, List.cons_append] at b0
  have h0 : Below W.heap.size W ((W.alloc (.cells #[.int .i64 cols, .slice A n c0] 24)).alloc (.cells #[.int .i64 fg, .int .i64 bg, .int .i64 fl] 26)) := ((below_alloc _ _).alloc (by simp <;> omega) _)
  have s0 : W.heap.size + 1 + 1 ≤ ((W.alloc (.cells #[.int .i64 cols, .slice A n c0] 24)).alloc (.cells #[.int .i64 fg, .int .i64 bg, .int .i64 fl] 26)).heap.size := by simp
  have BX0 := hid b0
  have H0 := hid h0
  have S0 := hid s0
  unfold mayB at a0
  rw [hn] at a0 a1 ⊢
  have A0 := hid a0
  have A1 := hid a1
  have A2 := hid a2
  have A4 := hid a4
  have q3 : decide (0 ≤ num) = true := by simp; omega
  clear hg hT hW hn b0 h0 s0 a0 a1 a2 a4
  unfold At.agg
  simp only
  go_enter Tryd.func41, Tryd.ntmps41
  go_upto_region 1 with fail
  generalize ((W.alloc (.cells #[.int .i64 cols, .slice A n c0] 24)).alloc (.cells #[.int .i64 fg, .int .i64 bg, .int .i64 fl] 26)) = w0 at *
  obtain ⟨⟨k0_0, k0_1⟩, f0_0, f0_1⟩ := (BX0.out.get 0 rfl).two
  obtain ⟨⟨k1_0, k1_1, k1_2⟩, f1_0, f1_1, f1_2⟩ := (BX0.out.get 1 rfl).three
  have hraw := pRight_any cols _ lv w0 (HG.out.below H0.out).lr (HG.out.below H0.out).ces HG.out.sm (HTT.out.below H0.out) (HWW.out.below H0.out)
  rw [HN.out] at hraw
  rw [show (sizeB cols n && allB cols lv) = _ from A0.out] at hraw
  have hcall := hraw
  have HCALL := hid hcall
  clear hcall
  go_wp2_with fail
  with_reducible refine HCALL.out.mono ?_
  rintro e w1 ⟨rfl, hb⟩
  dsimp only
  have BX1 := hid (BX0.out.below hb)
  have H1 := hid (H0.out.trans (hb.mono H0.out.size))
  have S1 := hid (Nat.le_trans S0.out hb.size)
  clear hb HCALL
  clear k0_0 k0_1 k1_0 k1_1 k1_2 f0_0 f0_1 f1_0 f1_1 f1_2
  obtain ⟨⟨k0_0, k0_1⟩, f0_0, f0_1⟩ := (BX1.out.get 0 rfl).two
  obtain ⟨⟨k1_0, k1_1, k1_2⟩, f1_0, f1_1, f1_2⟩ := (BX1.out.get 1 rfl).three
  clear hraw
  have hraw := hasRow_any cols row A n c0 w1
  rw [A1.out] at hraw
  have hcall := hraw
  have HCALL := hid hcall
  clear hcall
  go_wp2_with fail
  with_reducible refine HCALL.out.mono ?_
  rintro e w2 ⟨rfl, hb⟩
  dsimp only
  have BX2 := hid (BX1.out.below hb)
  have H2 := hid (H1.out.trans (hb.mono H1.out.size))
  have S2 := hid (Nat.le_trans S1.out hb.size)
  clear hb HCALL
  clear k0_0 k0_1 k1_0 k1_1 k1_2 f0_0 f0_1 f1_0 f1_1 f1_2
  obtain ⟨⟨k0_0, k0_1⟩, f0_0, f0_1⟩ := (BX2.out.get 0 rfl).two
  obtain ⟨⟨k1_0, k1_1, k1_2⟩, f1_0, f1_1, f1_2⟩ := (BX2.out.get 1 rfl).three
  clear hraw
  have hraw := hasCol_any cols col A n c0 w2
  rw [A2.out] at hraw
  have hcall := hraw
  have HCALL := hid hcall
  clear hcall
  go_wp2_with fail
  with_reducible refine HCALL.out.mono ?_
  rintro e w3 ⟨rfl, hb⟩
  dsimp only
  have BX3 := hid (BX2.out.below hb)
  have H3 := hid (H2.out.trans (hb.mono H2.out.size))
  have S3 := hid (Nat.le_trans S2.out hb.size)
  clear hb HCALL
  clear k0_0 k0_1 k1_0 k1_1 k1_2 f0_0 f0_1 f1_0 f1_1 f1_2
  obtain ⟨⟨k0_0, k0_1⟩, f0_0, f0_1⟩ := (BX3.out.get 0 rfl).two
  obtain ⟨⟨k1_0, k1_1, k1_2⟩, f1_0, f1_1, f1_2⟩ := (BX3.out.get 1 rfl).three
  clear hraw
  have hraw := pLook_any ⟨fg, bg, fl⟩ w3
  rw [A4.out] at hraw
  unfold At.agg at hraw
  have hcall := hraw
  have HCALL := hid hcall
  clear hcall
  go_wp2_with fail
  with_reducible refine HCALL.out.mono ?_
  rintro e w4 ⟨rfl, hb⟩
  dsimp only
  have BX4 := hid (BX3.out.below hb)
  have H4 := hid (H3.out.trans (hb.mono H3.out.size))
  have S4 := hid (Nat.le_trans S3.out hb.size)
  clear hb HCALL
  clear k0_0 k0_1 k1_0 k1_1 k1_2 f0_0 f0_1 f1_0 f1_1 f1_2
  obtain ⟨⟨k0_0, k0_1⟩, f0_0, f0_1⟩ := (BX4.out.get 0 rfl).two
  obtain ⟨⟨k1_0, k1_1, k1_2⟩, f1_0, f1_1, f1_2⟩ := (BX4.out.get 1 rfl).three
  clear hraw
  go_wp2
  go_ret
  exact ⟨rfl, H4.out⟩

theorem mayShift_any (cols row col num : Int) (a : At) (v : Value) (lv : List (Ln × Value)) (W : World) (hg : GIn W v lv) (hT : Tab W) (hW : TabW W) :
    Calls Tryd.prog 41 #[.agg #[.int .i64 cols, v], .int .i64 row, .int .i64 col, .int .i64 num, a.agg] W fun e w' => e = .returned (.bool (shiftOk cols lv row col num a)) ∧ Below W.heap.size W w' := by
  cases a0 : mayB cols lv
  · exact (shift_0 cols row col num a v lv W hg hT hW a0).mono fun _ _ ⟨he, hb⟩ => ⟨by rw [he, show shiftOk cols lv row col num a = false by unfold shiftOk; rw [a0]; simp], hb⟩
  cases a1 : rowB row lv.length
  · exact (shift_1 cols row col num a v lv W hg hT hW a0 a1).mono fun _ _ ⟨he, hb⟩ => ⟨by rw [he, show shiftOk cols lv row col num a = false by unfold shiftOk; rw [a1]; simp], hb⟩
  cases a2 : colB col cols
  · exact (shift_2 cols row col num a v lv W hg hT hW a0 a1 a2).mono fun _ _ ⟨he, hb⟩ => ⟨by rw [he, show shiftOk cols lv row col num a = false by unfold shiftOk; rw [a2]; simp], hb⟩
  by_cases b3 : num < 0
  · exact (shift_3 cols row col num a v lv W hg hT hW a0 a1 a2 b3).mono fun _ _ ⟨he, hb⟩ => ⟨by rw [he, show shiftOk cols lv row col num a = false by unfold shiftOk; rw [decide_eq_false (p := 0 ≤ num) (by omega)]; simp], hb⟩
  have a3 : 0 ≤ num := by omega
  cases a4 : lookB a
  · exact (shift_4 cols row col num a v lv W hg hT hW a0 a1 a2 a3 a4).mono fun _ _ ⟨he, hb⟩ => ⟨by rw [he, show shiftOk cols lv row col num a = false by unfold shiftOk; rw [a4]; simp], hb⟩
  exact (shift_5 cols row col num a v lv W hg hT hW a0 a1 a2 a3 a4).mono fun _ _ ⟨he, hb⟩ => ⟨by rw [he, show shiftOk cols lv row col num a = true by unfold shiftOk; rw [a0, a1, a2, decide_eq_true a3, a4]; rfl], hb⟩
def scrollOk (cols : Int) (lv : List (Ln × Value)) (top bot num : Int) (a : At) : Bool := mayB cols lv && (rowB top lv.length && (rowB bot lv.length && (decide (top ≤ bot) && (decide (0 ≤ num) && lookB a))))
set_option maxRecDepth 100000 in
set_option maxHeartbeats 2000000 in
theorem scroll_0 (cols top bot num : Int) (a : At) (v : Value) (lv : List (Ln × Value)) (W : World) (hg : GIn W v lv) (hT : Tab W) (hW : TabW W) (a0 : mayB cols lv = false) :
    Calls Tryd.prog 37 #[.agg #[.int .i64 cols, v], .int .i64 top, .int .i64 bot, .int .i64 num, a.agg] W fun e w' => e = .returned (.bool false) ∧ Below W.heap.size W w' := by
  obtain ⟨A, c0, rfl⟩ := hg.lr.spell
  have HG := hid hg
  have HTT := hid hT
  have HWW := hid hW
  obtain ⟨fg, bg, fl⟩ := a
  obtain ⟨n, hn⟩ : ∃ n, lv.length = n := ⟨_, rfl⟩
  have HN := hid hn
  have b0 := (((Bxs.nil W).alloc 24 #[.int .i64 cols, .slice A n c0]).alloc 26 #[.int .i64 fg, .int .i64 bg, .int .i64 fl])
  simp only [World.size_alloc, List.nil_append, List.cons_append] at b0
  have h0 : Below W.heap.size W ((W.alloc (.cells #[.int .i64 cols, .slice A n c0] 24)).alloc (.cells #[.int .i64 fg, .int .i64 bg, .int .i64 fl] 26)) := ((below_alloc _ _).alloc (by simp <;> omega) _)
  have s0 : W.heap.size + 1 + 1 ≤ ((W.alloc (.cells #[.int .i64 cols, .slice A n c0] 24)).alloc (.cells #[.int .i64 fg, .int .i64 bg, .int .i64 fl] 26)).heap.size := by simp
  have BX0 := hid b0
  have H0 := hid h0
  have S0 := hid s0
  unfold mayB at a0
  rw [hn] at a0 ⊢
  have A0 := hid a0
  clear hg hT hW hn b0 h0 s0 a0
  unfold At.agg
  simp only
  go_enter Tryd.func37, Tryd.ntmps37
  go_upto_region 1 with fail
  generalize ((W.alloc (.cells #[.int .i64 cols, .slice A n c0] 24)).alloc (.cells #[.int .i64 fg, .int .i64 bg, .int .i64 fl] 26)) = w0 at *
  obtain ⟨⟨k0_0, k0_1⟩, f0_0, f0_1⟩ := (BX0.out.get 0 rfl).two
  obtain ⟨⟨k1_0, k1_1, k1_2⟩, f1_0, f1_1, f1_2⟩ := (BX0.out.get 1 rfl).three
  have hraw := pRight_any cols _ lv w0 (HG.out.below H0.out).lr (HG.out.below H0.out).ces HG.out.sm (HTT.out.below H0.out) (HWW.out.below H0.out)
  rw [HN.out] at hraw
  rw [show (sizeB cols n && allB cols lv) = _ from A0.out] at hraw
  have hcall := hraw
  have HCALL := hid hcall
  clear hcall
  go_wp2_with fail
  with_reducible refine HCALL.out.mono ?_
  rintro e w1 ⟨rfl, hb⟩
  dsimp only
  have BX1 := hid (BX0.out.below hb)
  have H1 := hid (H0.out.trans (hb.mono H0.out.size))
  have S1 := hid (Nat.le_trans S0.out hb.size)
  clear hb HCALL
  clear k0_0 k0_1 k1_0 k1_1 k1_2 f0_0 f0_1 f1_0 f1_1 f1_2
  obtain ⟨⟨k0_0, k0_1⟩, f0_0, f0_1⟩ := (BX1.out.get 0 rfl).two
  obtain ⟨⟨k1_0, k1_1, k1_2⟩, f1_0, f1_1, f1_2⟩ := (BX1.out.get 1 rfl).three
  clear hraw
  go_wp2
  go_ret
  exact ⟨rfl, H1.out⟩

set_option maxRecDepth 100000 in
set_option maxHeartbeats 2000000 in
theorem scroll_1 (cols top bot num : Int) (a : At) (v : Value) (lv : List (Ln × Value)) (W : World) (hg : GIn W v lv) (hT : Tab W) (hW : TabW W) (a0 : mayB cols lv = true) (a1 : rowB top lv.length = false) :
    Calls Tryd.prog 37 #[.agg #[.int .i64 cols, v], .int .i64 top, .int .i64 bot, .int .i64 num, a.agg] W fun e w' => e = .returned (.bool false) ∧ Below W.heap.size W w' := by
  obtain ⟨A, c0, rfl⟩ := hg.lr.spell
  have HG := hid hg
  have HTT := hid hT
  have HWW := hid hW
  obtain ⟨fg, bg, fl⟩ := a
  obtain ⟨n, hn⟩ : ∃ n, lv.length = n := ⟨_, rfl⟩
  have HN := hid hn
  have b0 := (((Bxs.nil W).alloc 24 #[.int .i64 cols, .slice A n c0]).alloc 26 #[.int .i64 fg, .int .i64 bg, .int .i64 fl])
  simp only [World.size_alloc, List.nil_append, List.cons_append] at b0
  have h0 : Below W.heap.size W ((W.alloc (.cells #[.int .i64 cols, .slice A n c0] 24)).alloc (.cells #[.int .i64 fg, .int .i64 bg, .int .i64 fl] 26)) := ((below_alloc _ _).alloc (by simp <;> omega) _)
  have s0 : W.heap.size + 1 + 1 ≤ ((W.alloc (.cells #[.int .i64 cols, .slice A n c0] 24)).alloc (.cells #[.int .i64 fg, .int .i64 bg, .int .i64 fl] 26)).heap.size := by simp
  have BX0 := hid b0
  have H0 := hid h0
  have S0 := hid s0
  unfold mayB at a0
  rw [hn] at a0 a1 ⊢
  have A0 := hid a0
  have A1 := hid a1
  clear hg hT hW hn b0 h0 s0 a0 a1
  unfold At.agg
  simp only
  go_enter Tryd.func37, Tryd.ntmps37
  go_upto_region 1 with fail
  generalize ((W.alloc (.cells #[.int .i64 cols, .slice A n c0] 24)).alloc (.cells #[.int .i64 fg, .int .i64 bg, .int .i64 fl] 26)) = w0 at *
  obtain ⟨⟨k0_0, k0_1⟩, f0_0, f0_1⟩ := (BX0.out.get 0 rfl).two
  obtain ⟨⟨k1_0, k1_1, k1_2⟩, f1_0, f1_1, f1_2⟩ := (BX0.out.get 1 rfl).three
  have hraw := pRight_any cols _ lv w0 (HG.out.below H0.out).lr (HG.out.below H0.out).ces HG.out.sm (HTT.out.below H0.out) (HWW.out.below H0.out)
  rw [HN.out] at hraw
  rw [show (sizeB cols n && allB cols lv) = _ from A0.out] at hraw
  have hcall := hraw
  have HCALL := hid hcall
  clear hcall
  go_wp2_with fail
  with_reducible refine HCALL.out.mono ?_
  rintro e w1 ⟨rfl, hb⟩
  dsimp only
  have BX1 := hid (BX0.out.below hb)
  have H1 := hid (H0.out.trans (hb.mono H0.out.size))
  have S1 := hid (Nat.le_trans S0.out hb.size)
  clear hb HCALL
  clear k0_0 k0_1 k1_0 k1_1 k1_2 f0_0 f0_1 f1_0 f1_1 f1_2
  obtain ⟨⟨k0_0, k0_1⟩, f0_0, f0_1⟩ := (BX1.out.get 0 rfl).two
  obtain ⟨⟨k1_0, k1_1, k1_2⟩, f1_0, f1_1, f1_2⟩ := (BX1.out.get 1 rfl).three
  clear hraw
  have hraw := hasRow_any cols top A n c0 w1
  rw [A1.out] at hraw
  have hcall := hraw
  have HCALL := hid hcall
  clear hcall
  go_wp2_with fail
  with_reducible refine HCALL.out.mono ?_
  rintro e w2 ⟨rfl, hb⟩
  dsimp only
  have BX2 := hid (BX1.out.below hb)
  have H2 := hid (H1.out.trans (hb.mono H1.out.size))
  have S2 := hid (Nat.le_trans S1.out hb.size)
  clear hb HCALL
  clear k0_0 k0_1 k1_0 k1_1 k1_2 f0_0 f0_1 f1_0 f1_1 f1_2
  obtain ⟨⟨k0_0, k0_1⟩, f0_0, f0_1⟩ := (BX2.out.get 0 rfl).two
  obtain ⟨⟨k1_0, k1_1, k1_2⟩, f1_0, f1_1, f1_2⟩ := (BX2.out.get 1 rfl).three
  clear hraw
  go_wp2
  go_ret
  exact ⟨rfl, H2.out⟩

set_option maxRecDepth 100000 in
set_option maxHeartbeats 2000000 in
theorem scroll_2 (cols top bot num : Int) (a : At) (v : Value) (lv : List (Ln × Value)) (W : World) (hg : GIn W v lv) (hT : Tab W) (hW : TabW W) (a0 : mayB cols lv = true) (a1 : rowB top lv.length = true) (a2 : rowB bot lv.length = false) :
    Calls Tryd.prog 37 #[.agg #[.int .i64 cols, v], .int .i64 top, .int .i64 bot, .int .i64 num, a.agg] W fun e w' => e = .returned (.bool false) ∧ Below W.heap.size W w' := by
  obtain ⟨A, c0, rfl⟩ := hg.lr.spell
  have HG := hid hg
  have HTT := hid hT
  have HWW := hid hW
  obtain ⟨fg, bg, fl⟩ := a
  obtain ⟨n, hn⟩ : ∃ n, lv.length = n := ⟨_, rfl⟩
  have HN := hid hn
  have b0 := (((Bxs.nil W).alloc 24 #[.int .i64 cols, .slice A n c0]).alloc 26 #[.int .i64 fg, .int .i64 bg, .int .i64 fl])
  simp only [World.size_alloc, List.nil_append, List.cons_append] at b0
  have h0 : Below W.heap.size W ((W.alloc (.cells #[.int .i64 cols, .slice A n c0] 24)).alloc (.cells #[.int .i64 fg, .int .i64 bg, .int .i64 fl] 26)) := ((below_alloc _ _).alloc (by simp <;> omega) _)
  have s0 : W.heap.size + 1 + 1 ≤ ((W.alloc (.cells #[.int .i64 cols, .slice A n c0] 24)).alloc (.cells #[.int .i64 fg, .int .i64 bg, .int .i64 fl] 26)).heap.size := by simp
  have BX0 := hid b0
  have H0 := hid h0
  have S0 := hid s0
  unfold mayB at a0
  rw [hn] at a0 a1 a2 ⊢
  have A0 := hid a0
  have A1 := hid a1
  have A2 := hid a2
  clear hg hT hW hn b0 h0 s0 a0 a1 a2
  unfold At.agg
  simp only
  go_enter Tryd.func37, Tryd.ntmps37
  go_upto_region 1 with fail
  generalize ((W.alloc (.cells #[.int .i64 cols, .slice A n c0] 24)).alloc (.cells #[.int .i64 fg, .int .i64 bg, .int .i64 fl] 26)) = w0 at *
  obtain ⟨⟨k0_0, k0_1⟩, f0_0, f0_1⟩ := (BX0.out.get 0 rfl).two
  obtain ⟨⟨k1_0, k1_1, k1_2⟩, f1_0, f1_1, f1_2⟩ := (BX0.out.get 1 rfl).three
  have hraw := pRight_any cols _ lv w0 (HG.out.below H0.out).lr (HG.out.below H0.out).ces HG.out.sm (HTT.out.below H0.out) (HWW.out.below H0.out)
  rw [HN.out] at hraw
  rw [show (sizeB cols n && allB cols lv) = _ from A0.out] at hraw
  have hcall := hraw
  have HCALL := hid hcall
  clear hcall
  go_wp2_with fail
  with_reducible refine HCALL.out.mono ?_
  rintro e w1 ⟨rfl, hb⟩
  dsimp only
  have BX1 := hid (BX0.out.below hb)
  have H1 := hid (H0.out.trans (hb.mono H0.out.size))
  have S1 := hid (Nat.le_trans S0.out hb.size)
  clear hb HCALL
  clear k0_0 k0_1 k1_0 k1_1 k1_2 f0_0 f0_1 f1_0 f1_1 f1_2
  obtain ⟨⟨k0_0, k0_1⟩, f0_0, f0_1⟩ := (BX1.out.get 0 rfl).two
  obtain ⟨⟨k1_0, k1_1, k1_2⟩, f1_0, f1_1, f1_2⟩ := (BX1.out.get 1 rfl).three
  clear hraw
  have hraw := hasRow_any cols top A n c0 w1
  rw [A1.out] at hraw
  have hcall := hraw
  have HCALL := hid hcall
  clear hcall
  go_wp2_with fail
  with_reducible refine HCALL.out.mono ?_
  rintro e w2 ⟨rfl, hb⟩
  dsimp only
  have BX2 := hid (BX1.out.below hb)
  have H2 := hid (H1.out.trans (hb.mono H1.out.size))
  have S2 := hid (Nat.le_trans S1.out hb.size)
  clear hb HCALL
  clear k0_0 k0_1 k1_0 k1_1 k1_2 f0_0 f0_1 f1_0 f1_1 f1_2
  obtain ⟨⟨k0_0, k0_1⟩, f0_0, f0_1⟩ := (BX2.out.get 0 rfl).two
  obtain ⟨⟨k1_0, k1_1, k1_2⟩, f1_0, f1_1, f1_2⟩ := (BX2.out.get 1 rfl).three
  clear hraw
  have hraw := hasRow_any cols bot A n c0 w2
  rw [A2.out] at hraw
  have hcall := hraw
  have HCALL := hid hcall
  clear hcall
  go_wp2_with fail
  with_reducible refine HCALL.out.mono ?_
  rintro e w3 ⟨rfl, hb⟩
  dsimp only
  have BX3 := hid (BX2.out.below hb)
  have H3 := hid (H2.out.trans (hb.mono H2.out.size))
  have S3 := hid (Nat.le_trans S2.out hb.size)
  clear hb HCALL
  clear k0_0 k0_1 k1_0 k1_1 k1_2 f0_0 f0_1 f1_0 f1_1 f1_2
  obtain ⟨⟨k0_0, k0_1⟩, f0_0, f0_1⟩ := (BX3.out.get 0 rfl).two
  obtain ⟨⟨k1_0, k1_1, k1_2⟩, f1_0, f1_1, f1_2⟩ := (BX3.out.get 1 rfl).three
  clear hraw
  go_wp2
  go_ret
  exact ⟨rfl, H3.out⟩

set_option maxRecDepth 100000 in
set_option maxHeartbeats 2000000 in
theorem scroll_3 (cols top bot num : Int) (a : At) (v : Value) (lv : List (Ln × Value)) (W : World) (hg : GIn W v lv) (hT : Tab W) (hW : TabW W) (a0 : mayB cols lv = true) (a1 : rowB top lv.length = true) (a2 : rowB bot lv.length = true) (a3 : bot < top) :
    Calls Tryd.prog 37 #[.agg #[.int .i64 cols, v], .int .i64 top, .int .i64 bot, .int .i64 num, a.agg] W fun e w' => e = .returned (.bool false) ∧ Below W.heap.size W w' := by
  obtain ⟨A, c0, rfl⟩ := hg.lr.spell
  have HG := hid hg
  have HTT := hid hT
  have HWW := hid hW
  obtain ⟨fg, bg, fl⟩ := a
  obtain ⟨n, hn⟩ : ∃ n, lv.length = n := ⟨_, rfl⟩
  have HN := hid hn
  have b0 := (((Bxs.nil W).alloc 24 #[.int .i64 cols, .slice A n c0]).alloc 26 #[.int .i64 fg, .int .i64 bg, .int .i64 fl])
  simp only [World.size_alloc, List.nil_append, List.cons_append] at b0
  have h0 : Below W.heap.size W ((W.alloc (.cells #[.int .i64 cols, .slice A n c0] 24)).alloc (.cells #[.int .i64 fg, .int .i64 bg, .int .i64 fl] 26)) := ((below_alloc _ _).alloc (by simp <;> omega) _)
  have s0 : W.heap.size + 1 + 1 ≤ ((W.alloc (.cells #[.int .i64 cols, .slice A n c0] 24)).alloc (.cells #[.int .i64 fg, .int .i64 bg, .int .i64 fl] 26)).heap.size := by simp
  have BX0 := hid b0
  have H0 := hid h0
  have S0 := hid s0
  unfold mayB at a0
  rw [hn] at a0 a1 a2 ⊢
  have A0 := hid a0
  have A1 := hid a1
  have A2 := hid a2
  have q3 : decide (top ≤ bot) = false := by simp; omega
  clear hg hT hW hn b0 h0 s0 a0 a1 a2
  unfold At.agg
  simp only
  go_enter Tryd.func37, Tryd.ntmps37
  go_upto_region 1 with fail
  generalize ((W.alloc (.cells #[.int .i64 cols, .slice A n c0] 24)).alloc (.cells #[.int .i64 fg, .int .i64 bg, .int .i64 fl] 26)) = w0 at *
  obtain ⟨⟨k0_0, k0_1⟩, f0_0, f0_1⟩ := (BX0.out.get 0 rfl).two
  obtain ⟨⟨k1_0, k1_1, k1_2⟩, f1_0, f1_1, f1_2⟩ := (BX0.out.get 1 rfl).three
  have hraw := pRight_any cols _ lv w0 (HG.out.below H0.out).lr (HG.out.below H0.out).ces HG.out.sm (HTT.out.below H0.out) (HWW.out.below H0.out)
  rw [HN.out] at hraw
  rw [show (sizeB cols n && allB cols lv) = _ from A0.out] at hraw
  have hcall := hraw
  have HCALL := hid hcall
  clear hcall
  go_wp2_with fail
  with_reducible refine HCALL.out.mono ?_
  rintro e w1 ⟨rfl, hb⟩
  dsimp only
  have BX1 := hid (BX0.out.below hb)
  have H1 := hid (H0.out.trans (hb.mono H0.out.size))
  have S1 := hid (Nat.le_trans S0.out hb.size)
  clear hb HCALL
  clear k0_0 k0_1 k1_0 k1_1 k1_2 f0_0 f0_1 f1_0 f1_1 f1_2
  obtain ⟨⟨k0_0, k0_1⟩, f0_0, f0_1⟩ := (BX1.out.get 0 rfl).two
  obtain ⟨⟨k1_0, k1_1, k1_2⟩, f1_0, f1_1, f1_2⟩ := (BX1.out.get 1 rfl).three
  clear hraw
  have hraw := hasRow_any cols top A n c0 w1
  rw [A1.out] at hraw
  have hcall := hraw
  have HCALL := hid hcall
  clear hcall
  go_wp2_with fail
  with_reducible refine HCALL.out.mono ?_
  rintro e w2 ⟨rfl, hb⟩
  dsimp only
  have BX2 := hid (BX1.out.below hb)
  have H2 := hid (H1.out.trans (hb.mono H1.out.size))
  have S2 := hid (Nat.le_trans S1.out hb.size)
  clear hb HCALL
  clear k0_0 k0_1 k1_0 k1_1 k1_2 f0_0 f0_1 f1_0 f1_1 f1_2
  obtain ⟨⟨k0_0, k0_1⟩, f0_0, f0_1⟩ := (BX2.out.get 0 rfl).two
  obtain ⟨⟨k1_0, k1_1, k1_2⟩, f1_0, f1_1, f1_2⟩ := (BX2.out.get 1 rfl).three
  clear hraw
  have hraw := hasRow_any cols bot A n c0 w2
  rw [A2.out] at hraw
  have hcall := hraw
  have HCALL := hid hcall
  clear hcall
  go_wp2_with fail
  with_reducible refine HCALL.out.mono ?_
  rintro e w3 ⟨rfl, hb⟩
  dsimp only
  have BX3 := hid (BX2.out.below hb)
  have H3 := hid (H2.out.trans (hb.mono H2.out.size))
  have S3 := hid (Nat.le_trans S2.out hb.size)
  clear hb HCALL
  clear k0_0 k0_1 k1_0 k1_1 k1_2 f0_0 f0_1 f1_0 f1_1 f1_2
  obtain ⟨⟨k0_0, k0_1⟩, f0_0, f0_1⟩ := (BX3.out.get 0 rfl).two
  obtain ⟨⟨k1_0, k1_1, k1_2⟩, f1_0, f1_1, f1_2⟩ := (BX3.out.get 1 rfl).three
  clear hraw
  go_wp2
  go_ret
  exact ⟨rfl, H3.out⟩

set_option maxRecDepth 100000 in
set_option maxHeartbeats 2000000 in
theorem scroll_4 (cols top bot num : Int) (a : At) (v : Value) (lv : List (Ln × Value)) (W : World) (hg : GIn W v lv) (hT : Tab W) (hW : TabW W) (a0 : mayB cols lv = true) (a1 : rowB top lv.length = true) (a2 : rowB bot lv.length = true) (a3 : top ≤ bot) (a4 : num < 0) :
    Calls Tryd.prog 37 #[.agg #[.int .i64 cols, v], .int .i64 top, .int .i64 bot, .int .i64 num, a.agg] W fun e w' => e = .returned (.bool false) ∧ Below W.heap.size W w' := by
  obtain ⟨A, c0, rfl⟩ := hg.lr.spell
  have HG := hid hg
  have HTT := hid hT
  have HWW := hid hW
  obtain ⟨fg, bg, fl⟩ := a
  obtain ⟨n, hn⟩ : ∃ n, lv.length = n := ⟨_, rfl⟩
  have HN := hid hn
  have b0 := (((Bxs.nil W).alloc 24 #[.int .i64 cols, .slice A n c0]).alloc 26 #[.int .i64 fg, .int .i64 bg, .int .i64 fl])
  simp only [World.size_alloc, List.nil_append, List.cons_append] at b0
  have h0 : Below W.heap.size W ((W.alloc (.cells #[.int .i64 cols, .slice A n c0] 24)).alloc (.cells #[.int .i64 fg, .int .i64 bg, .int .i64 fl] 26)) := ((below_alloc _ _).alloc (by simp <;> omega) _)
  have s0 : W.heap.size + 1 + 1 ≤ ((W.alloc (.cells #[.int .i64 cols, .slice A n c0] 24)).alloc (.cells #[.int .i64 fg, .int .i64 bg, .int .i64 fl] 26)).heap.size := by simp
  have BX0 := hid b0
  have H0 := hid h0
  have S0 := hid s0
  unfold mayB at a0
  rw [hn] at a0 a1 a2 ⊢
  have A0 := hid a0
  have A1 := hid a1
  have A2 := hid a2
  have q3 : decide (top ≤ bot) = true := by simp; omega
  have q4 : decide (0 ≤ num) = false := by simp; omega
  clear hg hT hW hn b0 h0 s0 a0 a1 a2
  unfold At.agg
  simp only
  go_enter Tryd.func37, Tryd.ntmps37
  go_upto_region 1 with fail
  generalize ((W.alloc (.cells #[.int .i64 cols, .slice A n c0] 24)).alloc (.cells #[.int .i64 fg, .int .i64 bg, .int .i64 fl] 26)) = w0 at *
  obtain ⟨⟨k0_0, k0_1⟩, f0_0, f0_1⟩ := (BX0.out.get 0 rfl).two
  obtain ⟨⟨k1_0, k1_1, k1_2⟩, f1_0, f1_1, f1_2⟩ := (BX0.out.get 1 rfl).three
  have hraw := pRight_any cols _ lv w0 (HG.out.below H0.out).lr (HG.out.below H0.out).ces HG.out.sm (HTT.out.below H0.out) (HWW.out.below H0.out)
  rw [HN.out] at hraw
  rw [show (sizeB cols n && allB cols lv) = _ from A0.out] at hraw
  have hcall := hraw
  have HCALL := hid hcall
  clear hcall
  go_wp2_with fail
  with_reducible refine HCALL.out.mono ?_
  rintro e w1 ⟨rfl, hb⟩
  dsimp only
  have BX1 := hid (BX0.out.below hb)
  have H1 := hid (H0.out.trans (hb.mono H0.out.size))
  have S1 := hid (Nat.le_trans S0.out hb.size)
  clear hb HCALL
  clear k0_0 k0_1 k1_0 k1_1 k1_2 f0_0 f0_1 f1_0 f1_1 f1_2
  obtain ⟨⟨k0_0, k0_1⟩, f0_0, f0_1⟩ := (BX1.out.get 0 rfl).two
  obtain ⟨⟨k1_0, k1_1, k1_2⟩, f1_0, f1_1, f1_2⟩ := (BX1.out.get 1 rfl).three
  clear hraw
  have hraw := hasRow_any cols top A n c0 w1
  rw [A1.out] at hraw
  have hcall := hraw
  have HCALL := hid hcall
  clear hcall
  go_wp2_with fail
  with_reducible refine HCALL.out.mono ?_
  rintro e w2 ⟨rfl, hb⟩
  dsimp only
  have BX2 := hid (BX1.out.below hb)
  have H2 := hid (H1.out.trans (hb.mono H1.out.size))
  have S2 := hid (Nat.le_trans S1.out hb.size)
  clear hb HCALL
  clear k0_0 k0_1 k1_0 k1_1 k1_2 f0_0 f0_1 f1_0 f1_1 f1_2
  obtain ⟨⟨k0_0, k0_1⟩, f0_0, f0_1⟩ := (BX2.out.get 0 rfl).two
  obtain ⟨⟨k1_0, k1_1, k1_2⟩, f1_0, f1_1, f1_2⟩ := (BX2.out.get 1 rfl).three
  clear hraw
  have hraw := hasRow_any cols bot A n c0 w2
  rw [A2.out] at hraw
  have hcall := hraw
  have HCALL := hid hcall
  clear hcall
  go_wp2_with fail
  with_reducible refine HCALL.out.mono ?_
  rintro e w3 ⟨rfl, hb⟩
  dsimp only
  have BX3 := hid (BX2.out.below hb)
  have H3 := hid (H2.out.trans (hb.mono H2.out.size))
  have S3 := hid (Nat.le_trans S2.out hb.size)
  clear hb HCALL
  clear k0_0 k0_1 k1_0 k1_1 k1_2 f0_0 f0_1 f1_0 f1_1 f1_2
  obtain ⟨⟨k0_0, k0_1⟩, f0_0, f0_1⟩ := (BX3.out.get 0 rfl).two
  obtain ⟨⟨k1_0, k1_1, k1_2⟩, f1_0, f1_1, f1_2⟩ := (BX3.out.get 1 rfl).three
  clear hraw
  go_wp2
  go_ret
  exact ⟨rfl, H3.out⟩

set_option maxRecDepth 100000 in
set_option maxHeartbeats 2000000 in
theorem scroll_5 (cols top bot num : Int) (a : At) (v : Value) (lv : List (Ln × Value)) (W : World) (hg : GIn W v lv) (hT : Tab W) (hW : TabW W) (a0 : mayB cols lv = true) (a1 : rowB top lv.length = true) (a2 : rowB bot lv.length = true) (a3 : top ≤ bot) (a4 : 0 ≤ num) (a5 : lookB a = false) :
    Calls Tryd.prog 37 #[.agg #[.int .i64 cols, v], .int .i64 top, .int .i64 bot, .int .i64 num, a.agg] W fun e w' => e = .returned (.bool false) ∧ Below W.heap.size W w' := by
  obtain ⟨A, c0, rfl⟩ := hg.lr.spell
  have HG := hid hg
  have HTT := hid hT
  have HWW := hid hW
  obtain ⟨fg, bg, fl⟩ := a
  obtain ⟨n, hn⟩ : ∃ n, lv.length = n := ⟨_, rfl⟩
  have HN := hid hn
  have b0 := (((Bxs.nil W).alloc 24 #[.int .i64 cols, .slice A n c0]).alloc 26 #[.int .i64 fg, .int .i64 bg, .int .i64 fl])
  simp only [World.size_alloc, List.nil_append, List.cons_append] at b0
  have h0 : Below W.heap.size W ((W.alloc (.cells #[.int .i64 cols, .slice A n c0] 24)).alloc (.cells #[.int .i64 fg, .int .i64 bg, .int .i64 fl] 26)) := ((below_alloc _ _).alloc (by simp <;> omega) _)
  have s0 : W.heap.size + 1 + 1 ≤ ((W.alloc (.cells #[.int .i64 cols, .slice A n c0] 24)).alloc (.cells #[.int .i64 fg, .int .i64 bg, .int .i64 fl] 26)).heap.size := by simp
  have BX0 := hid b0
  have H0 := hid h0
  have S0 := hid s0
  unfold mayB at a0
  rw [hn] at a0 a1 a2 ⊢
  have A0 := hid a0
  have A1 := hid a1
  have A2 := hid a2
  have A5 := hid a5
  have q3 : decide (top ≤ bot) = true := by simp; omega
  have q4 : decide (0 ≤ num) = true := by simp; omega
  clear hg hT hW hn b0 h0 s0 a0 a1 a2 a5
  unfold At.agg
  simp only
  go_enter Tryd.func37, Tryd.ntmps37
  go_upto_region 1 with fail
  generalize ((W.alloc (.cells #[.int .i64 cols, .slice A n c0] 24)).alloc (.cells #[.int .i64 fg, .int .i64 bg, .int .i64 fl] 26)) = w0 at *
  obtain ⟨⟨k0_0, k0_1⟩, f0_0, f0_1⟩ := (BX0.out.get 0 rfl).two
  obtain ⟨⟨k1_0, k1_1, k1_2⟩, f1_0, f1_1, f1_2⟩ := (BX0.out.get 1 rfl).three
  have hraw := pRight_any cols _ lv w0 (HG.out.below H0.out).lr (HG.out.below H0.out).ces HG.out.sm (HTT.out.below H0.out) (HWW.out.below H0.out)
  rw [HN.out] at hraw
  rw [show (sizeB cols n && allB cols lv) = _ from A0.out] at hraw
  have hcall := hraw
  have HCALL := hid hcall
  clear hcall
  go_wp2_with fail
  with_reducible refine HCALL.out.mono ?_
  rintro e w1 ⟨rfl, hb⟩
  dsimp only
  have BX1 := hid (BX0.out.below hb)
  have H1 := hid (H0.out.trans (hb.mono H0.out.size))
  have S1 := hid (Nat.le_trans S0.out hb.size)
  clear hb HCALL
  clear k0_0 k0_1 k1_0 k1_1 k1_2 f0_0 f0_1 f1_0 f1_1 f1_2
  obtain ⟨⟨k0_0, k0_1⟩, f0_0, f0_1⟩ := (BX1.out.get 0 rfl).two
  obtain ⟨⟨k1_0, k1_1, k1_2⟩, f1_0, f1_1, f1_2⟩ := (BX1.out.get 1 rfl).three
  clear hraw
  have hraw := hasRow_any cols top A n c0 w1
  rw [A1.out] at hraw
  have hcall := hraw
  have HCALL := hid hcall
  clear hcall
  go_wp2_with fail
  with_reducible refine HCALL.out.mono ?_
  rintro e w2 ⟨rfl, hb⟩
  dsimp only
  have BX2 := hid (BX1.out.below hb)
  have H2 := hid (H1.out.trans (hb.mono H1.out.size))
  have S2 := hid (Nat.le_trans S1.out hb.size)
  clear hb HCALL
  clear k0_0 k0_1 k1_0 k1_1 k1_2 f0_0 f0_1 f1_0 f1_1 f1_2
  obtain ⟨⟨k0_0, k0_1⟩, f0_0, f0_1⟩ := (BX2.out.get 0 rfl).two
  obtain ⟨⟨k1_0, k1_1, k1_2⟩, f1_0, f1_1, f1_2⟩ := (BX2.out.get 1 rfl).three
  clear hraw
  have hraw := hasRow_any cols bot A n c0 w2
  rw [A2.out] at hraw
  have hcall := hraw
  have HCALL := hid hcall
  clear hcall
  go_wp2_with fail
  with_reducible refine HCALL.out.mono ?_
  rintro e w3 ⟨rfl, hb⟩
  dsimp only
  have BX3 := hid (BX2.out.below hb)
  have H3 := hid (H2.out.trans (hb.mono H2.out.size))
  have S3 := hid (Nat.le_trans S2.out hb.size)
  clear hb HCALL
  clear k0_0 k0_1 k1_0 k1_1 k1_2 f0_0 f0_1 f1_0 f1_1 f1_2
  obtain ⟨⟨k0_0, k0_1⟩, f0_0, f0_1⟩ := (BX3.out.get 0 rfl).two
  obtain ⟨⟨k1_0, k1_1, k1_2⟩, f1_0, f1_1, f1_2⟩ := (BX3.out.get 1 rfl).three
  clear hraw
  have hraw := pLook_any ⟨fg, bg, fl⟩ w3
  rw [A5.out] at hraw
  unfold At.agg at hraw
  have hcall := hraw
  have HCALL := hid hcall
  clear hcall
  go_wp2_with fail
  with_reducible refine HCALL.out.mono ?_
  rintro e w4 ⟨rfl, hb⟩
  dsimp only
  have BX4 := hid (BX3.out.below hb)
  have H4 := hid (H3.out.trans (hb.mono H3.out.size))
  have S4 := hid (Nat.le_trans S3.out hb.size)
  clear hb HCALL
  clear k0_0 k0_1 k1_0 k1_1 k1_2 f0_0 f0_1 f1_0 f1_1 f1_2
  obtain ⟨⟨k0_0, k0_1⟩, f0_0, f0_1⟩ := (BX4.out.get 0 rfl).two
  obtain ⟨⟨k1_0, k1_1, k1_2⟩, f1_0, f1_1, f1_2⟩ := (BX4.out.get 1 rfl).three
  clear hraw
  go_wp2
  go_ret
  exact ⟨rfl, H4.out⟩

set_option maxRecDepth 100000 in
set_option maxHeartbeats 2000000 in
theorem scroll_6 (cols top bot num : Int) (a : At) (v : Value) (lv : List (Ln × Value)) (W : World) (hg : GIn W v lv) (hT : Tab W) (hW : TabW W) (a0 : mayB cols lv = true) (a1 : rowB top lv.length = true) (a2 : rowB bot lv.length = true) (a3 : top ≤ bot) (a4 : 0 ≤ num) (a5 : lookB a = true) :
    Calls Tryd.prog 37 #[.agg #[.int .i64 cols, v], .int .i64 top, .int .i64 bot, .int .i64 num, a.agg] W fun e w' => e = .returned (.bool true) ∧ Below W.heap.size W w' := by
  obtain ⟨A, c0, rfl⟩ := hg.lr.spell
  have HG := hid hg
  have HTT := hid hT
  have HWW := hid hW
  obtain ⟨fg, bg, fl⟩ := a
  obtain ⟨n, hn⟩ : ∃ n, lv.length = n := ⟨_, rfl⟩
  have HN := hid hn
  have b0 := (((Bxs.nil W).alloc 24 #[.int .i64 cols, .slice A n c0]).alloc 26 #[.int .i64 fg, .int .i64 bg, .int .i64 fl])
  simp only [World.size_alloc, List.nil_append, List.cons_append] at b0
  have h0 : Below W.heap.size W ((W.alloc (.cells #[.int .i64 cols, .slice A n c0] 24)).alloc (.cells #[.int .i64 fg, .int .i64 bg, .int .i64 fl] 26)) := ((below_alloc _ _).alloc (by simp <;> omega) _)
  have s0 : W.heap.size + 1 + 1 ≤ ((W.alloc (.cells #[.int .i64 cols, .slice A n c0] 24)).alloc (.cells #[.int .i64 fg, .int .i64 bg, .int .i64 fl] 26)).heap.size := by simp
  have BX0 := hid b0
  have H0 := hid h0
  have S0 := hid s0
  unfold mayB at a0
  rw [hn] at a0 a1 a2 ⊢
  have A0 := hid a0
  have A1 := hid a1
  have A2 := hid a2
  have A5 := hid a5
  have q3 : decide (top ≤ bot) = true := by simp; omega
  have q4 : decide (0 ≤ num) = true := by simp; omega
  clear hg hT hW hn b0 h0 s0 a0 a1 a2 a5
  unfold At.agg
  simp only
  go_enter Tryd.func37, Tryd.ntmps37
  go_upto_region 1 with fail
  generalize ((W.alloc (.cells #[.int .i64 cols, .slice A n c0] 24)).alloc (.cells #[.int .i64 fg, .int .i64 bg, .int .i64 fl] 26)) = w0 at *
  obtain ⟨⟨k0_0, k0_1⟩, f0_0, f0_1⟩ := (BX0.out.get 0 rfl).two
  obtain ⟨⟨k1_0, k1_1, k1_2⟩, f1_0, f1_1, f1_2⟩ := (BX0.out.get 1 rfl).three
  have hraw := pRight_any cols _ lv w0 (HG.out.below H0.out).lr (HG.out.below H0.out).ces HG.out.sm (HTT.out.below H0.out) (HWW.out.below H0.out)
  rw [HN.out] at hraw
  rw [show (sizeB cols n && allB cols lv) = _ from A0.out] at hraw
  have hcall := hraw
  have HCALL := hid hcall
  clear hcall
  go_wp2_with fail
  with_reducible refine HCALL.out.mono ?_
  rintro e w1 ⟨rfl, hb⟩
  dsimp only
  have BX1 := hid (BX0.out.below hb)
  have H1 := hid (H0.out.trans (hb.mono H0.out.size))
  have S1 := hid (Nat.le_trans S0.out hb.size)
  clear hb HCALL
  clear k0_0 k0_1 k1_0 k1_1 k1_2 f0_0 f0_1 f1_0 f1_1 f1_2
  obtain ⟨⟨k0_0, k0_1⟩, f0_0, f0_1⟩ := (BX1.out.get 0 rfl).two
  obtain ⟨⟨k1_0, k1_1, k1_2⟩, f1_0, f1_1, f1_2⟩ := (BX1.out.get 1 rfl).three
  clear hraw
  have hraw := hasRow_any cols top A n c0 w1
  rw [A1.out] at hraw
  have hcall := hraw
  have HCALL := hid hcall
  clear hcall
  go_wp2_with fail
  with_reducible refine HCALL.out.mono ?_
  rintro e w2 ⟨rfl, hb⟩
  dsimp only
  have BX2 := hid (BX1.out.below hb)
  have H2 := hid (H1.out.trans (hb.mono H1.out.size))
  have S2 := hid (Nat.le_trans S1.out hb.size)
  clear hb HCALL
  clear k0_0 k0_1 k1_0 k1_1 k1_2 f0_0 f0_1 f1_0 f1_1 f1_2
  obtain ⟨⟨k0_0, k0_1⟩, f0_0, f0_1⟩ := (BX2.out.get 0 rfl).two
  obtain ⟨⟨k1_0, k1_1, k1_2⟩, f1_0, f1_1, f1_2⟩ := (BX2.out.get 1 rfl).three
  clear hraw
  have hraw := hasRow_any cols bot A n c0 w2
  rw [A2.out] at hraw
  have hcall := hraw
  have HCALL := hid hcall
  clear hcall
  go_wp2_with fail
  with_reducible refine HCALL.out.mono ?_
  rintro e w3 ⟨rfl, hb⟩
  dsimp only
  have BX3 := hid (BX2.out.below hb)
  have H3 := hid (H2.out.trans (hb.mono H2.out.size))
  have S3 := hid (Nat.le_trans S2.out hb.size)
  clear hb HCALL
  clear k0_0 k0_1 k1_0 k1_1 k1_2 f0_0 f0_1 f1_0 f1_1 f1_2
  obtain ⟨⟨k0_0, k0_1⟩, f0_0, f0_1⟩ := (BX3.out.get 0 rfl).two
  obtain ⟨⟨k1_0, k1_1, k1_2⟩, f1_0, f1_1, f1_2⟩ := (BX3.out.get 1 rfl).three
  clear hraw
  have hraw := pLook_any ⟨fg, bg, fl⟩ w3
  rw [A5.out] at hraw
  unfold At.agg at hraw
  have hcall := hraw
  have HCALL := hid hcall
  clear hcall
  go_wp2_with fail
  with_reducible refine HCALL.out.mono ?_
  rintro e w4 ⟨rfl, hb⟩
  dsimp only
  have BX4 := hid (BX3.out.below hb)
  have H4 := hid (H3.out.trans (hb.mono H3.out.size))
  have S4 := hid (Nat.le_trans S3.out hb.size)
  clear hb HCALL
  clear k0_0 k0_1 k1_0 k1_1 k1_2 f0_0 f0_1 f1_0 f1_1 f1_2
  obtain ⟨⟨k0_0, k0_1⟩, f0_0, f0_1⟩ := (BX4.out.get 0 rfl).two
  obtain ⟨⟨k1_0, k1_1, k1_2⟩, f1_0, f1_1, f1_2⟩ := (BX4.out.get 1 rfl).three
  clear hraw
  go_wp2
  go_ret
  exact ⟨rfl, H4.out⟩

theorem mayScroll_any (cols top bot num : Int) (a : At) (v : Value) (lv : List (Ln × Value)) (W : World) (hg : GIn W v lv) (hT : Tab W) (hW : TabW W) :
    Calls Tryd.prog 37 #[.agg #[.int .i64 cols, v], .int .i64 top, .int .i64 bot, .int .i64 num, a.agg] W fun e w' => e = .returned (.bool (scrollOk cols lv top bot num a)) ∧ Below W.heap.size W w' := by
  cases a0 : mayB cols lv
  · exact (scroll_0 cols top bot num a v lv W hg hT hW a0).mono fun _ _ ⟨he, hb⟩ => ⟨by rw [he, show scrollOk cols lv top bot num a = false by unfold scrollOk; rw [a0]; simp], hb⟩
  cases a1 : rowB top lv.length
  · exact (scroll_1 cols top bot num a v lv W hg hT hW a0 a1).mono fun _ _ ⟨he, hb⟩ => ⟨by rw [he, show scrollOk cols lv top bot num a = false by unfold scrollOk; rw [a1]; simp], hb⟩
  cases a2 : rowB bot lv.length
  · exact (scroll_2 cols top bot num a v lv W hg hT hW a0 a1 a2).mono fun _ _ ⟨he, hb⟩ => ⟨by rw [he, show scrollOk cols lv top bot num a = false by unfold scrollOk; rw [a2]; simp], hb⟩
  by_cases b3 : bot < top
  · exact (scroll_3 cols top bot num a v lv W hg hT hW a0 a1 a2 b3).mono fun _ _ ⟨he, hb⟩ => ⟨by rw [he, show scrollOk cols lv top bot num a = false by unfold scrollOk; rw [decide_eq_false (p := top ≤ bot) (by omega)]; simp], hb⟩
  have a3 : top ≤ bot := by omega
  by_cases b4 : num < 0
  · exact (scroll_4 cols top bot num a v lv W hg hT hW a0 a1 a2 a3 b4).mono fun _ _ ⟨he, hb⟩ => ⟨by rw [he, show scrollOk cols lv top bot num a = false by unfold scrollOk; rw [decide_eq_false (p := 0 ≤ num) (by omega)]; simp], hb⟩
  have a4 : 0 ≤ num := by omega
  cases a5 : lookB a
  · exact (scroll_5 cols top bot num a v lv W hg hT hW a0 a1 a2 a3 a4 a5).mono fun _ _ ⟨he, hb⟩ => ⟨by rw [he, show scrollOk cols lv top bot num a = false by unfold scrollOk; rw [a5]; simp], hb⟩
  exact (scroll_6 cols top bot num a v lv W hg hT hW a0 a1 a2 a3 a4 a5).mono fun _ _ ⟨he, hb⟩ => ⟨by rw [he, show scrollOk cols lv top bot num a = true by unfold scrollOk; rw [a0, a1, a2, decide_eq_true a3, decide_eq_true a4, a5]; rfl], hb⟩
end Go.Proofs.YtkejoknphnkhnaaDoor
