/- Layer 6, the package: putting a letter in: refused, no room, done. Made by wip/gen/gridPut.py. -/
import Derived.Test.YtkejoknphnkhnaaDoorGridPbQ
namespace Go.Proofs.YtkejoknphnkhnaaDoor
open Go.RowKit

def GNo (W : World) (n : Int) (e : Ending) (w' : World) : Prop := e = .returned (.tuple #[.agg #[.int .i64 0, .slice none 0 0], .int .i64 n]) ∧ Below W.heap.size W w'
def GYes (W : World) (cols : Int) (lv : List (Ln × Value)) (ls : List Ln) (e : Ending) (w' : World) : Prop :=
  ∃ v lv', e = .returned (.tuple #[.agg #[.int .i64 cols, v], .int .i64 0]) ∧ lv'.map Prod.fst = ls ∧ LSl w' W.heap.size v lv' ∧ NewOf w' W.heap.size lv lv' ∧ Below W.heap.size W w'
/-- A grid as it is handed in. -/
structure GIn (W : World) (v : Value) (lv : List (Ln × Value)) : Prop where
  lr : LR W v lv
  ces : CesOf W lv
  sm : Sm lv
theorem GIn.below {W W' : World} {v : Value} {lv : List (Ln × Value)} (h : GIn W v lv) (hb : Below W.heap.size W W') : GIn W' v lv := ⟨h.lr.below hb, h.ces.below hb, h.sm⟩
def mayB (cols : Int) (lv : List (Ln × Value)) : Bool := sizeB cols lv.length && allB cols lv

set_option maxRecDepth 100000 in
set_option maxHeartbeats 2000000 in
theorem put_no0 (cols row col : Int) (v : Value) (lv : List (Ln × Value)) (c : Ce) (W : World) (hg : GIn W v lv) (htx : c.tx.size ≤ 1000) (hT : Tab W) (hW : TabW W) (a0 : mayB cols lv = false) :
    Calls Tryd.prog 52 #[.agg #[.int .i64 cols, v], .int .i64 row, .int .i64 col, c.agg] W (GNo W 1) := by
  obtain ⟨A, c0, rfl⟩ := hg.lr.spell
  have HG := hid hg
  have HTT := hid hT
  have HWW := hid hW
  obtain ⟨tx, wd, fg, bg, fl⟩ := c
  have HTX := hid htx
  have b0 := ((((Bxs.nil W).alloc 24 #[.int .i64 cols, .slice A lv.length c0]).alloc 3 #[.int .i64 col]).alloc 66 #[.string tx, .int .i64 wd, .int .i64 fg, .int .i64 bg, .int .i64 fl]).alloc 24 #[.int .i64 0, .slice none 0 0]
  simp only [World.size_alloc, List.nil_append, List.cons_append] at b0
  have h0 : Below W.heap.size W ((((W.alloc (.cells #[.int .i64 cols, .slice A lv.length c0] 24)).alloc (.cells #[.int .i64 col] 3)).alloc (.cells #[.string tx, .int .i64 wd, .int .i64 fg, .int .i64 bg, .int .i64 fl] 66)).alloc (.cells #[.int .i64 0, .slice none 0 0] 24)) := (((below_alloc _ _).alloc (by simp <;> omega) _).alloc (by simp <;> omega) _).alloc (by simp <;> omega) _
  have s0 : W.heap.size + 1 + 1 + 1 + 1 ≤ ((((W.alloc (.cells #[.int .i64 cols, .slice A lv.length c0] 24)).alloc (.cells #[.int .i64 col] 3)).alloc (.cells #[.string tx, .int .i64 wd, .int .i64 fg, .int .i64 bg, .int .i64 fl] 66)).alloc (.cells #[.int .i64 0, .slice none 0 0] 24)).heap.size := by simp
  have BX0 := hid b0
  have H0 := hid h0
  have S0 := hid s0
  obtain ⟨n, hn⟩ : ∃ n, lv.length = n := ⟨_, rfl⟩
  have HN := hid hn
  unfold mayB at a0
  rw [hn] at a0 b0 h0 s0 BX0 H0 S0 ⊢
  have A0 := hid a0
  clear hg hT hW htx hn b0 h0 s0 a0
  show Calls _ _ #[.agg #[.int .i64 cols, .slice A n c0], .int .i64 row, .int .i64 col, .agg #[.string tx, .int .i64 wd, .int .i64 fg, .int .i64 bg, .int .i64 fl]] _ _
  go_enter Tryd.func52, Tryd.ntmps52
  go_upto_region 1 with fail
  generalize ((((W.alloc (.cells #[.int .i64 cols, .slice A n c0] 24)).alloc (.cells #[.int .i64 col] 3)).alloc (.cells #[.string tx, .int .i64 wd, .int .i64 fg, .int .i64 bg, .int .i64 fl] 66)).alloc (.cells #[.int .i64 0, .slice none 0 0] 24)) = w0 at *
  obtain ⟨⟨k0_0, k0_1⟩, f0_0, f0_1⟩ := (BX0.out.get 0 rfl).two
  have k1_0 := (BX0.out.get 1 rfl).cell 0
  have f1_0 := (BX0.out.get 1 rfl).free 0
  obtain ⟨⟨k2_0, k2_1, k2_2, k2_3, k2_4⟩, f2_0, f2_1, f2_2, f2_3, f2_4⟩ := (BX0.out.get 2 rfl).five
  obtain ⟨⟨k3_0, k3_1⟩, f3_0, f3_1⟩ := (BX0.out.get 3 rfl).two
  have hraw := pRight_any cols _ lv w0 (HG.out.below H0.out).lr (HG.out.below H0.out).ces HG.out.sm (HTT.out.below H0.out) (HWW.out.below H0.out)
  rw [HN.out] at hraw
  rw [show (sizeB cols n && allB cols lv) = _ from A0.out] at hraw
  have hcall := hraw
  have HCALL := hid hcall
  clear hcall
  go_wp2_with fail
  with_reducible refine HCALL.out.mono ?_
  rintro e w1 ⟨rfl, hb⟩
  dsimp only
  have BX1 := hid (BX0.out.below hb)
  have H1 := hid (H0.out.trans (hb.mono H0.out.size))
  have S1 := hid (Nat.le_trans S0.out hb.size)
  clear hb HCALL
  clear k0_0 k0_1 k1_0 k2_0 k2_1 k2_2 k2_3 k2_4 k3_0 k3_1 f0_0 f0_1 f1_0 f2_0 f2_1 f2_2 f2_3 f2_4 f3_0 f3_1
  obtain ⟨⟨k0_0, k0_1⟩, f0_0, f0_1⟩ := (BX1.out.get 0 rfl).two
  have k1_0 := (BX1.out.get 1 rfl).cell 0
  have f1_0 := (BX1.out.get 1 rfl).free 0
  obtain ⟨⟨k2_0, k2_1, k2_2, k2_3, k2_4⟩, f2_0, f2_1, f2_2, f2_3, f2_4⟩ := (BX1.out.get 2 rfl).five
  obtain ⟨⟨k3_0, k3_1⟩, f3_0, f3_1⟩ := (BX1.out.get 3 rfl).two
  clear hraw
  go_wp2
  refine bodyPost_ret (v := .tuple #[.agg #[.int .i64 0, .slice none 0 0], .int .i64 1]) (by simp [results, Tryd.results52, go_sem, k3_0, k3_1]) rfl ⟨rfl, ?_⟩
  exact (H1.out.setCell (p := ⟨W.heap.size + 1 + 1 + 1, 0, none⟩) (by show W.heap.size ≤ W.heap.size + 1 + 1 + 1; omega) _).setCell (p := ⟨W.heap.size + 1 + 1 + 1, 1, none⟩) (by show W.heap.size ≤ W.heap.size + 1 + 1 + 1; omega) _

set_option maxRecDepth 100000 in
set_option maxHeartbeats 2000000 in
theorem put_no1 (cols row col : Int) (v : Value) (lv : List (Ln × Value)) (c : Ce) (W : World) (hg : GIn W v lv) (htx : c.tx.size ≤ 1000) (hT : Tab W) (hW : TabW W) (a0 : mayB cols lv = true) (a1 : rowB row lv.length = false) :
    Calls Tryd.prog 52 #[.agg #[.int .i64 cols, v], .int .i64 row, .int .i64 col, c.agg] W (GNo W 1) := by
  obtain ⟨A, c0, rfl⟩ := hg.lr.spell
  have HG := hid hg
  have HTT := hid hT
  have HWW := hid hW
  obtain ⟨tx, wd, fg, bg, fl⟩ := c
  have HTX := hid htx
  have b0 := ((((Bxs.nil W).alloc 24 #[.int .i64 cols, .slice A lv.length c0]).alloc 3 #[.int .i64 col]).alloc 66 #[.string tx, .int .i64 wd, .int .i64 fg, .int .i64 bg, .int .i64 fl]).alloc 24 #[.int .i64 0, .slice none 0 0]
  simp only [World.size_alloc, List.nil_append, List.cons_append] at b0
  have h0 : Below W.heap.size W ((((W.alloc (.cells #[.int .i64 cols, .slice A lv.length c0] 24)).alloc (.cells #[.int .i64 col] 3)).alloc (.cells #[.string tx, .int .i64 wd, .int .i64 fg, .int .i64 bg, .int .i64 fl] 66)).alloc (.cells #[.int .i64 0, .slice none 0 0] 24)) := (((below_alloc _ _).alloc (by simp <;> omega) _).alloc (by simp <;> omega) _).alloc (by simp <;> omega) _
  have s0 : W.heap.size + 1 + 1 + 1 + 1 ≤ ((((W.alloc (.cells #[.int .i64 cols, .slice A lv.length c0] 24)).alloc (.cells #[.int .i64 col] 3)).alloc (.cells #[.string tx, .int .i64 wd, .int .i64 fg, .int .i64 bg, .int .i64 fl] 66)).alloc (.cells #[.int .i64 0, .slice none 0 0] 24)).heap.size := by simp
  have BX0 := hid b0
  have H0 := hid h0
  have S0 := hid s0
  obtain ⟨n, hn⟩ : ∃ n, lv.length = n := ⟨_, rfl⟩
  have HN := hid hn
  unfold mayB at a0
  rw [hn] at a0 a1 b0 h0 s0 BX0 H0 S0 ⊢
  have A0 := hid a0
  have A1 := hid a1
  clear hg hT hW htx hn b0 h0 s0 a0 a1
  show Calls _ _ #[.agg #[.int .i64 cols, .slice A n c0], .int .i64 row, .int .i64 col, .agg #[.string tx, .int .i64 wd, .int .i64 fg, .int .i64 bg, .int .i64 fl]] _ _
  go_enter Tryd.func52, Tryd.ntmps52
  go_upto_region 1 with fail
  generalize ((((W.alloc (.cells #[.int .i64 cols, .slice A n c0] 24)).alloc (.cells #[.int .i64 col] 3)).alloc (.cells #[.string tx, .int .i64 wd, .int .i64 fg, .int .i64 bg, .int .i64 fl] 66)).alloc (.cells #[.int .i64 0, .slice none 0 0] 24)) = w0 at *
  obtain ⟨⟨k0_0, k0_1⟩, f0_0, f0_1⟩ := (BX0.out.get 0 rfl).two
  have k1_0 := (BX0.out.get 1 rfl).cell 0
  have f1_0 := (BX0.out.get 1 rfl).free 0
  obtain ⟨⟨k2_0, k2_1, k2_2, k2_3, k2_4⟩, f2_0, f2_1, f2_2, f2_3, f2_4⟩ := (BX0.out.get 2 rfl).five
  obtain ⟨⟨k3_0, k3_1⟩, f3_0, f3_1⟩ := (BX0.out.get 3 rfl).two
  have hraw := pRight_any cols _ lv w0 (HG.out.below H0.out).lr (HG.out.below H0.out).ces HG.out.sm (HTT.out.below H0.out) (HWW.out.below H0.out)
  rw [HN.out] at hraw
  rw [show (sizeB cols n && allB cols lv) = _ from A0.out] at hraw
  have hcall := hraw
  have HCALL := hid hcall
  clear hcall
  go_wp2_with fail
  with_reducible refine HCALL.out.mono ?_
  rintro e w1 ⟨rfl, hb⟩
  dsimp only
  have BX1 := hid (BX0.out.below hb)
  have H1 := hid (H0.out.trans (hb.mono H0.out.size))
  have S1 := hid (Nat.le_trans S0.out hb.size)
  clear hb HCALL
  clear k0_0 k0_1 k1_0 k2_0 k2_1 k2_2 k2_3 k2_4 k3_0 k3_1 f0_0 f0_1 f1_0 f2_0 f2_1 f2_2 f2_3 f2_4 f3_0 f3_1
  obtain ⟨⟨k0_0, k0_1⟩, f0_0, f0_1⟩ := (BX1.out.get 0 rfl).two
  have k1_0 := (BX1.out.get 1 rfl).cell 0
  have f1_0 := (BX1.out.get 1 rfl).free 0
  obtain ⟨⟨k2_0, k2_1, k2_2, k2_3, k2_4⟩, f2_0, f2_1, f2_2, f2_3, f2_4⟩ := (BX1.out.get 2 rfl).five
  obtain ⟨⟨k3_0, k3_1⟩, f3_0, f3_1⟩ := (BX1.out.get 3 rfl).two
  clear hraw
  have hraw := hasRow_any cols row A n c0 w1
  rw [A1.out] at hraw
  have hcall := hraw
  have HCALL := hid hcall
  clear hcall
  go_wp2_with fail
  with_reducible refine HCALL.out.mono ?_
  rintro e w2 ⟨rfl, hb⟩
  dsimp only
  have BX2 := hid (BX1.out.below hb)
  have H2 := hid (H1.out.trans (hb.mono H1.out.size))
  have S2 := hid (Nat.le_trans S1.out hb.size)
  clear hb HCALL
  clear k0_0 k0_1 k1_0 k2_0 k2_1 k2_2 k2_3 k2_4 k3_0 k3_1 f0_0 f0_1 f1_0 f2_0 f2_1 f2_2 f2_3 f2_4 f3_0 f3_1
  obtain ⟨⟨k0_0, k0_1⟩, f0_0, f0_1⟩ := (BX2.out.get 0 rfl).two
  have k1_0 := (BX2.out.get 1 rfl).cell 0
  have f1_0 := (BX2.out.get 1 rfl).free 0
  obtain ⟨⟨k2_0, k2_1, k2_2, k2_3, k2_4⟩, f2_0, f2_1, f2_2, f2_3, f2_4⟩ := (BX2.out.get 2 rfl).five
  obtain ⟨⟨k3_0, k3_1⟩, f3_0, f3_1⟩ := (BX2.out.get 3 rfl).two
  clear hraw
  go_wp2
  refine bodyPost_ret (v := .tuple #[.agg #[.int .i64 0, .slice none 0 0], .int .i64 1]) (by simp [results, Tryd.results52, go_sem, k3_0, k3_1]) rfl ⟨rfl, ?_⟩
  exact (H2.out.setCell (p := ⟨W.heap.size + 1 + 1 + 1, 0, none⟩) (by show W.heap.size ≤ W.heap.size + 1 + 1 + 1; omega) _).setCell (p := ⟨W.heap.size + 1 + 1 + 1, 1, none⟩) (by show W.heap.size ≤ W.heap.size + 1 + 1 + 1; omega) _

set_option maxRecDepth 100000 in
set_option maxHeartbeats 2000000 in
theorem put_no2 (cols row col : Int) (v : Value) (lv : List (Ln × Value)) (c : Ce) (W : World) (hg : GIn W v lv) (htx : c.tx.size ≤ 1000) (hT : Tab W) (hW : TabW W) (a0 : mayB cols lv = true) (a1 : rowB row lv.length = true) (a2 : colB col cols = false) :
    Calls Tryd.prog 52 #[.agg #[.int .i64 cols, v], .int .i64 row, .int .i64 col, c.agg] W (GNo W 1) := by
  obtain ⟨A, c0, rfl⟩ := hg.lr.spell
  have HG := hid hg
  have HTT := hid hT
  have HWW := hid hW
  obtain ⟨tx, wd, fg, bg, fl⟩ := c
  have HTX := hid htx
  have b0 := ((((Bxs.nil W).alloc 24 #[.int .i64 cols, .slice A lv.length c0]).alloc 3 #[.int .i64 col]).alloc 66 #[.string tx, .int .i64 wd, .int .i64 fg, .int .i64 bg, .int .i64 fl]).alloc 24 #[.int .i64 0, .slice none 0 0]
  simp only [World.size_alloc, List.nil_append, List.cons_append] at b0
  have h0 : Below W.heap.size W ((((W.alloc (.cells #[.int .i64 cols, .slice A lv.length c0] 24)).alloc (.cells #[.int .i64 col] 3)).alloc (.cells #[.string tx, .int .i64 wd, .int .i64 fg, .int .i64 bg, .int .i64 fl] 66)).alloc (.cells #[.int .i64 0, .slice none 0 0] 24)) := (((below_alloc _ _).alloc (by simp <;> omega) _).alloc (by simp <;> omega) _).alloc (by simp <;> omega) _
  have s0 : W.heap.size + 1 + 1 + 1 + 1 ≤ ((((W.alloc (.cells #[.int .i64 cols, .slice A lv.length c0] 24)).alloc (.cells #[.int .i64 col] 3)).alloc (.cells #[.string tx, .int .i64 wd, .int .i64 fg, .int .i64 bg, .int .i64 fl] 66)).alloc (.cells #[.int .i64 0, .slice none 0 0] 24)).heap.size := by simp
  have BX0 := hid b0
  have H0 := hid h0
  have S0 := hid s0
  obtain ⟨n, hn⟩ : ∃ n, lv.length = n := ⟨_, rfl⟩
  have HN := hid hn
  unfold mayB at a0
  rw [hn] at a0 a1 b0 h0 s0 BX0 H0 S0 ⊢
  have A0 := hid a0
  have A1 := hid a1
  have A2 := hid a2
  clear hg hT hW htx hn b0 h0 s0 a0 a1 a2
  show Calls _ _ #[.agg #[.int .i64 cols, .slice A n c0], .int .i64 row, .int .i64 col, .agg #[.string tx, .int .i64 wd, .int .i64 fg, .int .i64 bg, .int .i64 fl]] _ _
  go_enter Tryd.func52, Tryd.ntmps52
  go_upto_region 1 with fail
  generalize ((((W.alloc (.cells #[.int .i64 cols, .slice A n c0] 24)).alloc (.cells #[.int .i64 col] 3)).alloc (.cells #[.string tx, .int .i64 wd, .int .i64 fg, .int .i64 bg, .int .i64 fl] 66)).alloc (.cells #[.int .i64 0, .slice none 0 0] 24)) = w0 at *
  obtain ⟨⟨k0_0, k0_1⟩, f0_0, f0_1⟩ := (BX0.out.get 0 rfl).two
  have k1_0 := (BX0.out.get 1 rfl).cell 0
  have f1_0 := (BX0.out.get 1 rfl).free 0
  obtain ⟨⟨k2_0, k2_1, k2_2, k2_3, k2_4⟩, f2_0, f2_1, f2_2, f2_3, f2_4⟩ := (BX0.out.get 2 rfl).five
  obtain ⟨⟨k3_0, k3_1⟩, f3_0, f3_1⟩ := (BX0.out.get 3 rfl).two
  have hraw := pRight_any cols _ lv w0 (HG.out.below H0.out).lr (HG.out.below H0.out).ces HG.out.sm (HTT.out.below H0.out) (HWW.out.below H0.out)
  rw [HN.out] at hraw
  rw [show (sizeB cols n && allB cols lv) = _ from A0.out] at hraw
  have hcall := hraw
  have HCALL := hid hcall
  clear hcall
  go_wp2_with fail
  with_reducible refine HCALL.out.mono ?_
  rintro e w1 ⟨rfl, hb⟩
  dsimp only
  have BX1 := hid (BX0.out.below hb)
  have H1 := hid (H0.out.trans (hb.mono H0.out.size))
  have S1 := hid (Nat.le_trans S0.out hb.size)
  clear hb HCALL
  clear k0_0 k0_1 k1_0 k2_0 k2_1 k2_2 k2_3 k2_4 k3_0 k3_1 f0_0 f0_1 f1_0 f2_0 f2_1 f2_2 f2_3 f2_4 f3_0 f3_1
  obtain ⟨⟨k0_0, k0_1⟩, f0_0, f0_1⟩ := (BX1.out.get 0 rfl).two
  have k1_0 := (BX1.out.get 1 rfl).cell 0
  have f1_0 := (BX1.out.get 1 rfl).free 0
  obtain ⟨⟨k2_0, k2_1, k2_2, k2_3, k2_4⟩, f2_0, f2_1, f2_2, f2_3, f2_4⟩ := (BX1.out.get 2 rfl).five
  obtain ⟨⟨k3_0, k3_1⟩, f3_0, f3_1⟩ := (BX1.out.get 3 rfl).two
  clear hraw
  have hraw := hasRow_any cols row A n c0 w1
  rw [A1.out] at hraw
  have hcall := hraw
  have HCALL := hid hcall
  clear hcall
  go_wp2_with fail
  with_reducible refine HCALL.out.mono ?_
  rintro e w2 ⟨rfl, hb⟩
  dsimp only
  have BX2 := hid (BX1.out.below hb)
  have H2 := hid (H1.out.trans (hb.mono H1.out.size))
  have S2 := hid (Nat.le_trans S1.out hb.size)
  clear hb HCALL
  clear k0_0 k0_1 k1_0 k2_0 k2_1 k2_2 k2_3 k2_4 k3_0 k3_1 f0_0 f0_1 f1_0 f2_0 f2_1 f2_2 f2_3 f2_4 f3_0 f3_1
  obtain ⟨⟨k0_0, k0_1⟩, f0_0, f0_1⟩ := (BX2.out.get 0 rfl).two
  have k1_0 := (BX2.out.get 1 rfl).cell 0
  have f1_0 := (BX2.out.get 1 rfl).free 0
  obtain ⟨⟨k2_0, k2_1, k2_2, k2_3, k2_4⟩, f2_0, f2_1, f2_2, f2_3, f2_4⟩ := (BX2.out.get 2 rfl).five
  obtain ⟨⟨k3_0, k3_1⟩, f3_0, f3_1⟩ := (BX2.out.get 3 rfl).two
  clear hraw
  have hraw := hasCol_any cols col A n c0 w2
  rw [A2.out] at hraw
  have hcall := hraw
  have HCALL := hid hcall
  clear hcall
  go_wp2_with fail
  with_reducible refine HCALL.out.mono ?_
  rintro e w3 ⟨rfl, hb⟩
  dsimp only
  have BX3 := hid (BX2.out.below hb)
  have H3 := hid (H2.out.trans (hb.mono H2.out.size))
  have S3 := hid (Nat.le_trans S2.out hb.size)
  clear hb HCALL
  clear k0_0 k0_1 k1_0 k2_0 k2_1 k2_2 k2_3 k2_4 k3_0 k3_1 f0_0 f0_1 f1_0 f2_0 f2_1 f2_2 f2_3 f2_4 f3_0 f3_1
  obtain ⟨⟨k0_0, k0_1⟩, f0_0, f0_1⟩ := (BX3.out.get 0 rfl).two
  have k1_0 := (BX3.out.get 1 rfl).cell 0
  have f1_0 := (BX3.out.get 1 rfl).free 0
  obtain ⟨⟨k2_0, k2_1, k2_2, k2_3, k2_4⟩, f2_0, f2_1, f2_2, f2_3, f2_4⟩ := (BX3.out.get 2 rfl).five
  obtain ⟨⟨k3_0, k3_1⟩, f3_0, f3_1⟩ := (BX3.out.get 3 rfl).two
  clear hraw
  go_wp2
  refine bodyPost_ret (v := .tuple #[.agg #[.int .i64 0, .slice none 0 0], .int .i64 1]) (by simp [results, Tryd.results52, go_sem, k3_0, k3_1]) rfl ⟨rfl, ?_⟩
  exact (H3.out.setCell (p := ⟨W.heap.size + 1 + 1 + 1, 0, none⟩) (by show W.heap.size ≤ W.heap.size + 1 + 1 + 1; omega) _).setCell (p := ⟨W.heap.size + 1 + 1 + 1, 1, none⟩) (by show W.heap.size ≤ W.heap.size + 1 + 1 + 1; omega) _

set_option maxRecDepth 100000 in
set_option maxHeartbeats 2000000 in
theorem put_no3 (cols row col : Int) (v : Value) (lv : List (Ln × Value)) (c : Ce) (W : World) (hg : GIn W v lv) (htx : c.tx.size ≤ 1000) (hT : Tab W) (hW : TabW W) (a0 : mayB cols lv = true) (a1 : rowB row lv.length = true) (a2 : colB col cols = true) (a3 : rightB c = false) :
    Calls Tryd.prog 52 #[.agg #[.int .i64 cols, v], .int .i64 row, .int .i64 col, c.agg] W (GNo W 1) := by
  obtain ⟨A, c0, rfl⟩ := hg.lr.spell
  have HG := hid hg
  have HTT := hid hT
  have HWW := hid hW
  obtain ⟨tx, wd, fg, bg, fl⟩ := c
  have HTX := hid htx
  have b0 := ((((Bxs.nil W).alloc 24 #[.int .i64 cols, .slice A lv.length c0]).alloc 3 #[.int .i64 col]).alloc 66 #[.string tx, .int .i64 wd, .int .i64 fg, .int .i64 bg, .int .i64 fl]).alloc 24 #[.int .i64 0, .slice none 0 0]
  simp only [World.size_alloc, List.nil_append, List.cons_append] at b0
  have h0 : Below W.heap.size W ((((W.alloc (.cells #[.int .i64 cols, .slice A lv.length c0] 24)).alloc (.cells #[.int .i64 col] 3)).alloc (.cells #[.string tx, .int .i64 wd, .int .i64 fg, .int .i64 bg, .int .i64 fl] 66)).alloc (.cells #[.int .i64 0, .slice none 0 0] 24)) := (((below_alloc _ _).alloc (by simp <;> omega) _).alloc (by simp <;> omega) _).alloc (by simp <;> omega) _
  have s0 : W.heap.size + 1 + 1 + 1 + 1 ≤ ((((W.alloc (.cells #[.int .i64 cols, .slice A lv.length c0] 24)).alloc (.cells #[.int .i64 col] 3)).alloc (.cells #[.string tx, .int .i64 wd, .int .i64 fg, .int .i64 bg, .int .i64 fl] 66)).alloc (.cells #[.int .i64 0, .slice none 0 0] 24)).heap.size := by simp
  have BX0 := hid b0
  have H0 := hid h0
  have S0 := hid s0
  obtain ⟨n, hn⟩ : ∃ n, lv.length = n := ⟨_, rfl⟩
  have HN := hid hn
  unfold mayB at a0
  rw [hn] at a0 a1 b0 h0 s0 BX0 H0 S0 ⊢
  have A0 := hid a0
  have A1 := hid a1
  have A2 := hid a2
  have A3 := hid a3
  clear hg hT hW htx hn b0 h0 s0 a0 a1 a2 a3
  show Calls _ _ #[.agg #[.int .i64 cols, .slice A n c0], .int .i64 row, .int .i64 col, .agg #[.string tx, .int .i64 wd, .int .i64 fg, .int .i64 bg, .int .i64 fl]] _ _
  go_enter Tryd.func52, Tryd.ntmps52
  go_upto_region 1 with fail
  generalize ((((W.alloc (.cells #[.int .i64 cols, .slice A n c0] 24)).alloc (.cells #[.int .i64 col] 3)).alloc (.cells #[.string tx, .int .i64 wd, .int .i64 fg, .int .i64 bg, .int .i64 fl] 66)).alloc (.cells #[.int .i64 0, .slice none 0 0] 24)) = w0 at *
  obtain ⟨⟨k0_0, k0_1⟩, f0_0, f0_1⟩ := (BX0.out.get 0 rfl).two
  have k1_0 := (BX0.out.get 1 rfl).cell 0
  have f1_0 := (BX0.out.get 1 rfl).free 0
  obtain ⟨⟨k2_0, k2_1, k2_2, k2_3, k2_4⟩, f2_0, f2_1, f2_2, f2_3, f2_4⟩ := (BX0.out.get 2 rfl).five
  obtain ⟨⟨k3_0, k3_1⟩, f3_0, f3_1⟩ := (BX0.out.get 3 rfl).two
  have hraw := pRight_any cols _ lv w0 (HG.out.below H0.out).lr (HG.out.below H0.out).ces HG.out.sm (HTT.out.below H0.out) (HWW.out.below H0.out)
  rw [HN.out] at hraw
  rw [show (sizeB cols n && allB cols lv) = _ from A0.out] at hraw
  have hcall := hraw
  have HCALL := hid hcall
  clear hcall
  go_wp2_with fail
  with_reducible refine HCALL.out.mono ?_
  rintro e w1 ⟨rfl, hb⟩
  dsimp only
  have BX1 := hid (BX0.out.below hb)
  have H1 := hid (H0.out.trans (hb.mono H0.out.size))
  have S1 := hid (Nat.le_trans S0.out hb.size)
  clear hb HCALL
  clear k0_0 k0_1 k1_0 k2_0 k2_1 k2_2 k2_3 k2_4 k3_0 k3_1 f0_0 f0_1 f1_0 f2_0 f2_1 f2_2 f2_3 f2_4 f3_0 f3_1
  obtain ⟨⟨k0_0, k0_1⟩, f0_0, f0_1⟩ := (BX1.out.get 0 rfl).two
  have k1_0 := (BX1.out.get 1 rfl).cell 0
  have f1_0 := (BX1.out.get 1 rfl).free 0
  obtain ⟨⟨k2_0, k2_1, k2_2, k2_3, k2_4⟩, f2_0, f2_1, f2_2, f2_3, f2_4⟩ := (BX1.out.get 2 rfl).five
  obtain ⟨⟨k3_0, k3_1⟩, f3_0, f3_1⟩ := (BX1.out.get 3 rfl).two
  clear hraw
  have hraw := hasRow_any cols row A n c0 w1
  rw [A1.out] at hraw
  have hcall := hraw
  have HCALL := hid hcall
  clear hcall
  go_wp2_with fail
  with_reducible refine HCALL.out.mono ?_
  rintro e w2 ⟨rfl, hb⟩
  dsimp only
  have BX2 := hid (BX1.out.below hb)
  have H2 := hid (H1.out.trans (hb.mono H1.out.size))
  have S2 := hid (Nat.le_trans S1.out hb.size)
  clear hb HCALL
  clear k0_0 k0_1 k1_0 k2_0 k2_1 k2_2 k2_3 k2_4 k3_0 k3_1 f0_0 f0_1 f1_0 f2_0 f2_1 f2_2 f2_3 f2_4 f3_0 f3_1
  obtain ⟨⟨k0_0, k0_1⟩, f0_0, f0_1⟩ := (BX2.out.get 0 rfl).two
  have k1_0 := (BX2.out.get 1 rfl).cell 0
  have f1_0 := (BX2.out.get 1 rfl).free 0
  obtain ⟨⟨k2_0, k2_1, k2_2, k2_3, k2_4⟩, f2_0, f2_1, f2_2, f2_3, f2_4⟩ := (BX2.out.get 2 rfl).five
  obtain ⟨⟨k3_0, k3_1⟩, f3_0, f3_1⟩ := (BX2.out.get 3 rfl).two
  clear hraw
  have hraw := hasCol_any cols col A n c0 w2
  rw [A2.out] at hraw
  have hcall := hraw
  have HCALL := hid hcall
  clear hcall
  go_wp2_with fail
  with_reducible refine HCALL.out.mono ?_
  rintro e w3 ⟨rfl, hb⟩
  dsimp only
  have BX3 := hid (BX2.out.below hb)
  have H3 := hid (H2.out.trans (hb.mono H2.out.size))
  have S3 := hid (Nat.le_trans S2.out hb.size)
  clear hb HCALL
  clear k0_0 k0_1 k1_0 k2_0 k2_1 k2_2 k2_3 k2_4 k3_0 k3_1 f0_0 f0_1 f1_0 f2_0 f2_1 f2_2 f2_3 f2_4 f3_0 f3_1
  obtain ⟨⟨k0_0, k0_1⟩, f0_0, f0_1⟩ := (BX3.out.get 0 rfl).two
  have k1_0 := (BX3.out.get 1 rfl).cell 0
  have f1_0 := (BX3.out.get 1 rfl).free 0
  obtain ⟨⟨k2_0, k2_1, k2_2, k2_3, k2_4⟩, f2_0, f2_1, f2_2, f2_3, f2_4⟩ := (BX3.out.get 2 rfl).five
  obtain ⟨⟨k3_0, k3_1⟩, f3_0, f3_1⟩ := (BX3.out.get 3 rfl).two
  clear hraw
  have hraw := right_any ⟨tx, wd, fg, bg, fl⟩ w3 (Nat.le_trans HTX.out (by unfold maxLen; omega)) (HTT.out.below H3.out) (HWW.out.below H3.out)
  rw [A3.out] at hraw
  unfold Ce.agg Ce.cells at hraw
  simp only at hraw
  have hcall := hraw
  have HCALL := hid hcall
  clear hcall
  go_wp2_with fail
  with_reducible refine HCALL.out.mono ?_
  rintro e w4 ⟨rfl, hb⟩
  dsimp only
  have BX4 := hid (BX3.out.below hb)
  have H4 := hid (H3.out.trans (hb.mono H3.out.size))
  have S4 := hid (Nat.le_trans S3.out hb.size)
  clear hb HCALL
  clear k0_0 k0_1 k1_0 k2_0 k2_1 k2_2 k2_3 k2_4 k3_0 k3_1 f0_0 f0_1 f1_0 f2_0 f2_1 f2_2 f2_3 f2_4 f3_0 f3_1
  obtain ⟨⟨k0_0, k0_1⟩, f0_0, f0_1⟩ := (BX4.out.get 0 rfl).two
  have k1_0 := (BX4.out.get 1 rfl).cell 0
  have f1_0 := (BX4.out.get 1 rfl).free 0
  obtain ⟨⟨k2_0, k2_1, k2_2, k2_3, k2_4⟩, f2_0, f2_1, f2_2, f2_3, f2_4⟩ := (BX4.out.get 2 rfl).five
  obtain ⟨⟨k3_0, k3_1⟩, f3_0, f3_1⟩ := (BX4.out.get 3 rfl).two
  clear hraw
  go_wp2
  refine bodyPost_ret (v := .tuple #[.agg #[.int .i64 0, .slice none 0 0], .int .i64 1]) (by simp [results, Tryd.results52, go_sem, k3_0, k3_1]) rfl ⟨rfl, ?_⟩
  exact (H4.out.setCell (p := ⟨W.heap.size + 1 + 1 + 1, 0, none⟩) (by show W.heap.size ≤ W.heap.size + 1 + 1 + 1; omega) _).setCell (p := ⟨W.heap.size + 1 + 1 + 1, 1, none⟩) (by show W.heap.size ≤ W.heap.size + 1 + 1 + 1; omega) _

set_option maxRecDepth 100000 in
set_option maxHeartbeats 2000000 in
theorem put_no4 (cols row col : Int) (v : Value) (lv : List (Ln × Value)) (c : Ce) (W : World) (hg : GIn W v lv) (htx : c.tx.size ≤ 1000) (hT : Tab W) (hW : TabW W) (a0 : mayB cols lv = true) (a1 : rowB row lv.length = true) (a2 : colB col cols = true) (a3 : rightB c = true) (a4 : c.tx.size = 0) :
    Calls Tryd.prog 52 #[.agg #[.int .i64 cols, v], .int .i64 row, .int .i64 col, c.agg] W (GNo W 1) := by
  obtain ⟨A, c0, rfl⟩ := hg.lr.spell
  have HG := hid hg
  have HTT := hid hT
  have HWW := hid hW
  obtain ⟨tx, wd, fg, bg, fl⟩ := c
  have HTX := hid htx
  have b0 := ((((Bxs.nil W).alloc 24 #[.int .i64 cols, .slice A lv.length c0]).alloc 3 #[.int .i64 col]).alloc 66 #[.string tx, .int .i64 wd, .int .i64 fg, .int .i64 bg, .int .i64 fl]).alloc 24 #[.int .i64 0, .slice none 0 0]
  simp only [World.size_alloc, List.nil_append, List.cons_append] at b0
  have h0 : Below W.heap.size W ((((W.alloc (.cells #[.int .i64 cols, .slice A lv.length c0] 24)).alloc (.cells #[.int .i64 col] 3)).alloc (.cells #[.string tx, .int .i64 wd, .int .i64 fg, .int .i64 bg, .int .i64 fl] 66)).alloc (.cells #[.int .i64 0, .slice none 0 0] 24)) := (((below_alloc _ _).alloc (by simp <;> omega) _).alloc (by simp <;> omega) _).alloc (by simp <;> omega) _
  have s0 : W.heap.size + 1 + 1 + 1 + 1 ≤ ((((W.alloc (.cells #[.int .i64 cols, .slice A lv.length c0] 24)).alloc (.cells #[.int .i64 col] 3)).alloc (.cells #[.string tx, .int .i64 wd, .int .i64 fg, .int .i64 bg, .int .i64 fl] 66)).alloc (.cells #[.int .i64 0, .slice none 0 0] 24)).heap.size := by simp
  have BX0 := hid b0
  have H0 := hid h0
  have S0 := hid s0
  obtain ⟨n, hn⟩ : ∃ n, lv.length = n := ⟨_, rfl⟩
  have HN := hid hn
  unfold mayB at a0
  rw [hn] at a0 a1 b0 h0 s0 BX0 H0 S0 ⊢
  simp only at a4
  obtain rfl := empty_yes a4
  have A0 := hid a0
  have A1 := hid a1
  have A2 := hid a2
  have A3 := hid a3
  clear hg hT hW htx hn b0 h0 s0 a0 a1 a2 a3 a4
  show Calls _ _ #[.agg #[.int .i64 cols, .slice A n c0], .int .i64 row, .int .i64 col, .agg #[.string ⟨#[]⟩, .int .i64 wd, .int .i64 fg, .int .i64 bg, .int .i64 fl]] _ _
  go_enter Tryd.func52, Tryd.ntmps52
  go_upto_region 1 with fail
  generalize ((((W.alloc (.cells #[.int .i64 cols, .slice A n c0] 24)).alloc (.cells #[.int .i64 col] 3)).alloc (.cells #[.string ⟨#[]⟩, .int .i64 wd, .int .i64 fg, .int .i64 bg, .int .i64 fl] 66)).alloc (.cells #[.int .i64 0, .slice none 0 0] 24)) = w0 at *
  obtain ⟨⟨k0_0, k0_1⟩, f0_0, f0_1⟩ := (BX0.out.get 0 rfl).two
  have k1_0 := (BX0.out.get 1 rfl).cell 0
  have f1_0 := (BX0.out.get 1 rfl).free 0
  obtain ⟨⟨k2_0, k2_1, k2_2, k2_3, k2_4⟩, f2_0, f2_1, f2_2, f2_3, f2_4⟩ := (BX0.out.get 2 rfl).five
  obtain ⟨⟨k3_0, k3_1⟩, f3_0, f3_1⟩ := (BX0.out.get 3 rfl).two
  have hraw := pRight_any cols _ lv w0 (HG.out.below H0.out).lr (HG.out.below H0.out).ces HG.out.sm (HTT.out.below H0.out) (HWW.out.below H0.out)
  rw [HN.out] at hraw
  rw [show (sizeB cols n && allB cols lv) = _ from A0.out] at hraw
  have hcall := hraw
  have HCALL := hid hcall
  clear hcall
  go_wp2_with fail
  with_reducible refine HCALL.out.mono ?_
  rintro e w1 ⟨rfl, hb⟩
  dsimp only
  have BX1 := hid (BX0.out.below hb)
  have H1 := hid (H0.out.trans (hb.mono H0.out.size))
  have S1 := hid (Nat.le_trans S0.out hb.size)
  clear hb HCALL
  clear k0_0 k0_1 k1_0 k2_0 k2_1 k2_2 k2_3 k2_4 k3_0 k3_1 f0_0 f0_1 f1_0 f2_0 f2_1 f2_2 f2_3 f2_4 f3_0 f3_1
  obtain ⟨⟨k0_0, k0_1⟩, f0_0, f0_1⟩ := (BX1.out.get 0 rfl).two
  have k1_0 := (BX1.out.get 1 rfl).cell 0
  have f1_0 := (BX1.out.get 1 rfl).free 0
  obtain ⟨⟨k2_0, k2_1, k2_2, k2_3, k2_4⟩, f2_0, f2_1, f2_2, f2_3, f2_4⟩ := (BX1.out.get 2 rfl).five
  obtain ⟨⟨k3_0, k3_1⟩, f3_0, f3_1⟩ := (BX1.out.get 3 rfl).two
  clear hraw
  have hraw := hasRow_any cols row A n c0 w1
  rw [A1.out] at hraw
  have hcall := hraw
  have HCALL := hid hcall
  clear hcall
  go_wp2_with fail
  with_reducible refine HCALL.out.mono ?_
  rintro e w2 ⟨rfl, hb⟩
  dsimp only
  have BX2 := hid (BX1.out.below hb)
  have H2 := hid (H1.out.trans (hb.mono H1.out.size))
  have S2 := hid (Nat.le_trans S1.out hb.size)
  clear hb HCALL
  clear k0_0 k0_1 k1_0 k2_0 k2_1 k2_2 k2_3 k2_4 k3_0 k3_1 f0_0 f0_1 f1_0 f2_0 f2_1 f2_2 f2_3 f2_4 f3_0 f3_1
  obtain ⟨⟨k0_0, k0_1⟩, f0_0, f0_1⟩ := (BX2.out.get 0 rfl).two
  have k1_0 := (BX2.out.get 1 rfl).cell 0
  have f1_0 := (BX2.out.get 1 rfl).free 0
  obtain ⟨⟨k2_0, k2_1, k2_2, k2_3, k2_4⟩, f2_0, f2_1, f2_2, f2_3, f2_4⟩ := (BX2.out.get 2 rfl).five
  obtain ⟨⟨k3_0, k3_1⟩, f3_0, f3_1⟩ := (BX2.out.get 3 rfl).two
  clear hraw
  have hraw := hasCol_any cols col A n c0 w2
  rw [A2.out] at hraw
  have hcall := hraw
  have HCALL := hid hcall
  clear hcall
  go_wp2_with fail
  with_reducible refine HCALL.out.mono ?_
  rintro e w3 ⟨rfl, hb⟩
  dsimp only
  have BX3 := hid (BX2.out.below hb)
  have H3 := hid (H2.out.trans (hb.mono H2.out.size))
  have S3 := hid (Nat.le_trans S2.out hb.size)
  clear hb HCALL
  clear k0_0 k0_1 k1_0 k2_0 k2_1 k2_2 k2_3 k2_4 k3_0 k3_1 f0_0 f0_1 f1_0 f2_0 f2_1 f2_2 f2_3 f2_4 f3_0 f3_1
  obtain ⟨⟨k0_0, k0_1⟩, f0_0, f0_1⟩ := (BX3.out.get 0 rfl).two
  have k1_0 := (BX3.out.get 1 rfl).cell 0
  have f1_0 := (BX3.out.get 1 rfl).free 0
  obtain ⟨⟨k2_0, k2_1, k2_2, k2_3, k2_4⟩, f2_0, f2_1, f2_2, f2_3, f2_4⟩ := (BX3.out.get 2 rfl).five
  obtain ⟨⟨k3_0, k3_1⟩, f3_0, f3_1⟩ := (BX3.out.get 3 rfl).two
  clear hraw
  have hraw := right_any ⟨⟨#[]⟩, wd, fg, bg, fl⟩ w3 (Nat.le_trans HTX.out (by unfold maxLen; omega)) (HTT.out.below H3.out) (HWW.out.below H3.out)
  rw [A3.out] at hraw
  unfold Ce.agg Ce.cells at hraw
  simp only at hraw
  have hcall := hraw
  have HCALL := hid hcall
  clear hcall
  go_wp2_with fail
  with_reducible refine HCALL.out.mono ?_
  rintro e w4 ⟨rfl, hb⟩
  dsimp only
  have BX4 := hid (BX3.out.below hb)
  have H4 := hid (H3.out.trans (hb.mono H3.out.size))
  have S4 := hid (Nat.le_trans S3.out hb.size)
  clear hb HCALL
  clear k0_0 k0_1 k1_0 k2_0 k2_1 k2_2 k2_3 k2_4 k3_0 k3_1 f0_0 f0_1 f1_0 f2_0 f2_1 f2_2 f2_3 f2_4 f3_0 f3_1
  obtain ⟨⟨k0_0, k0_1⟩, f0_0, f0_1⟩ := (BX4.out.get 0 rfl).two
  have k1_0 := (BX4.out.get 1 rfl).cell 0
  have f1_0 := (BX4.out.get 1 rfl).free 0
  obtain ⟨⟨k2_0, k2_1, k2_2, k2_3, k2_4⟩, f2_0, f2_1, f2_2, f2_3, f2_4⟩ := (BX4.out.get 2 rfl).five
  obtain ⟨⟨k3_0, k3_1⟩, f3_0, f3_1⟩ := (BX4.out.get 3 rfl).two
  clear hraw
  go_wp2
  refine bodyPost_ret (v := .tuple #[.agg #[.int .i64 0, .slice none 0 0], .int .i64 1]) (by simp [results, Tryd.results52, go_sem, k3_0, k3_1]) rfl ⟨rfl, ?_⟩
  exact (H4.out.setCell (p := ⟨W.heap.size + 1 + 1 + 1, 0, none⟩) (by show W.heap.size ≤ W.heap.size + 1 + 1 + 1; omega) _).setCell (p := ⟨W.heap.size + 1 + 1 + 1, 1, none⟩) (by show W.heap.size ≤ W.heap.size + 1 + 1 + 1; omega) _

set_option maxRecDepth 100000 in
set_option maxHeartbeats 2000000 in
theorem put_room (cols row col : Int) (v : Value) (lv : List (Ln × Value)) (c : Ce) (W : World) (hg : GIn W v lv) (htx : c.tx.size ≤ 1000) (hT : Tab W) (hW : TabW W) (a0 : mayB cols lv = true) (a1 : rowB row lv.length = true) (a2 : colB col cols = true) (a3 : rightB c = true) (a4 : c.tx.size ≠ 0) (a5 : c.wd = 2) (a6 : col = cols - 1) (a7 : 1 ≤ cols ∧ cols ≤ 80) :
    Calls Tryd.prog 52 #[.agg #[.int .i64 cols, v], .int .i64 row, .int .i64 col, c.agg] W (GNo W 9) := by
  obtain ⟨A, c0, rfl⟩ := hg.lr.spell
  have HG := hid hg
  have HTT := hid hT
  have HWW := hid hW
  obtain ⟨tx, wd, fg, bg, fl⟩ := c
  have HTX := hid htx
  have b0 := ((((Bxs.nil W).alloc 24 #[.int .i64 cols, .slice A lv.length c0]).alloc 3 #[.int .i64 col]).alloc 66 #[.string tx, .int .i64 wd, .int .i64 fg, .int .i64 bg, .int .i64 fl]).alloc 24 #[.int .i64 0, .slice none 0 0]
  simp only [World.size_alloc, List.nil_append, List.cons_append] at b0
  have h0 : Below W.heap.size W ((((W.alloc (.cells #[.int .i64 cols, .slice A lv.length c0] 24)).alloc (.cells #[.int .i64 col] 3)).alloc (.cells #[.string tx, .int .i64 wd, .int .i64 fg, .int .i64 bg, .int .i64 fl] 66)).alloc (.cells #[.int .i64 0, .slice none 0 0] 24)) := (((below_alloc _ _).alloc (by simp <;> omega) _).alloc (by simp <;> omega) _).alloc (by simp <;> omega) _
  have s0 : W.heap.size + 1 + 1 + 1 + 1 ≤ ((((W.alloc (.cells #[.int .i64 cols, .slice A lv.length c0] 24)).alloc (.cells #[.int .i64 col] 3)).alloc (.cells #[.string tx, .int .i64 wd, .int .i64 fg, .int .i64 bg, .int .i64 fl] 66)).alloc (.cells #[.int .i64 0, .slice none 0 0] 24)).heap.size := by simp
  have BX0 := hid b0
  have H0 := hid h0
  have S0 := hid s0
  obtain ⟨n, hn⟩ : ∃ n, lv.length = n := ⟨_, rfl⟩
  have HN := hid hn
  unfold mayB at a0
  rw [hn] at a0 a1 b0 h0 s0 BX0 H0 S0 ⊢
  simp only at a4 a5
  subst a5
  subst a6
  have q4 := empty_no a4
  have A0 := hid a0
  have A1 := hid a1
  have A2 := hid a2
  have A3 := hid a3
  obtain ⟨a7, a8⟩ := a7
  clear hg hT hW htx hn b0 h0 s0 a0 a1 a2 a3 a4
  show Calls _ _ #[.agg #[.int .i64 cols, .slice A n c0], .int .i64 row, .int .i64 (cols - 1), .agg #[.string tx, .int .i64 2, .int .i64 fg, .int .i64 bg, .int .i64 fl]] _ _
  go_enter Tryd.func52, Tryd.ntmps52
  go_upto_region 1 with fail
  generalize ((((W.alloc (.cells #[.int .i64 cols, .slice A n c0] 24)).alloc (.cells #[.int .i64 (cols - 1)] 3)).alloc (.cells #[.string tx, .int .i64 2, .int .i64 fg, .int .i64 bg, .int .i64 fl] 66)).alloc (.cells #[.int .i64 0, .slice none 0 0] 24)) = w0 at *
  obtain ⟨⟨k0_0, k0_1⟩, f0_0, f0_1⟩ := (BX0.out.get 0 rfl).two
  have k1_0 := (BX0.out.get 1 rfl).cell 0
  have f1_0 := (BX0.out.get 1 rfl).free 0
  obtain ⟨⟨k2_0, k2_1, k2_2, k2_3, k2_4⟩, f2_0, f2_1, f2_2, f2_3, f2_4⟩ := (BX0.out.get 2 rfl).five
  obtain ⟨⟨k3_0, k3_1⟩, f3_0, f3_1⟩ := (BX0.out.get 3 rfl).two
  have hraw := pRight_any cols _ lv w0 (HG.out.below H0.out).lr (HG.out.below H0.out).ces HG.out.sm (HTT.out.below H0.out) (HWW.out.below H0.out)
  rw [HN.out] at hraw
  rw [show (sizeB cols n && allB cols lv) = _ from A0.out] at hraw
  have hcall := hraw
  have HCALL := hid hcall
  clear hcall
  go_wp2_with fail
  with_reducible refine HCALL.out.mono ?_
  rintro e w1 ⟨rfl, hb⟩
  dsimp only
  have BX1 := hid (BX0.out.below hb)
  have H1 := hid (H0.out.trans (hb.mono H0.out.size))
  have S1 := hid (Nat.le_trans S0.out hb.size)
  clear hb HCALL
  clear k0_0 k0_1 k1_0 k2_0 k2_1 k2_2 k2_3 k2_4 k3_0 k3_1 f0_0 f0_1 f1_0 f2_0 f2_1 f2_2 f2_3 f2_4 f3_0 f3_1
  obtain ⟨⟨k0_0, k0_1⟩, f0_0, f0_1⟩ := (BX1.out.get 0 rfl).two
  have k1_0 := (BX1.out.get 1 rfl).cell 0
  have f1_0 := (BX1.out.get 1 rfl).free 0
  obtain ⟨⟨k2_0, k2_1, k2_2, k2_3, k2_4⟩, f2_0, f2_1, f2_2, f2_3, f2_4⟩ := (BX1.out.get 2 rfl).five
  obtain ⟨⟨k3_0, k3_1⟩, f3_0, f3_1⟩ := (BX1.out.get 3 rfl).two
  clear hraw
  have hraw := hasRow_any cols row A n c0 w1
  rw [A1.out] at hraw
  have hcall := hraw
  have HCALL := hid hcall
  clear hcall
  go_wp2_with fail
  with_reducible refine HCALL.out.mono ?_
  rintro e w2 ⟨rfl, hb⟩
  dsimp only
  have BX2 := hid (BX1.out.below hb)
  have H2 := hid (H1.out.trans (hb.mono H1.out.size))
  have S2 := hid (Nat.le_trans S1.out hb.size)
  clear hb HCALL
  clear k0_0 k0_1 k1_0 k2_0 k2_1 k2_2 k2_3 k2_4 k3_0 k3_1 f0_0 f0_1 f1_0 f2_0 f2_1 f2_2 f2_3 f2_4 f3_0 f3_1
  obtain ⟨⟨k0_0, k0_1⟩, f0_0, f0_1⟩ := (BX2.out.get 0 rfl).two
  have k1_0 := (BX2.out.get 1 rfl).cell 0
  have f1_0 := (BX2.out.get 1 rfl).free 0
  obtain ⟨⟨k2_0, k2_1, k2_2, k2_3, k2_4⟩, f2_0, f2_1, f2_2, f2_3, f2_4⟩ := (BX2.out.get 2 rfl).five
  obtain ⟨⟨k3_0, k3_1⟩, f3_0, f3_1⟩ := (BX2.out.get 3 rfl).two
  clear hraw
  have hraw := hasCol_any cols (cols - 1) A n c0 w2
  rw [A2.out] at hraw
  have hcall := hraw
  have HCALL := hid hcall
  clear hcall
  go_wp2_with fail
  with_reducible refine HCALL.out.mono ?_
  rintro e w3 ⟨rfl, hb⟩
  dsimp only
  have BX3 := hid (BX2.out.below hb)
  have H3 := hid (H2.out.trans (hb.mono H2.out.size))
  have S3 := hid (Nat.le_trans S2.out hb.size)
  clear hb HCALL
  clear k0_0 k0_1 k1_0 k2_0 k2_1 k2_2 k2_3 k2_4 k3_0 k3_1 f0_0 f0_1 f1_0 f2_0 f2_1 f2_2 f2_3 f2_4 f3_0 f3_1
  obtain ⟨⟨k0_0, k0_1⟩, f0_0, f0_1⟩ := (BX3.out.get 0 rfl).two
  have k1_0 := (BX3.out.get 1 rfl).cell 0
  have f1_0 := (BX3.out.get 1 rfl).free 0
  obtain ⟨⟨k2_0, k2_1, k2_2, k2_3, k2_4⟩, f2_0, f2_1, f2_2, f2_3, f2_4⟩ := (BX3.out.get 2 rfl).five
  obtain ⟨⟨k3_0, k3_1⟩, f3_0, f3_1⟩ := (BX3.out.get 3 rfl).two
  clear hraw
  have hraw := right_any ⟨tx, 2, fg, bg, fl⟩ w3 (Nat.le_trans HTX.out (by unfold maxLen; omega)) (HTT.out.below H3.out) (HWW.out.below H3.out)
  rw [A3.out] at hraw
  unfold Ce.agg Ce.cells at hraw
  simp only at hraw
  have hcall := hraw
  have HCALL := hid hcall
  clear hcall
  go_wp2_with fail
  with_reducible refine HCALL.out.mono ?_
  rintro e w4 ⟨rfl, hb⟩
  dsimp only
  have BX4 := hid (BX3.out.below hb)
  have H4 := hid (H3.out.trans (hb.mono H3.out.size))
  have S4 := hid (Nat.le_trans S3.out hb.size)
  clear hb HCALL
  clear k0_0 k0_1 k1_0 k2_0 k2_1 k2_2 k2_3 k2_4 k3_0 k3_1 f0_0 f0_1 f1_0 f2_0 f2_1 f2_2 f2_3 f2_4 f3_0 f3_1
  obtain ⟨⟨k0_0, k0_1⟩, f0_0, f0_1⟩ := (BX4.out.get 0 rfl).two
  have k1_0 := (BX4.out.get 1 rfl).cell 0
  have f1_0 := (BX4.out.get 1 rfl).free 0
  obtain ⟨⟨k2_0, k2_1, k2_2, k2_3, k2_4⟩, f2_0, f2_1, f2_2, f2_3, f2_4⟩ := (BX4.out.get 2 rfl).five
  obtain ⟨⟨k3_0, k3_1⟩, f3_0, f3_1⟩ := (BX4.out.get 3 rfl).two
  clear hraw
  go_wp2
  refine bodyPost_ret (v := .tuple #[.agg #[.int .i64 0, .slice none 0 0], .int .i64 9]) (by simp [results, Tryd.results52, go_sem, k3_0, k3_1]) rfl ⟨rfl, ?_⟩
  exact (H4.out.setCell (p := ⟨W.heap.size + 1 + 1 + 1, 0, none⟩) (by show W.heap.size ≤ W.heap.size + 1 + 1 + 1; omega) _).setCell (p := ⟨W.heap.size + 1 + 1 + 1, 1, none⟩) (by show W.heap.size ≤ W.heap.size + 1 + 1 + 1; omega) _

end Go.Proofs.YtkejoknphnkhnaaDoor
