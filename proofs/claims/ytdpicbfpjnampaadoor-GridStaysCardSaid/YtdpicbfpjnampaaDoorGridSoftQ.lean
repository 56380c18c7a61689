/- Layer 6, the package: whether a line goes on. Made by wip/gen/gridOps.py. -/
import Derived.Test.YtdpicbfpjnampaaDoorGridPutYQ
namespace Go.Proofs.YtdpicbfpjnampaaDoor
open Go.RowKit

set_option maxRecDepth 100000 in
set_option maxHeartbeats 2000000 in
theorem soft_no0 (cols row : Int) (soft2 : Bool) (v : Value) (lv : List (Ln × Value)) (W : World) (hg : GIn W v lv) (hT : Tab W) (hW : TabW W) (a0 : mayB cols lv = false) :
    Calls Tryd.prog 11 #[.agg #[.int .i64 cols, v], .int .i64 row, .bool soft2] W (GNo W 1) := by
  obtain ⟨A, c0, rfl⟩ := hg.lr.spell
  have HG := hid hg
  have HTT := hid hT
  have HWW := hid hW
  obtain ⟨n, hn⟩ : ∃ n, lv.length = n := ⟨_, rfl⟩
  have HN := hid hn
  have b0 := ((((Bxs.nil W).alloc 24 #[.int .i64 cols, .slice A n c0]).alloc 4 #[.bool soft2]).alloc 24 #[.int .i64 0, .slice none 0 0])
  simp only [World.size_alloc, List.nil_append, List.cons_append] at b0
  have h0 : Below W.heap.size W (((W.alloc (.cells #[.int .i64 cols, .slice A n c0] 24)).alloc (.cells #[.bool soft2] 4)).alloc (.cells #[.int .i64 0, .slice none 0 0] 24)) := (((below_alloc _ _).alloc (by simp <;> omega) _).alloc (by simp <;> omega) _)
  have s0 : W.heap.size + 1 + 1 + 1 ≤ (((W.alloc (.cells #[.int .i64 cols, .slice A n c0] 24)).alloc (.cells #[.bool soft2] 4)).alloc (.cells #[.int .i64 0, .slice none 0 0] 24)).heap.size := by simp
  have BX0 := hid b0
  have H0 := hid h0
  have S0 := hid s0
  unfold mayB at a0
  rw [hn] at a0 ⊢
  have A0 := hid a0
  clear hg hT hW hn b0 h0 s0 a0
  go_enter Tryd.func11, Tryd.ntmps11
  go_upto_region 1 with fail
  generalize (((W.alloc (.cells #[.int .i64 cols, .slice A n c0] 24)).alloc (.cells #[.bool soft2] 4)).alloc (.cells #[.int .i64 0, .slice none 0 0] 24)) = w0 at *
  obtain ⟨⟨k0_0, k0_1⟩, f0_0, f0_1⟩ := (BX0.out.get 0 rfl).two
  have k1_0 := (BX0.out.get 1 rfl).cell 0
  have f1_0 := (BX0.out.get 1 rfl).free 0
  obtain ⟨⟨k2_0, k2_1⟩, f2_0, f2_1⟩ := (BX0.out.get 2 rfl).two
  have hraw := pRight_any cols _ lv w0 (HG.out.below H0.out).lr (HG.out.below H0.out).ces HG.out.sm (HTT.out.below H0.out) (HWW.out.below H0.out)
  rw [HN.out] at hraw
  rw [show (sizeB cols n && allB cols lv) = _ from A0.out] at hraw
  have hcall := hraw
  have HCALL := hid hcall
  clear hcall
  go_wp2_with fail
  with_reducible refine HCALL.out.mono ?_
  rintro e w1 ⟨rfl, hb⟩
  dsimp only
  have BX1 := hid (BX0.out.below hb)
  have H1 := hid (H0.out.trans (hb.mono H0.out.size))
  have S1 := hid (Nat.le_trans S0.out hb.size)
  clear hb HCALL
  clear k0_0 k0_1 k1_0 k2_0 k2_1 f0_0 f0_1 f1_0 f2_0 f2_1
  obtain ⟨⟨k0_0, k0_1⟩, f0_0, f0_1⟩ := (BX1.out.get 0 rfl).two
  have k1_0 := (BX1.out.get 1 rfl).cell 0
  have f1_0 := (BX1.out.get 1 rfl).free 0
  obtain ⟨⟨k2_0, k2_1⟩, f2_0, f2_1⟩ := (BX1.out.get 2 rfl).two
  clear hraw
  go_wp2
  refine bodyPost_ret (v := .tuple #[.agg #[.int .i64 0, .slice none 0 0], .int .i64 1]) (by simp [results, Tryd.results11, go_sem, k2_0, k2_1]) rfl ⟨rfl, ?_⟩
  exact (H1.out.setCell (p := ⟨W.heap.size + 1 + 1, 0, none⟩) (by show W.heap.size ≤ W.heap.size + 1 + 1; omega) _).setCell (p := ⟨W.heap.size + 1 + 1, 1, none⟩) (by show W.heap.size ≤ W.heap.size + 1 + 1; omega) _

set_option maxRecDepth 100000 in
set_option maxHeartbeats 2000000 in
theorem soft_no1 (cols row : Int) (soft2 : Bool) (v : Value) (lv : List (Ln × Value)) (W : World) (hg : GIn W v lv) (hT : Tab W) (hW : TabW W) (a0 : mayB cols lv = true) (a1 : rowB row lv.length = false) :
    Calls Tryd.prog 11 #[.agg #[.int .i64 cols, v], .int .i64 row, .bool soft2] W (GNo W 1) := by
  obtain ⟨A, c0, rfl⟩ := hg.lr.spell
  have HG := hid hg
  have HTT := hid hT
  have HWW := hid hW
  obtain ⟨n, hn⟩ : ∃ n, lv.length = n := ⟨_, rfl⟩
  have HN := hid hn
  have b0 := ((((Bxs.nil W).alloc 24 #[.int .i64 cols, .slice A n c0]).alloc 4 #[.bool soft2]).alloc 24 #[.int .i64 0, .slice none 0 0])
  simp only [World.size_alloc, List.nil_append, List.cons_append] at b0
  have h0 : Below W.heap.size W (((W.alloc (.cells #[.int .i64 cols, .slice A n c0] 24)).alloc (.cells #[.bool soft2] 4)).alloc (.cells #[.int .i64 0, .slice none 0 0] 24)) := (((below_alloc _ _).alloc (by simp <;> omega) _).alloc (by simp <;> omega) _)
  have s0 : W.heap.size + 1 + 1 + 1 ≤ (((W.alloc (.cells #[.int .i64 cols, .slice A n c0] 24)).alloc (.cells #[.bool soft2] 4)).alloc (.cells #[.int .i64 0, .slice none 0 0] 24)).heap.size := by simp
  have BX0 := hid b0
  have H0 := hid h0
  have S0 := hid s0
  unfold mayB at a0
  rw [hn] at a0 a1 ⊢
  have A0 := hid a0
  have A1 := hid a1
  clear hg hT hW hn b0 h0 s0 a0 a1
  go_enter Tryd.func11, Tryd.ntmps11
  go_upto_region 1 with fail
  generalize (((W.alloc (.cells #[.int .i64 cols, .slice A n c0] 24)).alloc (.cells #[.bool soft2] 4)).alloc (.cells #[.int .i64 0, .slice none 0 0] 24)) = w0 at *
  obtain ⟨⟨k0_0, k0_1⟩, f0_0, f0_1⟩ := (BX0.out.get 0 rfl).two
  have k1_0 := (BX0.out.get 1 rfl).cell 0
  have f1_0 := (BX0.out.get 1 rfl).free 0
  obtain ⟨⟨k2_0, k2_1⟩, f2_0, f2_1⟩ := (BX0.out.get 2 rfl).two
  have hraw := pRight_any cols _ lv w0 (HG.out.below H0.out).lr (HG.out.below H0.out).ces HG.out.sm (HTT.out.below H0.out) (HWW.out.below H0.out)
  rw [HN.out] at hraw
  rw [show (sizeB cols n && allB cols lv) = _ from A0.out] at hraw
  have hcall := hraw
  have HCALL := hid hcall
  clear hcall
  go_wp2_with fail
  with_reducible refine HCALL.out.mono ?_
  rintro e w1 ⟨rfl, hb⟩
  dsimp only
  have BX1 := hid (BX0.out.below hb)
  have H1 := hid (H0.out.trans (hb.mono H0.out.size))
  have S1 := hid (Nat.le_trans S0.out hb.size)
  clear hb HCALL
  clear k0_0 k0_1 k1_0 k2_0 k2_1 f0_0 f0_1 f1_0 f2_0 f2_1
  obtain ⟨⟨k0_0, k0_1⟩, f0_0, f0_1⟩ := (BX1.out.get 0 rfl).two
  have k1_0 := (BX1.out.get 1 rfl).cell 0
  have f1_0 := (BX1.out.get 1 rfl).free 0
  obtain ⟨⟨k2_0, k2_1⟩, f2_0, f2_1⟩ := (BX1.out.get 2 rfl).two
  clear hraw
  have hraw := hasRow_any cols row A n c0 w1
  rw [A1.out] at hraw
  have hcall := hraw
  have HCALL := hid hcall
  clear hcall
  go_wp2_with fail
  with_reducible refine HCALL.out.mono ?_
  rintro e w2 ⟨rfl, hb⟩
  dsimp only
  have BX2 := hid (BX1.out.below hb)
  have H2 := hid (H1.out.trans (hb.mono H1.out.size))
  have S2 := hid (Nat.le_trans S1.out hb.size)
  clear hb HCALL
  clear k0_0 k0_1 k1_0 k2_0 k2_1 f0_0 f0_1 f1_0 f2_0 f2_1
  obtain ⟨⟨k0_0, k0_1⟩, f0_0, f0_1⟩ := (BX2.out.get 0 rfl).two
  have k1_0 := (BX2.out.get 1 rfl).cell 0
  have f1_0 := (BX2.out.get 1 rfl).free 0
  obtain ⟨⟨k2_0, k2_1⟩, f2_0, f2_1⟩ := (BX2.out.get 2 rfl).two
  clear hraw
  go_wp2
  refine bodyPost_ret (v := .tuple #[.agg #[.int .i64 0, .slice none 0 0], .int .i64 1]) (by simp [results, Tryd.results11, go_sem, k2_0, k2_1]) rfl ⟨rfl, ?_⟩
  exact (H2.out.setCell (p := ⟨W.heap.size + 1 + 1, 0, none⟩) (by show W.heap.size ≤ W.heap.size + 1 + 1; omega) _).setCell (p := ⟨W.heap.size + 1 + 1, 1, none⟩) (by show W.heap.size ≤ W.heap.size + 1 + 1; omega) _

set_option maxRecDepth 100000 in
set_option maxHeartbeats 2000000 in
theorem soft_yes (cols : Int) (r : Nat) (soft2 : Bool) (v : Value) (lv : List (Ln × Value)) (cs : List Ce) (soft : Bool) (lvl : Value) (W : World) (hg : GIn W v lv) (hT : Tab W) (hW : TabW W) (hx : lv[r]? = some (⟨cs, soft⟩, lvl)) (a0 : mayB cols lv = true) (a1 : rowB r lv.length = true) :
    Calls Tryd.prog 11 #[.agg #[.int .i64 cols, v], .int .i64 r, .bool soft2] W (GYes W cols lv ((lv.map Prod.fst).set r ⟨mendL 1 cs, soft2⟩)) := by
  have hfit := fits_iff.1 (mayB_at a0 hx)
  simp only at hfit
  have hsz := a0
  unfold mayB sizeB at hsz
  rw [Bool.and_eq_true, Bool.and_eq_true, decide_eq_true_iff, decide_eq_true_iff] at hsz
  have hcs : cs.length ≤ 1000 := by omega
  obtain ⟨A, c0, rfl⟩ := hg.lr.spell
  have HG := hid hg
  have HTT := hid hT
  have HWW := hid hW
  have hchg := fun w (bs : Nat) h1 hbs => soft_chg w.heap.size w cs soft soft2 bs h1 hbs
  obtain ⟨n, hn⟩ : ∃ n, lv.length = n := ⟨_, rfl⟩
  have HN := hid hn
  have b0 := ((((Bxs.nil W).alloc 24 #[.int .i64 cols, .slice A n c0]).alloc 4 #[.bool soft2]).alloc 24 #[.int .i64 0, .slice none 0 0])
  simp only [World.size_alloc, List.nil_append, List.cons_append] at b0
  have h0 : Below W.heap.size W (((W.alloc (.cells #[.int .i64 cols, .slice A n c0] 24)).alloc (.cells #[.bool soft2] 4)).alloc (.cells #[.int .i64 0, .slice none 0 0] 24)) := (((below_alloc _ _).alloc (by simp <;> omega) _).alloc (by simp <;> omega) _)
  have s0 : W.heap.size + 1 + 1 + 1 ≤ (((W.alloc (.cells #[.int .i64 cols, .slice A n c0] 24)).alloc (.cells #[.bool soft2] 4)).alloc (.cells #[.int .i64 0, .slice none 0 0] 24)).heap.size := by simp
  have BX0 := hid b0
  have H0 := hid h0
  have S0 := hid s0
  unfold mayB at a0
  rw [hn] at a0 a1 ⊢
  have A0 := hid a0
  have A1 := hid a1
  have HX := hid hx
  have HCH := hid hchg
  have HPL := hid hcs
  clear hg hT hW hn b0 h0 s0 a0 a1 hx hchg hcs hsz hfit
  go_enter Tryd.func11, Tryd.ntmps11
  go_upto_region 1 with fail
  generalize (((W.alloc (.cells #[.int .i64 cols, .slice A n c0] 24)).alloc (.cells #[.bool soft2] 4)).alloc (.cells #[.int .i64 0, .slice none 0 0] 24)) = w0 at *
  obtain ⟨⟨k0_0, k0_1⟩, f0_0, f0_1⟩ := (BX0.out.get 0 rfl).two
  have k1_0 := (BX0.out.get 1 rfl).cell 0
  have f1_0 := (BX0.out.get 1 rfl).free 0
  obtain ⟨⟨k2_0, k2_1⟩, f2_0, f2_1⟩ := (BX0.out.get 2 rfl).two
  have hraw := pRight_any cols _ lv w0 (HG.out.below H0.out).lr (HG.out.below H0.out).ces HG.out.sm (HTT.out.below H0.out) (HWW.out.below H0.out)
  rw [HN.out] at hraw
  rw [show (sizeB cols n && allB cols lv) = _ from A0.out] at hraw
  have hcall := hraw
  have HCALL := hid hcall
  clear hcall
  go_wp2_with fail
  with_reducible refine HCALL.out.mono ?_
  rintro e w1 ⟨rfl, hb⟩
  dsimp only
  have BX1 := hid (BX0.out.below hb)
  have H1 := hid (H0.out.trans (hb.mono H0.out.size))
  have S1 := hid (Nat.le_trans S0.out hb.size)
  clear hb HCALL
  clear k0_0 k0_1 k1_0 k2_0 k2_1 f0_0 f0_1 f1_0 f2_0 f2_1
  obtain ⟨⟨k0_0, k0_1⟩, f0_0, f0_1⟩ := (BX1.out.get 0 rfl).two
  have k1_0 := (BX1.out.get 1 rfl).cell 0
  have f1_0 := (BX1.out.get 1 rfl).free 0
  obtain ⟨⟨k2_0, k2_1⟩, f2_0, f2_1⟩ := (BX1.out.get 2 rfl).two
  clear hraw
  have hraw := hasRow_any cols r A n c0 w1
  rw [A1.out] at hraw
  have hcall := hraw
  have HCALL := hid hcall
  clear hcall
  go_wp2_with fail
  with_reducible refine HCALL.out.mono ?_
  rintro e w2 ⟨rfl, hb⟩
  dsimp only
  have BX2 := hid (BX1.out.below hb)
  have H2 := hid (H1.out.trans (hb.mono H1.out.size))
  have S2 := hid (Nat.le_trans S1.out hb.size)
  clear hb HCALL
  clear k0_0 k0_1 k1_0 k2_0 k2_1 f0_0 f0_1 f1_0 f2_0 f2_1
  obtain ⟨⟨k0_0, k0_1⟩, f0_0, f0_1⟩ := (BX2.out.get 0 rfl).two
  have k1_0 := (BX2.out.get 1 rfl).cell 0
  have f1_0 := (BX2.out.get 1 rfl).free 0
  obtain ⟨⟨k2_0, k2_1⟩, f2_0, f2_1⟩ := (BX2.out.get 2 rfl).two
  clear hraw
  have hin := HG.out.below H2.out
  have hcall := changed_any cols _ lv r 52 #[.pointer (some ⟨W.heap.size + 1, 0, none⟩)] w2 cs _ soft soft2 lvl hin.lr hin.ces hin.sm HX.out (HCH.out w2 _ (by have := S2.out; omega) (BX2.out.get 1 rfl)) (HPL.out)
  rw [HN.out] at hcall
  have HCALL := hid hcall
  clear hcall hin HCH
  go_wp2_with fail
  with_reducible refine HCALL.out.mono ?_
  rintro e w3 ⟨v5, lv5, rfl, hm5, hl5, hn5, hb5⟩
  dsimp only
  have BX3 := hid (BX2.out.below hb5)
  have H3 := hid (H2.out.trans (hb5.mono H2.out.size))
  obtain ⟨A5, c5, hs5⟩ := hl5.spell
  subst hs5
  have HM5 := hid hm5
  have HL5 := hid hl5
  have HN5 := hid hn5
  clear hm5 hl5 hn5 hb5 HCALL
  clear k0_0 k0_1 k1_0 k2_0 k2_1 f0_0 f0_1 f1_0 f2_0 f2_1
  obtain ⟨⟨k0_0, k0_1⟩, f0_0, f0_1⟩ := (BX3.out.get 0 rfl).two
  have k1_0 := (BX3.out.get 1 rfl).cell 0
  have f1_0 := (BX3.out.get 1 rfl).free 0
  obtain ⟨⟨k2_0, k2_1⟩, f2_0, f2_1⟩ := (BX3.out.get 2 rfl).two
  have hm3 := (BX3.out.get 2 rfl)
  have HM3 := hid hm3
  clear hm3
  go_wp2
  refine bodyPost_ret (v := .tuple #[.agg #[.int .i64 cols, .slice A5 lv5.length c5], .int .i64 0]) (by simp [results, Tryd.results11, go_sem, k2_0, k2_1]) rfl ?_
  exact gyes_end HM5.out HL5.out HN5.out H2.out.size H3.out HM3.out (by show W.heap.size ≤ W.heap.size + 1 + 1; omega) rfl

end Go.Proofs.YtdpicbfpjnampaaDoor
