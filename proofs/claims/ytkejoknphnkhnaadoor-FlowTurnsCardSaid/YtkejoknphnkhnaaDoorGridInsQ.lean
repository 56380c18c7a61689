/- Layer 6, the package: what Put, Erase and Soft answer, all ways in one. -/
/- Layer 6, the package: cells come, cells go. Made by wip/gen/gridOps.py. -/
import Derived.Test.YtkejoknphnkhnaaDoorGridEraseQ
import Derived.Test.YtkejoknphnkhnaaDoorGridSmQ
import Derived.Test.YtkejoknphnkhnaaDoorGridShiftQ
import Derived.Test.YtkejoknphnkhnaaDoorGridPdQ
namespace Go.Proofs.YtkejoknphnkhnaaDoor
open Go.RowKit

/-- A grid, or refused. -/
def GOut (W : World) (cols : Int) (lv : List (Ln × Value)) (ok : Bool) (n : Int) (tgt : List Ln) (e : Ending) (w' : World) : Prop :=
  ∃ xc A k c xn, e = .returned (.tuple #[.agg #[.int .i64 xc, .slice A k c], .int .i64 xn]) ∧ Below W.heap.size W w' ∧
    ((ok = true ∧ xc = cols ∧ xn = 0 ∧ ∃ lv', lv'.map Prod.fst = tgt ∧ LSl w' W.heap.size (.slice A k c) lv' ∧ NewOf w' W.heap.size lv lv') ∨ (ok = false ∧ xc = 0 ∧ (.slice A k c : Value) = .slice none 0 0 ∧ xn = n))
theorem GNo.out {W : World} {cols n : Int} {lv : List (Ln × Value)} {ok : Bool} {tgt : List Ln} {e : Ending} {w' : World} (h : GNo W n e w') (hk : ok = false) : GOut W cols lv ok n tgt e w' :=
  ⟨0, none, 0, 0, n, h.1, h.2, .inr ⟨hk, rfl, rfl, rfl⟩⟩
theorem GYes.out {W : World} {cols n : Int} {lv : List (Ln × Value)} {ok : Bool} {tgt : List Ln} {e : Ending} {w' : World} (h : GYes W cols lv tgt e w') (hk : ok = true) : GOut W cols lv ok n tgt e w' := by
  obtain ⟨v, lv', h1, h2, h3, h4, h5⟩ := h
  obtain ⟨A, c, rfl⟩ := h3.spell
  exact ⟨cols, A, _, c, 0, h1, h5, .inl ⟨hk, rfl, rfl, lv', h2, h3, h4⟩⟩
def rowL (ls : List Ln) (row : Int) : Ln := (ls[row.toNat]?).getD ⟨[], false⟩
theorem row_there {row : Int} {lv : List (Ln × Value)} (h : rowB row lv.length = true) : ∃ (r : Nat) (cs : List Ce) (soft : Bool) (u : Value), row = r ∧ lv[r]? = some (⟨cs, soft⟩, u) ∧ rowL (lv.map Prod.fst) row = ⟨cs, soft⟩ := by
  have h' : 0 ≤ row ∧ row < lv.length := of_decide_eq_true h
  obtain ⟨r, rfl⟩ : ∃ r : Nat, row = r := ⟨row.toNat, by omega⟩
  have hr : r < lv.length := by omega
  have hx := List.getElem?_eq_getElem hr
  refine ⟨r, lv[r].1.cs, lv[r].1.soft, lv[r].2, rfl, hx, ?_⟩
  unfold rowL
  rw [Int.toNat_natCast, List.getElem?_map, hx]
  rfl
/-- May rows and looks be told to such a grid? -/
def putOk (cols : Int) (lv : List (Ln × Value)) (row col : Int) (c : Ce) : Bool := mayB cols lv && (rowB row lv.length && (colB col cols && (rightB c && decide (c.tx.size ≠ 0))))
def roomB (cols col : Int) (c : Ce) : Bool := decide (c.wd = 2 ∧ col = cols - 1)
def putT (ls : List Ln) (row col : Int) (c : Ce) : List Ln := ls.set row.toNat ⟨mendL 1 (putL (rowL ls row).cs col.toNat c), (rowL ls row).soft⟩
theorem mayB_cols {cols : Int} {lv : List (Ln × Value)} (h : mayB cols lv = true) : (1 ≤ cols ∧ cols ≤ 80) ∧ 1 ≤ (lv.length : Int) ∧ (lv.length : Int) ≤ 50 := by
  unfold mayB sizeB at h
  rw [Bool.and_eq_true, Bool.and_eq_true, decide_eq_true_iff, decide_eq_true_iff] at h
  exact h.1
theorem put_out (cols row col : Int) (v : Value) (lv : List (Ln × Value)) (c : Ce) (W : World) (hg : GIn W v lv) (htx : c.tx.size ≤ 1000) (hT : Tab W) (hW : TabW W) :
    Calls Tryd.prog 52 #[.agg #[.int .i64 cols, v], .int .i64 row, .int .i64 col, c.agg] W (GOut W cols lv (putOk cols lv row col c && !roomB cols col c) (if putOk cols lv row col c = true then 9 else 1) (putT (lv.map Prod.fst) row col c)) := by
  have hok : putOk cols lv row col c = (mayB cols lv && (rowB row lv.length && (colB col cols && (rightB c && decide (c.tx.size ≠ 0))))) := rfl
  have no : ∀ (h : putOk cols lv row col c = false) {e w'}, GNo W 1 e w' → GOut W cols lv (putOk cols lv row col c && !roomB cols col c) (if putOk cols lv row col c = true then 9 else 1) (putT (lv.map Prod.fst) row col c) e w' := fun h e w' hn => by
    rw [h]
    exact GNo.out hn rfl
  cases a0 : mayB cols lv
  · exact (put_no0 cols row col v lv c W hg htx hT hW a0).mono fun _ _ h => no (by rw [hok, a0]; rfl) h
  cases a1 : rowB row lv.length
  · exact (put_no1 cols row col v lv c W hg htx hT hW a0 a1).mono fun _ _ h => no (by rw [hok, a0, a1]; rfl) h
  cases a2 : colB col cols
  · exact (put_no2 cols row col v lv c W hg htx hT hW a0 a1 a2).mono fun _ _ h => no (by rw [hok, a0, a1, a2]; rfl) h
  cases a3 : rightB c
  · exact (put_no3 cols row col v lv c W hg htx hT hW a0 a1 a2 a3).mono fun _ _ h => no (by rw [hok, a0, a1, a2, a3]; rfl) h
  by_cases a4 : c.tx.size = 0
  · exact (put_no4 cols row col v lv c W hg htx hT hW a0 a1 a2 a3 a4).mono fun _ _ h => no (by rw [hok, a0, a1, a2, a3, decide_eq_false (by simpa using a4)]; rfl) h
  have hyes : putOk cols lv row col c = true := by rw [hok, a0, a1, a2, a3, decide_eq_true a4]; rfl
  have hcc := mayB_cols a0
  rw [hyes]
  by_cases a5 : c.wd = 2 ∧ col = cols - 1
  · have hr : roomB cols col c = true := decide_eq_true a5
    rw [hr]
    exact (put_room cols row col v lv c W hg htx hT hW a0 a1 a2 a3 a4 a5.1 a5.2 hcc.1).mono fun _ _ h => GNo.out h rfl
  · have hr : roomB cols col c = false := decide_eq_false a5
    rw [hr]
    obtain ⟨r, cs, soft, u, rfl, hx, hrow⟩ := row_there a1
    have h2 : 0 ≤ col ∧ col < cols := of_decide_eq_true a2
    obtain ⟨q, rfl⟩ : ∃ q : Nat, col = q := ⟨col.toNat, by omega⟩
    have ht : putT (lv.map Prod.fst) r q c = (lv.map Prod.fst).set r ⟨mendL 1 (putL cs q c), soft⟩ := by
      unfold putT
      rw [hrow, Int.toNat_natCast, Int.toNat_natCast]
    rw [ht]
    by_cases hw : c.wd = 2
    · exact (put_yes2 cols r q v lv c cs soft u W hg htx hT hW hx a0 a1 a2 a3 a4 hw (fun h => a5 ⟨hw, h⟩)).mono fun _ _ h => GYes.out h rfl
    · exact (put_yes1 cols r q v lv c cs soft u W hg htx hT hW hx a0 a1 a2 a3 a4 hw).mono fun _ _ h => GYes.out h rfl

def eraseOk (cols : Int) (lv : List (Ln × Value)) (row fr tt : Int) (a : At) : Bool := (mayB cols lv && rowB row lv.length) && (decide (0 ≤ fr) && (decide (fr ≤ tt) && (decide (tt ≤ cols) && lookB a)))
def eraseT (ls : List Ln) (row fr tt : Int) (a : At) : List Ln := ls.set row.toNat ⟨mendL 1 (eraseL (rowL ls row).cs fr.toNat (tt - fr).toNat a), (rowL ls row).soft⟩
def softOk (cols : Int) (lv : List (Ln × Value)) (row : Int) : Bool := mayB cols lv && rowB row lv.length
def softT (ls : List Ln) (row : Int) (s : Bool) : List Ln := ls.set row.toNat ⟨(rowL ls row).cs, s⟩
end Go.Proofs.YtkejoknphnkhnaaDoor

namespace Go.Proofs.YtkejoknphnkhnaaDoor
open Go.RowKit

set_option maxRecDepth 100000 in
set_option maxHeartbeats 2000000 in
theorem insert_no (cols row col num : Int) (a : At) (v : Value) (lv : List (Ln × Value)) (W : World) (hg : GIn W v lv) (hT : Tab W) (hW : TabW W) (a0 : shiftOk cols lv row col num a = false) :
    Calls Tryd.prog 10 #[.agg #[.int .i64 cols, v], .int .i64 row, .int .i64 col, .int .i64 num, a.agg] W (GNo W 1) := by
  obtain ⟨A, c0, rfl⟩ := hg.lr.spell
  have HG := hid hg
  have HTT := hid hT
  have HWW := hid hW
  have hmay := fun w (hb : Below W.heap.size W w) => mayShift_any cols row col num a _ lv w (hg.below hb) (hT.below hb) (hW.below hb)
  obtain ⟨fg, bg, fl⟩ := a
  obtain ⟨n, hn⟩ : ∃ n, lv.length = n := ⟨_, rfl⟩
  have HN := hid hn
  have b0 := ((((((Bxs.nil W).alloc 24 #[.int .i64 cols, .slice A n c0]).alloc 3 #[.int .i64 col]).alloc 3 #[.int .i64 num]).alloc 26 #[.int .i64 fg, .int .i64 bg, .int .i64 fl]).alloc 24 #[.int .i64 0, .slice none 0 0])
  simp only [World.size_alloc, List.nil_append, List.cons_append] at b0
  have h0 : Below W.heap.size W (((((W.alloc (.cells #[.int .i64 cols, .slice A n c0] 24)).alloc (.cells #[.int .i64 col] 3)).alloc (.cells #[.int .i64 num] 3)).alloc (.cells #[.int .i64 fg, .int .i64 bg, .int .i64 fl] 26)).alloc (.cells #[.int .i64 0, .slice none 0 0] 24)) := (((((below_alloc _ _).alloc (by simp <;> omega) _).alloc (by simp <;> omega) _).alloc (by simp <;> omega) _).alloc (by simp <;> omega) _)
  have s0 : W.heap.size + 1 + 1 + 1 + 1 + 1 ≤ (((((W.alloc (.cells #[.int .i64 cols, .slice A n c0] 24)).alloc (.cells #[.int .i64 col] 3)).alloc (.cells #[.int .i64 num] 3)).alloc (.cells #[.int .i64 fg, .int .i64 bg, .int .i64 fl] 26)).alloc (.cells #[.int .i64 0, .slice none 0 0] 24)).heap.size := by simp
  have BX0 := hid b0
  have H0 := hid h0
  have S0 := hid s0
  rw [hn] at hmay ⊢
  rw [a0] at hmay
  unfold At.agg at hmay ⊢
  simp only at hmay ⊢
  have HMAY := hid hmay
  clear hg hT hW hn b0 h0 s0 hmay a0
  go_enter Tryd.func10, Tryd.ntmps10
  go_upto_region 1 with fail
  generalize (((((W.alloc (.cells #[.int .i64 cols, .slice A n c0] 24)).alloc (.cells #[.int .i64 col] 3)).alloc (.cells #[.int .i64 num] 3)).alloc (.cells #[.int .i64 fg, .int .i64 bg, .int .i64 fl] 26)).alloc (.cells #[.int .i64 0, .slice none 0 0] 24)) = w0 at *
  obtain ⟨⟨k0_0, k0_1⟩, f0_0, f0_1⟩ := (BX0.out.get 0 rfl).two
  have k1_0 := (BX0.out.get 1 rfl).cell 0
  have f1_0 := (BX0.out.get 1 rfl).free 0
  have k2_0 := (BX0.out.get 2 rfl).cell 0
  have f2_0 := (BX0.out.get 2 rfl).free 0
  obtain ⟨⟨k3_0, k3_1, k3_2⟩, f3_0, f3_1, f3_2⟩ := (BX0.out.get 3 rfl).three
  obtain ⟨⟨k4_0, k4_1⟩, f4_0, f4_1⟩ := (BX0.out.get 4 rfl).two
  have hcall := HMAY.out w0 H0.out
  have HCALL := hid hcall
  clear hcall
  go_wp2_with fail
  with_reducible refine HCALL.out.mono ?_
  rintro e w1 ⟨rfl, hb⟩
  dsimp only
  have BX1 := hid (BX0.out.below hb)
  have H1 := hid (H0.out.trans (hb.mono H0.out.size))
  have S1 := hid (Nat.le_trans S0.out hb.size)
  clear hb HCALL
  clear k0_0 k0_1 k1_0 k2_0 k3_0 k3_1 k3_2 k4_0 k4_1 f0_0 f0_1 f1_0 f2_0 f3_0 f3_1 f3_2 f4_0 f4_1
  obtain ⟨⟨k0_0, k0_1⟩, f0_0, f0_1⟩ := (BX1.out.get 0 rfl).two
  have k1_0 := (BX1.out.get 1 rfl).cell 0
  have f1_0 := (BX1.out.get 1 rfl).free 0
  have k2_0 := (BX1.out.get 2 rfl).cell 0
  have f2_0 := (BX1.out.get 2 rfl).free 0
  obtain ⟨⟨k3_0, k3_1, k3_2⟩, f3_0, f3_1, f3_2⟩ := (BX1.out.get 3 rfl).three
  obtain ⟨⟨k4_0, k4_1⟩, f4_0, f4_1⟩ := (BX1.out.get 4 rfl).two
  go_wp2
  refine bodyPost_ret (v := .tuple #[.agg #[.int .i64 0, .slice none 0 0], .int .i64 1]) (by simp [results, Tryd.results10, go_sem, k4_0, k4_1]) rfl ⟨rfl, ?_⟩
  exact (H1.out.setCell (p := ⟨W.heap.size + 1 + 1 + 1 + 1, 0, none⟩) (by show W.heap.size ≤ W.heap.size + 1 + 1 + 1 + 1; omega) _).setCell (p := ⟨W.heap.size + 1 + 1 + 1 + 1, 1, none⟩) (by show W.heap.size ≤ W.heap.size + 1 + 1 + 1 + 1; omega) _

set_option maxRecDepth 100000 in
set_option maxHeartbeats 2000000 in
theorem insert_yes (cols num : Int) (r q m : Nat) (a : At) (v : Value) (lv : List (Ln × Value)) (cs : List Ce) (soft : Bool) (lvl : Value) (W : World) (hg : GIn W v lv) (hT : Tab W) (hW : TabW W) (hx : lv[r]? = some (⟨cs, soft⟩, lvl)) (a0 : shiftOk cols lv r q num a = true) (hm : (num ≤ ((cs.length - q : Nat) : Int) ∧ num = m) ∨ (((cs.length - q : Nat) : Int) < num ∧ m = cs.length - q)) :
    Calls Tryd.prog 10 #[.agg #[.int .i64 cols, v], .int .i64 r, .int .i64 q, .int .i64 num, a.agg] W (GYes W cols lv ((lv.map Prod.fst).set r ⟨mendL 1 (insL cs q m a), soft⟩)) := by
  have a0' := a0
  unfold shiftOk at a0'
  simp only [Bool.and_eq_true, decide_eq_true_iff] at a0'
  obtain ⟨z0, z1, z2, z3, z4⟩ := a0'
  have hfit := fits_iff.1 (mayB_at z0 hx)
  simp only at hfit
  have hcc := z0
  unfold mayB sizeB at hcc
  rw [Bool.and_eq_true, Bool.and_eq_true, decide_eq_true_iff, decide_eq_true_iff] at hcc
  have hq : 0 ≤ (q : Int) ∧ (q : Int) < cols := of_decide_eq_true z2
  have hcs : cs.length ≤ 1000 := by omega
  have hql : q < cs.length := by omega
  have hlen : (insL cs q m a).length ≤ 1000 := by
    unfold insL
    rw [eraseL_length _ (by rw [putAll_length]; omega), putAll_length]
    exact hcs
  obtain ⟨A, c0, rfl⟩ := hg.lr.spell
  have HG := hid hg
  have HTT := hid hT
  have HWW := hid hW
  have hmay := fun w (hb : Below W.heap.size W w) => mayShift_any cols r q num a _ lv w (hg.below hb) (hT.below hb) (hW.below hb)
  have hchg := fun w (b1 b2 b3 : Nat) h1 h2 h3 k1 k2 k3 => insert_chg w.heap.size w cs soft q m num a b1 b2 b3 h1 h2 h3 k1 k2 k3 hql hcs z3 hm
  obtain ⟨fg, bg, fl⟩ := a
  obtain ⟨n, hn⟩ : ∃ n, lv.length = n := ⟨_, rfl⟩
  have HN := hid hn
  have b0 := ((((((Bxs.nil W).alloc 24 #[.int .i64 cols, .slice A n c0]).alloc 3 #[.int .i64 q]).alloc 3 #[.int .i64 num]).alloc 26 #[.int .i64 fg, .int .i64 bg, .int .i64 fl]).alloc 24 #[.int .i64 0, .slice none 0 0])
  simp only [World.size_alloc, List.nil_append, List.cons_append] at b0
  have h0 : Below W.heap.size W (((((W.alloc (.cells #[.int .i64 cols, .slice A n c0] 24)).alloc (.cells #[.int .i64 q] 3)).alloc (.cells #[.int .i64 num] 3)).alloc (.cells #[.int .i64 fg, .int .i64 bg, .int .i64 fl] 26)).alloc (.cells #[.int .i64 0, .slice none 0 0] 24)) := (((((below_alloc _ _).alloc (by simp <;> omega) _).alloc (by simp <;> omega) _).alloc (by simp <;> omega) _).alloc (by simp <;> omega) _)
  have s0 : W.heap.size + 1 + 1 + 1 + 1 + 1 ≤ (((((W.alloc (.cells #[.int .i64 cols, .slice A n c0] 24)).alloc (.cells #[.int .i64 q] 3)).alloc (.cells #[.int .i64 num] 3)).alloc (.cells #[.int .i64 fg, .int .i64 bg, .int .i64 fl] 26)).alloc (.cells #[.int .i64 0, .slice none 0 0] 24)).heap.size := by simp
  have BX0 := hid b0
  have H0 := hid h0
  have S0 := hid s0
  rw [hn] at hmay ⊢
  rw [a0] at hmay
  unfold At.agg at hmay ⊢
  simp only at hmay ⊢
  have HMAY := hid hmay
  have HX := hid hx
  have HCH := hid hchg
  have HPL := hid hlen
  clear hg hT hW hn b0 h0 s0 hmay a0 z0 z1 z2 z3 z4 hfit hcc hq hql hlen hx hchg hm
  go_enter Tryd.func10, Tryd.ntmps10
  go_upto_region 1 with fail
  generalize (((((W.alloc (.cells #[.int .i64 cols, .slice A n c0] 24)).alloc (.cells #[.int .i64 q] 3)).alloc (.cells #[.int .i64 num] 3)).alloc (.cells #[.int .i64 fg, .int .i64 bg, .int .i64 fl] 26)).alloc (.cells #[.int .i64 0, .slice none 0 0] 24)) = w0 at *
  obtain ⟨⟨k0_0, k0_1⟩, f0_0, f0_1⟩ := (BX0.out.get 0 rfl).two
  have k1_0 := (BX0.out.get 1 rfl).cell 0
  have f1_0 := (BX0.out.get 1 rfl).free 0
  have k2_0 := (BX0.out.get 2 rfl).cell 0
  have f2_0 := (BX0.out.get 2 rfl).free 0
  obtain ⟨⟨k3_0, k3_1, k3_2⟩, f3_0, f3_1, f3_2⟩ := (BX0.out.get 3 rfl).three
  obtain ⟨⟨k4_0, k4_1⟩, f4_0, f4_1⟩ := (BX0.out.get 4 rfl).two
  have hcall := HMAY.out w0 H0.out
  have HCALL := hid hcall
  clear hcall
  go_wp2_with fail
  with_reducible refine HCALL.out.mono ?_
  rintro e w1 ⟨rfl, hb⟩
  dsimp only
  have BX1 := hid (BX0.out.below hb)
  have H1 := hid (H0.out.trans (hb.mono H0.out.size))
  have S1 := hid (Nat.le_trans S0.out hb.size)
  clear hb HCALL
  clear k0_0 k0_1 k1_0 k2_0 k3_0 k3_1 k3_2 k4_0 k4_1 f0_0 f0_1 f1_0 f2_0 f3_0 f3_1 f3_2 f4_0 f4_1
  obtain ⟨⟨k0_0, k0_1⟩, f0_0, f0_1⟩ := (BX1.out.get 0 rfl).two
  have k1_0 := (BX1.out.get 1 rfl).cell 0
  have f1_0 := (BX1.out.get 1 rfl).free 0
  have k2_0 := (BX1.out.get 2 rfl).cell 0
  have f2_0 := (BX1.out.get 2 rfl).free 0
  obtain ⟨⟨k3_0, k3_1, k3_2⟩, f3_0, f3_1, f3_2⟩ := (BX1.out.get 3 rfl).three
  obtain ⟨⟨k4_0, k4_1⟩, f4_0, f4_1⟩ := (BX1.out.get 4 rfl).two
  have hin := HG.out.below H1.out
  have hcall := changed_any cols _ lv r 43 #[.pointer (some ⟨W.heap.size + 1, 0, none⟩), .pointer (some ⟨W.heap.size + 1 + 1, 0, none⟩), .pointer (some ⟨W.heap.size + 1 + 1 + 1, 0, none⟩)] w1 cs _ soft soft lvl hin.lr hin.ces hin.sm HX.out (HCH.out w1 _ _ _ (by have := S1.out; omega) (by have := S1.out; omega) (by have := S1.out; omega) (BX1.out.get 1 rfl) (BX1.out.get 2 rfl) (BX1.out.get 3 rfl)) (HPL.out)
  rw [HN.out] at hcall
  have HCALL := hid hcall
  clear hcall hin HCH
  go_wp2_with fail
  with_reducible refine HCALL.out.mono ?_
  rintro e w2 ⟨v5, lv5, rfl, hm5, hl5, hn5, hb5⟩
  dsimp only
  have BX2 := hid (BX1.out.below hb5)
  have H2 := hid (H1.out.trans (hb5.mono H1.out.size))
  obtain ⟨A5, c5, hs5⟩ := hl5.spell
  subst hs5
  have HM5 := hid hm5
  have HL5 := hid hl5
  have HN5 := hid hn5
  clear hm5 hl5 hn5 hb5 HCALL
  clear k0_0 k0_1 k1_0 k2_0 k3_0 k3_1 k3_2 k4_0 k4_1 f0_0 f0_1 f1_0 f2_0 f3_0 f3_1 f3_2 f4_0 f4_1
  obtain ⟨⟨k0_0, k0_1⟩, f0_0, f0_1⟩ := (BX2.out.get 0 rfl).two
  have k1_0 := (BX2.out.get 1 rfl).cell 0
  have f1_0 := (BX2.out.get 1 rfl).free 0
  have k2_0 := (BX2.out.get 2 rfl).cell 0
  have f2_0 := (BX2.out.get 2 rfl).free 0
  obtain ⟨⟨k3_0, k3_1, k3_2⟩, f3_0, f3_1, f3_2⟩ := (BX2.out.get 3 rfl).three
  obtain ⟨⟨k4_0, k4_1⟩, f4_0, f4_1⟩ := (BX2.out.get 4 rfl).two
  have hm3 := (BX2.out.get 4 rfl)
  have HM3 := hid hm3
  clear hm3
  go_wp2
  refine bodyPost_ret (v := .tuple #[.agg #[.int .i64 cols, .slice A5 lv5.length c5], .int .i64 0]) (by simp [results, Tryd.results10, go_sem, k4_0, k4_1]) rfl ?_
  exact gyes_end HM5.out HL5.out HN5.out H1.out.size H2.out HM3.out (by show W.heap.size ≤ W.heap.size + 1 + 1 + 1 + 1; omega) rfl

def insertT (ls : List Ln) (row col num : Int) (a : At) : List Ln := ls.set row.toNat ⟨mendL 1 (insL (rowL ls row).cs col.toNat (min num.toNat ((rowL ls row).cs.length - col.toNat)) a), (rowL ls row).soft⟩
theorem insert_out (cols row col num : Int) (a : At) (v : Value) (lv : List (Ln × Value)) (W : World) (hg : GIn W v lv) (hT : Tab W) (hW : TabW W) :
    Calls Tryd.prog 10 #[.agg #[.int .i64 cols, v], .int .i64 row, .int .i64 col, .int .i64 num, a.agg] W (GOut W cols lv (shiftOk cols lv row col num a) 1 (insertT (lv.map Prod.fst) row col num a)) := by
  cases a0 : shiftOk cols lv row col num a
  · exact (insert_no cols row col num a v lv W hg hT hW a0).mono fun _ _ h => h.out rfl
  · have a0' := a0
    unfold shiftOk at a0'
    simp only [Bool.and_eq_true, decide_eq_true_iff] at a0'
    obtain ⟨z0, z1, z2, z3, z4⟩ := a0'
    obtain ⟨r, cs, soft, u, rfl, hx, hrow⟩ := row_there z1
    have h2 : 0 ≤ col ∧ col < cols := of_decide_eq_true z2
    obtain ⟨q, rfl⟩ : ∃ q : Nat, col = q := ⟨col.toNat, by omega⟩
    have ht : insertT (lv.map Prod.fst) r q num a = (lv.map Prod.fst).set r ⟨mendL 1 (insL cs q (min num.toNat (cs.length - q)) a), soft⟩ := by
      unfold insertT
      rw [hrow, Int.toNat_natCast, Int.toNat_natCast]
    rw [ht]
    exact (insert_yes cols num r q (min num.toNat (cs.length - q)) a v lv cs soft u W hg hT hW hx a0 (by omega)).mono fun _ _ h => h.out rfl

set_option maxRecDepth 100000 in
set_option maxHeartbeats 2000000 in
theorem delete_no (cols row col num : Int) (a : At) (v : Value) (lv : List (Ln × Value)) (W : World) (hg : GIn W v lv) (hT : Tab W) (hW : TabW W) (a0 : shiftOk cols lv row col num a = false) :
    Calls Tryd.prog 11 #[.agg #[.int .i64 cols, v], .int .i64 row, .int .i64 col, .int .i64 num, a.agg] W (GNo W 1) := by
  obtain ⟨A, c0, rfl⟩ := hg.lr.spell
  have HG := hid hg
  have HTT := hid hT
  have HWW := hid hW
  have hmay := fun w (hb : Below W.heap.size W w) => mayShift_any cols row col num a _ lv w (hg.below hb) (hT.below hb) (hW.below hb)
  obtain ⟨fg, bg, fl⟩ := a
  obtain ⟨n, hn⟩ : ∃ n, lv.length = n := ⟨_, rfl⟩
  have HN := hid hn
  have b0 := ((((((Bxs.nil W).alloc 24 #[.int .i64 cols, .slice A n c0]).alloc 3 #[.int .i64 col]).alloc 3 #[.int .i64 num]).alloc 26 #[.int .i64 fg, .int .i64 bg, .int .i64 fl]).alloc 24 #[.int .i64 0, .slice none 0 0])
  simp only [World.size_alloc, List.nil_append, List.cons_append] at b0
  have h0 : Below W.heap.size W (((((W.alloc (.cells #[.int .i64 cols, .slice A n c0] 24)).alloc (.cells #[.int .i64 col] 3)).alloc (.cells #[.int .i64 num] 3)).alloc (.cells #[.int .i64 fg, .int .i64 bg, .int .i64 fl] 26)).alloc (.cells #[.int .i64 0, .slice none 0 0] 24)) := (((((below_alloc _ _).alloc (by simp <;> omega) _).alloc (by simp <;> omega) _).alloc (by simp <;> omega) _).alloc (by simp <;> omega) _)
  have s0 : W.heap.size + 1 + 1 + 1 + 1 + 1 ≤ (((((W.alloc (.cells #[.int .i64 cols, .slice A n c0] 24)).alloc (.cells #[.int .i64 col] 3)).alloc (.cells #[.int .i64 num] 3)).alloc (.cells #[.int .i64 fg, .int .i64 bg, .int .i64 fl] 26)).alloc (.cells #[.int .i64 0, .slice none 0 0] 24)).heap.size := by simp
  have BX0 := hid b0
  have H0 := hid h0
  have S0 := hid s0
  rw [hn] at hmay ⊢
  rw [a0] at hmay
  unfold At.agg at hmay ⊢
  simp only at hmay ⊢
  have HMAY := hid hmay
  clear hg hT hW hn b0 h0 s0 hmay a0
  go_enter Tryd.func11, Tryd.ntmps11
  go_upto_region 1 with fail
  generalize (((((W.alloc (.cells #[.int .i64 cols, .slice A n c0] 24)).alloc (.cells #[.int .i64 col] 3)).alloc (.cells #[.int .i64 num] 3)).alloc (.cells #[.int .i64 fg, .int .i64 bg, .int .i64 fl] 26)).alloc (.cells #[.int .i64 0, .slice none 0 0] 24)) = w0 at *
  obtain ⟨⟨k0_0, k0_1⟩, f0_0, f0_1⟩ := (BX0.out.get 0 rfl).two
  have k1_0 := (BX0.out.get 1 rfl).cell 0
  have f1_0 := (BX0.out.get 1 rfl).free 0
  have k2_0 := (BX0.out.get 2 rfl).cell 0
  have f2_0 := (BX0.out.get 2 rfl).free 0
  obtain ⟨⟨k3_0, k3_1, k3_2⟩, f3_0, f3_1, f3_2⟩ := (BX0.out.get 3 rfl).three
  obtain ⟨⟨k4_0, k4_1⟩, f4_0, f4_1⟩ := (BX0.out.get 4 rfl).two
  have hcall := HMAY.out w0 H0.out
  have HCALL := hid hcall
  clear hcall
  go_wp2_with fail
  with_reducible refine HCALL.out.mono ?_
  rintro e w1 ⟨rfl, hb⟩
  dsimp only
  have BX1 := hid (BX0.out.below hb)
  have H1 := hid (H0.out.trans (hb.mono H0.out.size))
  have S1 := hid (Nat.le_trans S0.out hb.size)
  clear hb HCALL
  clear k0_0 k0_1 k1_0 k2_0 k3_0 k3_1 k3_2 k4_0 k4_1 f0_0 f0_1 f1_0 f2_0 f3_0 f3_1 f3_2 f4_0 f4_1
  obtain ⟨⟨k0_0, k0_1⟩, f0_0, f0_1⟩ := (BX1.out.get 0 rfl).two
  have k1_0 := (BX1.out.get 1 rfl).cell 0
  have f1_0 := (BX1.out.get 1 rfl).free 0
  have k2_0 := (BX1.out.get 2 rfl).cell 0
  have f2_0 := (BX1.out.get 2 rfl).free 0
  obtain ⟨⟨k3_0, k3_1, k3_2⟩, f3_0, f3_1, f3_2⟩ := (BX1.out.get 3 rfl).three
  obtain ⟨⟨k4_0, k4_1⟩, f4_0, f4_1⟩ := (BX1.out.get 4 rfl).two
  go_wp2
  refine bodyPost_ret (v := .tuple #[.agg #[.int .i64 0, .slice none 0 0], .int .i64 1]) (by simp [results, Tryd.results11, go_sem, k4_0, k4_1]) rfl ⟨rfl, ?_⟩
  exact (H1.out.setCell (p := ⟨W.heap.size + 1 + 1 + 1 + 1, 0, none⟩) (by show W.heap.size ≤ W.heap.size + 1 + 1 + 1 + 1; omega) _).setCell (p := ⟨W.heap.size + 1 + 1 + 1 + 1, 1, none⟩) (by show W.heap.size ≤ W.heap.size + 1 + 1 + 1 + 1; omega) _

set_option maxRecDepth 100000 in
set_option maxHeartbeats 2000000 in
theorem delete_yes (cols num : Int) (r q m : Nat) (a : At) (v : Value) (lv : List (Ln × Value)) (cs : List Ce) (soft : Bool) (lvl : Value) (W : World) (hg : GIn W v lv) (hT : Tab W) (hW : TabW W) (hx : lv[r]? = some (⟨cs, soft⟩, lvl)) (a0 : shiftOk cols lv r q num a = true) (hm : (num ≤ ((cs.length - q : Nat) : Int) ∧ num = m) ∨ (((cs.length - q : Nat) : Int) < num ∧ m = cs.length - q)) :
    Calls Tryd.prog 11 #[.agg #[.int .i64 cols, v], .int .i64 r, .int .i64 q, .int .i64 num, a.agg] W (GYes W cols lv ((lv.map Prod.fst).set r ⟨mendL 1 (delL cs q m a), soft⟩)) := by
  have a0' := a0
  unfold shiftOk at a0'
  simp only [Bool.and_eq_true, decide_eq_true_iff] at a0'
  obtain ⟨z0, z1, z2, z3, z4⟩ := a0'
  have hfit := fits_iff.1 (mayB_at z0 hx)
  simp only at hfit
  have hcc := z0
  unfold mayB sizeB at hcc
  rw [Bool.and_eq_true, Bool.and_eq_true, decide_eq_true_iff, decide_eq_true_iff] at hcc
  have hq : 0 ≤ (q : Int) ∧ (q : Int) < cols := of_decide_eq_true z2
  have hcs : cs.length ≤ 1000 := by omega
  have hql : q < cs.length := by omega
  have hlen : (delL cs q m a).length ≤ 1000 := by
    unfold delL
    rw [eraseL_length _ (by rw [putAll_length]; omega), putAll_length]
    exact hcs
  obtain ⟨A, c0, rfl⟩ := hg.lr.spell
  have HG := hid hg
  have HTT := hid hT
  have HWW := hid hW
  have hmay := fun w (hb : Below W.heap.size W w) => mayShift_any cols r q num a _ lv w (hg.below hb) (hT.below hb) (hW.below hb)
  have hchg := fun w (b1 b2 b3 : Nat) h1 h2 h3 k1 k2 k3 => delete_chg w.heap.size w cs soft q m num a b1 b2 b3 h1 h2 h3 k1 k2 k3 hql hcs z3 hm
  obtain ⟨fg, bg, fl⟩ := a
  obtain ⟨n, hn⟩ : ∃ n, lv.length = n := ⟨_, rfl⟩
  have HN := hid hn
  have b0 := ((((((Bxs.nil W).alloc 24 #[.int .i64 cols, .slice A n c0]).alloc 3 #[.int .i64 q]).alloc 3 #[.int .i64 num]).alloc 26 #[.int .i64 fg, .int .i64 bg, .int .i64 fl]).alloc 24 #[.int .i64 0, .slice none 0 0])
  simp only [World.size_alloc, List.nil_append, List.cons_append] at b0
  have h0 : Below W.heap.size W (((((W.alloc (.cells #[.int .i64 cols, .slice A n c0] 24)).alloc (.cells #[.int .i64 q] 3)).alloc (.cells #[.int .i64 num] 3)).alloc (.cells #[.int .i64 fg, .int .i64 bg, .int .i64 fl] 26)).alloc (.cells #[.int .i64 0, .slice none 0 0] 24)) := (((((below_alloc _ _).alloc (by simp <;> omega) _).alloc (by simp <;> omega) _).alloc (by simp <;> omega) _).alloc (by simp <;> omega) _)
  have s0 : W.heap.size + 1 + 1 + 1 + 1 + 1 ≤ (((((W.alloc (.cells #[.int .i64 cols, .slice A n c0] 24)).alloc (.cells #[.int .i64 q] 3)).alloc (.cells #[.int .i64 num] 3)).alloc (.cells #[.int .i64 fg, .int .i64 bg, .int .i64 fl] 26)).alloc (.cells #[.int .i64 0, .slice none 0 0] 24)).heap.size := by simp
  have BX0 := hid b0
  have H0 := hid h0
  have S0 := hid s0
  rw [hn] at hmay ⊢
  rw [a0] at hmay
  unfold At.agg at hmay ⊢
  simp only at hmay ⊢
  have HMAY := hid hmay
  have HX := hid hx
  have HCH := hid hchg
  have HPL := hid hlen
  clear hg hT hW hn b0 h0 s0 hmay a0 z0 z1 z2 z3 z4 hfit hcc hq hql hlen hx hchg hm
  go_enter Tryd.func11, Tryd.ntmps11
  go_upto_region 1 with fail
  generalize (((((W.alloc (.cells #[.int .i64 cols, .slice A n c0] 24)).alloc (.cells #[.int .i64 q] 3)).alloc (.cells #[.int .i64 num] 3)).alloc (.cells #[.int .i64 fg, .int .i64 bg, .int .i64 fl] 26)).alloc (.cells #[.int .i64 0, .slice none 0 0] 24)) = w0 at *
  obtain ⟨⟨k0_0, k0_1⟩, f0_0, f0_1⟩ := (BX0.out.get 0 rfl).two
  have k1_0 := (BX0.out.get 1 rfl).cell 0
  have f1_0 := (BX0.out.get 1 rfl).free 0
  have k2_0 := (BX0.out.get 2 rfl).cell 0
  have f2_0 := (BX0.out.get 2 rfl).free 0
  obtain ⟨⟨k3_0, k3_1, k3_2⟩, f3_0, f3_1, f3_2⟩ := (BX0.out.get 3 rfl).three
  obtain ⟨⟨k4_0, k4_1⟩, f4_0, f4_1⟩ := (BX0.out.get 4 rfl).two
  have hcall := HMAY.out w0 H0.out
  have HCALL := hid hcall
  clear hcall
  go_wp2_with fail
  with_reducible refine HCALL.out.mono ?_
  rintro e w1 ⟨rfl, hb⟩
  dsimp only
  have BX1 := hid (BX0.out.below hb)
  have H1 := hid (H0.out.trans (hb.mono H0.out.size))
  have S1 := hid (Nat.le_trans S0.out hb.size)
  clear hb HCALL
  clear k0_0 k0_1 k1_0 k2_0 k3_0 k3_1 k3_2 k4_0 k4_1 f0_0 f0_1 f1_0 f2_0 f3_0 f3_1 f3_2 f4_0 f4_1
  obtain ⟨⟨k0_0, k0_1⟩, f0_0, f0_1⟩ := (BX1.out.get 0 rfl).two
  have k1_0 := (BX1.out.get 1 rfl).cell 0
  have f1_0 := (BX1.out.get 1 rfl).free 0
  have k2_0 := (BX1.out.get 2 rfl).cell 0
  have f2_0 := (BX1.out.get 2 rfl).free 0
  obtain ⟨⟨k3_0, k3_1, k3_2⟩, f3_0, f3_1, f3_2⟩ := (BX1.out.get 3 rfl).three
  obtain ⟨⟨k4_0, k4_1⟩, f4_0, f4_1⟩ := (BX1.out.get 4 rfl).two
  have hin := HG.out.below H1.out
  have hcall := changed_any cols _ lv r 45 #[.pointer (some ⟨W.heap.size + 1, 0, none⟩), .pointer (some ⟨W.heap.size + 1 + 1, 0, none⟩), .pointer (some ⟨W.heap.size + 1 + 1 + 1, 0, none⟩)] w1 cs _ soft soft lvl hin.lr hin.ces hin.sm HX.out (HCH.out w1 _ _ _ (by have := S1.out; omega) (by have := S1.out; omega) (by have := S1.out; omega) (BX1.out.get 1 rfl) (BX1.out.get 2 rfl) (BX1.out.get 3 rfl)) (HPL.out)
  rw [HN.out] at hcall
  have HCALL := hid hcall
  clear hcall hin HCH
  go_wp2_with fail
  with_reducible refine HCALL.out.mono ?_
  rintro e w2 ⟨v5, lv5, rfl, hm5, hl5, hn5, hb5⟩
  dsimp only
  have BX2 := hid (BX1.out.below hb5)
  have H2 := hid (H1.out.trans (hb5.mono H1.out.size))
  obtain ⟨A5, c5, hs5⟩ := hl5.spell
  subst hs5
  have HM5 := hid hm5
  have HL5 := hid hl5
  have HN5 := hid hn5
  clear hm5 hl5 hn5 hb5 HCALL
  clear k0_0 k0_1 k1_0 k2_0 k3_0 k3_1 k3_2 k4_0 k4_1 f0_0 f0_1 f1_0 f2_0 f3_0 f3_1 f3_2 f4_0 f4_1
  obtain ⟨⟨k0_0, k0_1⟩, f0_0, f0_1⟩ := (BX2.out.get 0 rfl).two
  have k1_0 := (BX2.out.get 1 rfl).cell 0
  have f1_0 := (BX2.out.get 1 rfl).free 0
  have k2_0 := (BX2.out.get 2 rfl).cell 0
  have f2_0 := (BX2.out.get 2 rfl).free 0
  obtain ⟨⟨k3_0, k3_1, k3_2⟩, f3_0, f3_1, f3_2⟩ := (BX2.out.get 3 rfl).three
  obtain ⟨⟨k4_0, k4_1⟩, f4_0, f4_1⟩ := (BX2.out.get 4 rfl).two
  have hm3 := (BX2.out.get 4 rfl)
  have HM3 := hid hm3
  clear hm3
  go_wp2
  refine bodyPost_ret (v := .tuple #[.agg #[.int .i64 cols, .slice A5 lv5.length c5], .int .i64 0]) (by simp [results, Tryd.results11, go_sem, k4_0, k4_1]) rfl ?_
  exact gyes_end HM5.out HL5.out HN5.out H1.out.size H2.out HM3.out (by show W.heap.size ≤ W.heap.size + 1 + 1 + 1 + 1; omega) rfl

def deleteT (ls : List Ln) (row col num : Int) (a : At) : List Ln := ls.set row.toNat ⟨mendL 1 (delL (rowL ls row).cs col.toNat (min num.toNat ((rowL ls row).cs.length - col.toNat)) a), (rowL ls row).soft⟩
theorem delete_out (cols row col num : Int) (a : At) (v : Value) (lv : List (Ln × Value)) (W : World) (hg : GIn W v lv) (hT : Tab W) (hW : TabW W) :
    Calls Tryd.prog 11 #[.agg #[.int .i64 cols, v], .int .i64 row, .int .i64 col, .int .i64 num, a.agg] W (GOut W cols lv (shiftOk cols lv row col num a) 1 (deleteT (lv.map Prod.fst) row col num a)) := by
  cases a0 : shiftOk cols lv row col num a
  · exact (delete_no cols row col num a v lv W hg hT hW a0).mono fun _ _ h => h.out rfl
  · have a0' := a0
    unfold shiftOk at a0'
    simp only [Bool.and_eq_true, decide_eq_true_iff] at a0'
    obtain ⟨z0, z1, z2, z3, z4⟩ := a0'
    obtain ⟨r, cs, soft, u, rfl, hx, hrow⟩ := row_there z1
    have h2 : 0 ≤ col ∧ col < cols := of_decide_eq_true z2
    obtain ⟨q, rfl⟩ : ∃ q : Nat, col = q := ⟨col.toNat, by omega⟩
    have ht : deleteT (lv.map Prod.fst) r q num a = (lv.map Prod.fst).set r ⟨mendL 1 (delL cs q (min num.toNat (cs.length - q)) a), soft⟩ := by
      unfold deleteT
      rw [hrow, Int.toNat_natCast, Int.toNat_natCast]
    rw [ht]
    exact (delete_yes cols num r q (min num.toNat (cs.length - q)) a v lv cs soft u W hg hT hW hx a0 (by omega)).mono fun _ _ h => h.out rfl

end Go.Proofs.YtkejoknphnkhnaaDoor
