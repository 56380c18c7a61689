/- Layer 11, the package: indexOf, halves; Split of a pane alone; the statements' alive. -/
import Derived.Test.YtgdndenjhnbkoaaTreeLQ
import Derived.Test.YtgdndenjhnbkoaaTreeYQ
namespace Go.Proofs.Ytgdndenjhnbkoaa
open Go.RowKit Go.Shelf

theorem isp_any (q : Rc) (bx : Nat) (x : Int) (W : World) (hx : W.cell? ⟨bx, 0, none⟩ = some (.int .i64 x)) :
    Calls Try.prog 37 #[.agg #[.int .i64 q.pane, .int .i64 q.x, .int .i64 q.y, .int .i64 q.w, .int .i64 q.h], .pointer (some ⟨bx, 0, none⟩)] W fun e w' => e = .returned (.bool (q.pane == x)) ∧ Below W.heap.size W w' := by
  have hb := below_alloc W (.cells #[.int .i64 q.pane, .int .i64 q.x, .int .i64 q.y, .int .i64 q.w, .int .i64 q.h] 32)
  have d := (hb.cell (p := ⟨bx, 0, none⟩) (t_cell_lt hx)).trans hx
  have HB := hid hb
  clear hb
  go_enter Try.func37, Try.ntmps37
  go_wp2
  go_ret
  exact ⟨rfl, HB.out⟩
/-- Where a pane stands in a row of rects. -/
def IdxIs (l : List Rc) (x r : Int) : Prop := (∃ (k : Nat) (q : Rc), r = k ∧ l[k]? = some q ∧ q.pane = x) ∨ (r = -1 ∧ ∀ q ∈ l, q.pane ≠ x)
def IdxPost (W : World) (l : List Rc) (x : Int) (e : Ending) (w' : World) : Prop := (∃ r, e = .returned (.int .i64 r) ∧ IdxIs l x r) ∧ Below W.heap.size W w'
set_option maxRecDepth 100000 in
set_option maxHeartbeats 4000000 in
theorem idxf_any (v : Value) (l : List Rc) (x : Int) (base bx : Nat) (W : World) (h : OwnQ W base v l) (hn : l.length ≤ 1000) (hx : W.cell? ⟨bx, 0, none⟩ = some (.int .i64 x)) :
    Calls Try.prog 36 #[v, .func (.func 37) #[] #[.pointer (some ⟨bx, 0, none⟩)]] W (IdxPost W l x) := by
  have hk := fun hl => h.row hl
  obtain ⟨A, c, rfl⟩ := h.spell
  obtain ⟨n, hnn⟩ : ∃ n, l.length = n := ⟨_, rfl⟩
  rw [hnn] at hk hn ⊢
  have HK := hid hk
  have hni : (n : Int) ≤ 1000 := by omega
  have HP := hid (fun (q : Rc) (W' : World) (hb : Below W.heap.size W W') => isp_any q bx x W' ((hb.cell (p := ⟨bx, 0, none⟩) (t_cell_lt hx)).trans hx))
  clear hk h hx
  go_enter Try.func36, Try.ntmps36
  go_wp2_with fail
  go_loopw [8] (fun i wr => ∃ k : Nat, i = .int .i64 k ∧ k ≤ n ∧ (∀ (j : Nat) (q : Rc), j < k → l[j]? = some q → q.pane ≠ x) ∧ Below W.heap.size W wr) (fun i _ => n - (intOf i).toNat)
  case atStart => exact ⟨0, rfl, Nat.zero_le _, fun j y hj => absurd hj (Nat.not_lt_zero _), Below.refl _ _⟩
  case round =>
    obtain ⟨k, rfl, hkn, hno, hbr⟩ := hrel
    by_cases hlt : k < n
    · have hki : (k : Int) < n := by omega
      obtain ⟨y, hy⟩ : ∃ y, l[k]? = some y := ⟨_, List.getElem?_eq_getElem (by omega)⟩
      obtain ⟨g, c', e, _, hg, hc', hcell⟩ := HK.out (by intro e; rw [e] at hnn; simp at hnn; omega)
      cases e
      have q0 : wr.cell? ⟨g, k * 5, none⟩ = some (.int .i64 y.pane) := (hbr.cell (p := ⟨g, k * 5, none⟩) hg).trans (hcell k y 0 _ hy rfl)
      have q1 : wr.cell? ⟨g, k * 5 + 1, none⟩ = some (.int .i64 y.x) := (hbr.cell (p := ⟨g, k * 5 + 1, none⟩) hg).trans (hcell k y 1 _ hy rfl)
      have q2 : wr.cell? ⟨g, k * 5 + 2, none⟩ = some (.int .i64 y.y) := (hbr.cell (p := ⟨g, k * 5 + 2, none⟩) hg).trans (hcell k y 2 _ hy rfl)
      have q3 : wr.cell? ⟨g, k * 5 + 3, none⟩ = some (.int .i64 y.w) := (hbr.cell (p := ⟨g, k * 5 + 3, none⟩) hg).trans (hcell k y 3 _ hy rfl)
      have q4 : wr.cell? ⟨g, k * 5 + 4, none⟩ = some (.int .i64 y.h) := (hbr.cell (p := ⟨g, k * 5 + 4, none⟩) hg).trans (hcell k y 4 _ hy rfl)
      have HC := hid (HP.out y wr hbr)
      have HB := hid hbr
      by_cases hyx : y.pane = x
      · have HV := hid (show IdxIs l x k from .inl ⟨k, y, rfl, hy, hyx⟩)
        rw [show (y.pane == x) = true by simp [hyx]] at HC
        clear hno hy hcell hyx hbr
        go_wp2_with ((with_reducible refine HC.out.mono ?_); rintro e w2 ⟨rfl, hb2⟩)
        go_ret
        exact ⟨⟨_, rfl, HV.out⟩, HB.out.trans (hb2.mono HB.out.size)⟩
      · have HNO := hid (show ∀ (j : Nat) (z : Rc), j < k + 1 → l[j]? = some z → z.pane ≠ x from fun j z hj hz => by
          by_cases e : j = k
          · subst e; rw [hy] at hz; cases hz; exact hyx
          · exact hno j z (by omega) hz)
        rw [show (y.pane == x) = false by simp [hyx]] at HC
        clear hno hy hcell hyx hbr
        go_wp2_with ((with_reducible refine HC.out.mono ?_); rintro e w2 ⟨rfl, hb2⟩)
        go_roundw
        case rel => exact ⟨k + 1, by go_num, by omega, HNO.out, HB.out.trans (hb2.mono HB.out.size)⟩
        case measure => simp [intOf]; omega
    · have hkn' : k = n := by omega
      subst hkn'
      have HV := hid (show IdxIs l x (-1) from .inr ⟨rfl, fun q hq => by
        obtain ⟨j, hj⟩ := List.getElem?_of_mem hq
        exact hno j q (by have := (List.getElem?_eq_some_iff.1 hj).1; omega) hj⟩)
      have HB := hid hbr
      clear hno hlt hbr
      go_wp2
      go_ret
      exact ⟨⟨_, rfl, HV.out⟩, HB.out⟩
theorem idx_any (v : Value) (l : List Rc) (x : Int) (base : Nat) (W : World) (h : OwnQ W base v l) (hn : l.length ≤ 1000) :
    Calls Try.prog 20 #[v, .int .i64 x] W (IdxPost W l x) := by
  have hb := below_alloc W (.cells #[.int .i64 x] 3)
  have H := hid (idxf_any v l x base W.heap.size _ (h.kept hb) hn ((Box.new W 3 #[.int .i64 x]).cell 0))
  have HB := hid hb
  obtain ⟨A, c, rfl⟩ := h.spell
  clear h hb
  go_enter Try.func20, Try.ntmps20
  go_wp2_with ((with_reducible refine H.out.mono ?_); rintro e w2 ⟨⟨r, rfl, hr⟩, hb2⟩)
  go_ret
  exact ⟨⟨_, rfl, hr⟩, HB.out.trans (hb2.mono HB.out.size)⟩
theorem halves_ten (W : World) : Calls Try.prog 31 #[.int .i64 1, .int .i64 2, .int .i64 10] W fun e w' => e = .returned (.slice (some ⟨W.heap.size, 0, none⟩) 2 2) ∧ w' = W.alloc (.cells #[.int .i64 0, .int .i64 1, .int .i64 5, .slice none 0 0, .int .i64 0, .int .i64 2, .int .i64 4, .slice none 0 0] 24) := by
  go_enter Try.func31, Try.ntmps31
  go_wp2
  go_ret
  exact ⟨rfl, rfl⟩
theorem idx_yes {q : Rc} {x r : Int} (hq : q.pane = x) (h : IdxIs [q] x r) : r = 0 := by
  rcases h with ⟨k, y, rfl, hk, _⟩ | ⟨_, h⟩
  · cases k with
    | zero => rfl
    | succ k => simp at hk
  · exact absurd hq (h q (by simp))
theorem idx_no {q : Rc} {x r : Int} (hq : q.pane ≠ x) (h : IdxIs [q] x r) : r = -1 := by
  rcases h with ⟨k, y, rfl, hk, hy⟩ | ⟨h, _⟩
  · cases k with
    | zero => simp at hk; subst hk; exact absurd hy hq
    | succ k => simp at hk
  · exact h
/-- A pane alone. -/
def leafT : Tr := .mk 0 1 0 []
theorem leaf_tr (W : World) : TrAt W leafT (.slice none 0 0) := by
  unfold leafT TrAt
  exact ⟨none, 0, rfl, Nat.le_refl _, fun h => absurd rfl h⟩
theorem leaf_rects : rectsT leafT 10 5 = [⟨1, 0, 0, 10, 5⟩] := by
  simp [rectsT, leafT, items, itemsL, panesOf, Tr.kind]
theorem leaf_right : rightB leafT 10 5 = true := by
  simp [rightB, leafT, items, itemsL, rightGo, sizeB, madeR, isPaneB, Tr.kind, Tr.pane, Tr.kids]
set_option maxRecDepth 100000 in
set_option maxHeartbeats 8000000 in
theorem split_ten (W : World) : Calls Try.prog 13 #[.agg #[.int .i64 0, .int .i64 1, .int .i64 0, .slice none 0 0], .int .i64 10, .int .i64 5, .int .i64 1, .int .i64 1, .int .i64 2] W fun e w' =>
    ∃ hb, e = .returned (.tuple #[.agg #[.int .i64 1, .int .i64 0, .int .i64 0, .slice (some ⟨hb, 0, none⟩) 2 2], .int .i64 0]) ∧ Box w' hb 24 #[.int .i64 0, .int .i64 1, .int .i64 5, .slice none 0 0, .int .i64 0, .int .i64 2, .int .i64 4, .slice none 0 0] ∧ Below W.heap.size W w' := by
  have HR := hid (fun W' => (show Calls Try.prog 8 #[.agg #[.int .i64 0, .int .i64 1, .int .i64 0, .slice none 0 0], .int .i64 10, .int .i64 5] W' _ from right_any leafT (.slice none 0 0) 10 5 W' (leaf_tr W') (by decide)))
  rw [leaf_right] at HR
  have HP := hid (fun W' => isPane_any 2 W')
  rw [show isPaneB 2 = true from rfl] at HP
  have HX := hid (fun W' => rects_any leafT none 0 0 0 1 0 10 5 W' rfl rfl rfl (leaf_tr W') (by decide))
  rw [leaf_rects] at HX
  have hC0 : CpB W ((W.alloc (.cells #[.int .i64 0, .int .i64 1, .int .i64 0, .slice none 0 0] 24)).alloc (.cells #[.int .i64 0, .int .i64 0, .int .i64 0, .slice none 0 0] 24)) #[.int .i64 0, .int .i64 1, .int .i64 0, .slice none 0 0] #[.int .i64 0, .int .i64 0, .int .i64 0, .slice none 0 0] := by
    refine ⟨(below_alloc W _).alloc (by simp) _, (Box.new W _ _).alloc _, ?_⟩
    have := Box.new (W.alloc (.cells #[.int .i64 0, .int .i64 1, .int .i64 0, .slice none 0 0] 24)) 24 #[.int .i64 0, .int .i64 0, .int .i64 0, .slice none 0 0]
    rwa [World.size_alloc] at this
  have HC0 := hid hC0
  clear hC0
  go_enter Try.func13, Try.ntmps13
  go_upto_region 3 with (first | ((with_reducible refine (HR.out _).mono ?_); rintro e w1 ⟨rfl, hb1⟩; have HC1 := hid (HC0.out.below hb1)) | ((with_reducible refine (HP.out _).mono ?_); rintro e w1x ⟨rfl, rfl⟩))
  obtain ⟨k0, k1, k2, k3⟩ := box4_five HC1.out.b0
  go_upto_region 4 with ((with_reducible refine (HX.out _).mono ?_); rintro e w3 ⟨v, rfl, ho, hb3⟩; obtain ⟨vA, vc, hv⟩ := ho.spell; simp only [List.length_cons, List.length_nil, Nat.zero_add] at hv; subst hv)
  have HC3 := hid (HC1.out.below hb3)
  have HO3 := hid ho
  obtain ⟨qg, qc, e', hqb, hqg, _, hq⟩ := ho.row (by simp)
  cases e'
  have hqne : qg ≠ W.heap.size := by have := HC1.out.hb.size; omega
  clear hqb
  have HI1 := hid (idx_any _ _ 1 _ w3 HO3.out (by simp))
  clear k0 k1 k2 k3 HC1 HC0 HR HP HX hb1 hb3 ho
  go_upto_region 5 with ((with_reducible refine HI1.out.mono ?_); rintro e w4 ⟨⟨r, rfl, hr⟩, hb4⟩; obtain rfl := idx_yes rfl hr)
  have HC4 := hid (HC3.out.below hb4)
  have HO4 := hid (HO3.out.kept hb4)
  have HI2 := hid (idx_any _ _ 2 _ w4 HO4.out (by simp))
  have q3 : w4.cell? ⟨qg, 3, none⟩ = some (.int .i64 10) := (hb4.cell (p := ⟨qg, 3, none⟩) hqg).trans (hq 0 _ 3 _ rfl rfl)
  have hq4 : qg < w4.heap.size := Nat.lt_of_lt_of_le hqg hb4.size
  clear HI1 HC3 HO3 hb4 hr hq hqg
  go_upto_region 9 with ((with_reducible refine HI2.out.mono ?_); rintro e w5 ⟨⟨r2, rfl, hr⟩, hb5⟩; obtain rfl := idx_no (by decide) hr)
  have HC5 := hid (HC4.out.below hb5)
  have q5 := (hb5.cell (p := ⟨qg, 3, none⟩) hq4).trans q3
  have hq5 : qg < w5.heap.size := Nat.lt_of_lt_of_le hq4 hb5.size
  have HA := hid (show Calls Try.prog 29 #[.pointer (some ⟨qg, 0, none⟩), .int .i64 1] w5 (fun e w' => e = .returned (.tuple #[.pointer (some ⟨qg, 1, none⟩), .pointer (some ⟨qg, 3, none⟩)]) ∧ Below w5.heap.size w5 w') from along_any qg 1 w5)
  clear HI2 HC4 HO4 hb5 hr q3 hq4
  go_upto_region 12 with ((with_reducible refine HA.out.mono ?_); rintro e w6 ⟨rfl, hb6⟩)
  have HC6 := hid (HC5.out.below hb6)
  have q6 := (hb6.cell (p := ⟨qg, 3, none⟩) hq5).trans q5
  have hq6 : qg < w6.heap.size := Nat.lt_of_lt_of_le hq5 hb6.size
  obtain ⟨k0, k1, k2, k3⟩ := box4_five HC6.out.b0
  have HCP := hid (copy_leaf 0 1 0 w6)
  clear HA HC5 hb6 q5 hq5
  go_upto_region 15 with ((with_reducible refine HCP.out.mono ?_); rintro e w7 ⟨rfl, hb7⟩; have HC7 := hid (HC6.out.below hb7); have q7 := (hb7.cell (p := ⟨qg, 3, none⟩) hq6).trans q6; obtain ⟨⟨m0, m1, m2, m3⟩, g0, g1, g2, g3⟩ := HC7.out.b0.four)
  have hC8 : CpB W ((((w7.setCell ⟨W.heap.size, 0, none⟩ (.int .i64 0)).setCell ⟨W.heap.size, 1, none⟩ (.int .i64 1)).setCell ⟨W.heap.size, 2, none⟩ (.int .i64 0)).setCell ⟨W.heap.size, 3, none⟩ (.slice none 0 0)) #[.int .i64 0, .int .i64 1, .int .i64 0, .slice none 0 0] #[.int .i64 0, .int .i64 0, .int .i64 0, .slice none 0 0] := by
    refine ⟨below_set (below_set (below_set (below_set HC7.out.hb (Nat.le_refl _) _) (Nat.le_refl _) _) (Nat.le_refl _) _) (Nat.le_refl _) _, ?_, ?_⟩
    · exact ((((HC7.out.b0.set (i := 0) (.int .i64 0)).set (i := 1) (.int .i64 1)).set (i := 2) (.int .i64 0)).set (i := 3) (.slice none 0 0))
    · exact ((((HC7.out.b1.other (by omega) _).other (by omega) _).other (by omega) _).other (by omega) _)
  have q8 : ((((w7.setCell ⟨W.heap.size, 0, none⟩ (.int .i64 0)).setCell ⟨W.heap.size, 1, none⟩ (.int .i64 1)).setCell ⟨W.heap.size, 2, none⟩ (.int .i64 0)).setCell ⟨W.heap.size, 3, none⟩ (.slice none 0 0)).cell? ⟨qg, 3, none⟩ = some (.int .i64 10) := by
    rw [World.cell?_of_block ((Below.heap_setCell _ ⟨W.heap.size, 3, none⟩ _ qg hqne).trans ((Below.heap_setCell _ ⟨W.heap.size, 2, none⟩ _ qg hqne).trans ((Below.heap_setCell _ ⟨W.heap.size, 1, none⟩ _ qg hqne).trans (Below.heap_setCell _ ⟨W.heap.size, 0, none⟩ _ qg hqne))))]
    exact q7
  have HC8 := hid hC8
  clear k0 k1 k2 k3 m0 m1 m2 m3 g0 g1 g2 g3 q7 q6 hq6 hC8 hb7 HC7 HC6 HCP
  generalize ((((w7.setCell ⟨W.heap.size, 0, none⟩ (.int .i64 0)).setCell ⟨W.heap.size, 1, none⟩ (.int .i64 1)).setCell ⟨W.heap.size, 2, none⟩ (.int .i64 0)).setCell ⟨W.heap.size, 3, none⟩ (.slice none 0 0)) = w8 at *
  have HH := hid (halves_ten w8)
  have hb9 := below_alloc w8 (.cells #[.int .i64 0, .int .i64 1, .int .i64 5, .slice none 0 0, .int .i64 0, .int .i64 2, .int .i64 4, .slice none 0 0] 24)
  have hB9 := Box.new w8 24 #[.int .i64 0, .int .i64 1, .int .i64 5, .slice none 0 0, .int .i64 0, .int .i64 2, .int .i64 4, .slice none 0 0]
  have hC9 := HC8.out.below hb9
  have HSP := hid (split_leaf W.heap.size w8.heap.size 1 1 0 _ hC9.b0 (hB9.cell 1))
  have HC9 := hid hC9
  have HB9 := hid hB9
  clear hb9 hB9 hC9
  go_upto_region 16 with (first | ((with_reducible refine HH.out.mono ?_); rintro e w9 ⟨rfl, rfl⟩) | ((with_reducible refine HSP.out.mono ?_); rintro e w10 ⟨⟨v10, rfl⟩, hg10, hB10⟩))
  have h1 := HC9.out.b1.grown hg10 (by simp)
  have hbb : Below W.heap.size W w10 := HC9.out.hb.grown hg10 HC9.out.hb.size fun j e => by cases e; exact Nat.le_refl _
  have h8 : W.heap.size < w8.heap.size := HC8.out.b0.lt
  have h81 : W.heap.size + 1 < w8.heap.size := HC8.out.b1.lt
  have hB8 := HB9.out.grown hg10 (by simp; omega)
  have HB8 := hid hB8
  obtain ⟨p0, p1, p2, p3⟩ := box4_five hB10
  obtain ⟨⟨m0, m1, m2, m3⟩, g0, g1, g2, g3⟩ := h1.four
  have hz := ((((h1.set (i := 0) (.int .i64 1)).set (i := 1) (.int .i64 0)).set (i := 2) (.int .i64 0)).set (i := 3) (.slice (some ⟨w8.heap.size, 0, none⟩) 2 2))
  have HZ := hid hz
  have HBB := hid hbb
  clear HC8 HC9 HB9 HH HSP hg10 hB10 h1 hbb hB8 hz
  go_wp2
  obtain ⟨z0, z1, z2, z3⟩ := box4_five (x := .int .i64 1) (y := .int .i64 0) (z := .int .i64 0) (u := .slice (some ⟨w8.heap.size, 0, none⟩) 2 2) HZ.out
  refine bodyPost_ret (v := .tuple #[.agg #[.int .i64 1, .int .i64 0, .int .i64 0, .slice (some ⟨w8.heap.size, 0, none⟩) 2 2], .int .i64 0]) (by simp [results, Try.f13, go_sem, z0, z1, z2, z3]) rfl ⟨w8.heap.size, rfl, ?_, ?_⟩
  · exact (((HB8.out.other (by omega) _).other (by omega) _).other (by omega) _).other (by omega) _
  · exact below_set (below_set (below_set (below_set HBB.out (by omega) _) (by omega) _) (by omega) _) (by omega) _
end Go.Proofs.Ytgdndenjhnbkoaa
