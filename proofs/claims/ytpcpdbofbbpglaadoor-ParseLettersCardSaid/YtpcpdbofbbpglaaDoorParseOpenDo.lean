/- A thing that is done, by value, and a slice of letters, as arguments: opened. -/
import Derived.Test.YtpcpdbofbbpglaaDoorParseOpen
import Derived.Test.YtpcpdbofbbpglaaDoorParseLc
namespace Go.Proofs.YtpcpdbofbbpglaaDoor
open Go.ChangeShapes Go.WideShapes Go.ChangeAt Go.RowKit Go.Joins Go.Deep Go.WideMaps Go.WideElems

theorem arr7 (T : Array Value) (h : T.size = 7) : ∃ a b c d e f g : Value, T = #[a, b, c, d, e, f, g] := by
  obtain ⟨l⟩ := T
  match l, h with
  | [a, b, c, d, e, f, g], _ => exact ⟨a, b, c, d, e, f, g, rfl⟩
theorem dCells : Tryd.prog.cellsOf 37 = 7 := by kernel_rfl
theorem pI32 : Tryd.prog.cellsOf 21 = 1 := by kernel_rfl

theorem open_lets {H : Type} {enc : TypeId × Value → H} {W : World} {base : Nat} {sp : Nat → Bool} {held : Bool} {fuel : Nat} {k : Value} {y : DataW H × List MemPlace} (h : DataW.trod enc Tryd.prog W base sp held fuel 35 [k] = some y) :
    ∃ l, LRow W k l ∧ l.length ≤ maxLen := by
  rcases Go.ChangeShapes.open_ints Tryd.underlying35 Tryd.underlying21 (by kernel_rfl) h with ⟨hcs, _⟩ | ⟨a, len, cap, zs, hcs, hb, hl, hm, hzl, hx, hc, hw⟩
  · simp at hcs
    subst hcs
    exact ⟨[], ⟨none, 0, rfl, fun h => absurd rfl h⟩, Nat.zero_le _⟩
  · simp at hcs
    subst hcs
    have hmz : len ≤ zs.length := by rw [hzl]; split <;> omega
    have hlen : (zs.take len).length = len := by rw [List.length_take, Nat.min_eq_left hmz]
    refine ⟨zs.take len, ⟨some a, cap, by rw [hlen], fun hne => ?_⟩, by rw [hlen]; exact Nat.le_trans hl hm⟩
    have hpos : 0 < zs.length := by
      rcases Nat.eq_zero_or_pos zs.length with h | h
      · rw [List.length_eq_zero_iff.1 h] at hne; simp at hne
      · exact h
    have hb := block_of_cell (hc 0 hpos)
    rw [add_blk] at hb
    refine ⟨a, rfl, hb, fun j x hx => ?_⟩
    rw [List.getElem?_take] at hx
    split at hx
    · have hj := (List.getElem?_eq_some_iff.1 hx).1
      rw [hc j hj, List.getD_eq_getElem?_getD, hx]
      rfl
    · cases hx

theorem open_do {H : Type} {enc : TypeId × Value → H} {W : World} {r : Reach} {b0 base : Nat} {sp : Nat → Bool} {held : Bool} {v : Value} {d : DataW H} {p : List MemPlace} (hv : Value.okWide Tryd.prog W r b0 37 v) (h : DataW.Trod enc Tryd.prog W base sp held 37 v d p) :
    ∃ (q : Dn) (A : Option Addr) (c : Nat), v = .agg (q.cells (.slice A q.params.length c)) ∧ IRow W (.slice A q.params.length c) q.params ∧ q.params.length ≤ c ∧ q.text.size ≤ maxLen := by
  obtain ⟨cs, rfl, hsz⟩ := okWide_struct Tryd.underlying37 hv
  obtain ⟨k0, k1, k2, k3, k4, k5, k6, rfl⟩ := arr7 cs (hsz.trans dCells)
  obtain ⟨fuel, hf⟩ := h
  obtain ⟨ys, m, _, _, _, hyl, hat⟩ := DataW.trod_struct Tryd.underlying37 hf
  have hyl' : ys.length = 7 := hyl
  have e0 := (hat 0 _ rfl).trans (List.getElem?_eq_getElem (by omega))
  have e1 := (hat 1 _ rfl).trans (List.getElem?_eq_getElem (by omega))
  have e2 := (hat 2 _ rfl).trans (List.getElem?_eq_getElem (by omega))
  have e3 := (hat 3 _ rfl).trans (List.getElem?_eq_getElem (by omega))
  have e4 := (hat 4 _ rfl).trans (List.getElem?_eq_getElem (by omega))
  have e5 := (hat 5 _ rfl).trans (List.getElem?_eq_getElem (by omega))
  have e6 := (hat 6 _ rfl).trans (List.getElem?_eq_getElem (by omega))
  have t0 : DataW.trod enc Tryd.prog W base sp held m 3 [k0] = some (ys[0]) := by simpa [Value.cells, pInt] using e0
  have t1 : DataW.trod enc Tryd.prog W base sp held m 21 [k1] = some (ys[1]) := by simpa [Value.cells, pI32] using e1
  have t2 : DataW.trod enc Tryd.prog W base sp held m 3 [k2] = some (ys[2]) := by simpa [Value.cells, pInt] using e2
  have t3 : DataW.trod enc Tryd.prog W base sp held m 3 [k3] = some (ys[3]) := by simpa [Value.cells, pInt] using e3
  have t4 : DataW.trod enc Tryd.prog W base sp held m 22 [k4] = some (ys[4]) := by simpa [Value.cells, pInts] using e4
  have t5 : DataW.trod enc Tryd.prog W base sp held m 3 [k5] = some (ys[5]) := by simpa [Value.cells, pInt] using e5
  have t6 : DataW.trod enc Tryd.prog W base sp held m 9 [k6] = some (ys[6]) := by simpa [Value.cells, pStr] using e6
  obtain ⟨f0, g0, _, _⟩ := DataW.trod_int Tryd.underlying3 t0
  obtain ⟨f1, g1, _, _⟩ := DataW.trod_int Tryd.underlying21 t1
  obtain ⟨f2, g2, _, _⟩ := DataW.trod_int Tryd.underlying3 t2
  obtain ⟨f3, g3, _, _⟩ := DataW.trod_int Tryd.underlying3 t3
  obtain ⟨A, c, l, g4, hrow, hlc, _⟩ := open_nums t4
  obtain ⟨f5, g5, _, _⟩ := DataW.trod_int Tryd.underlying3 t5
  obtain ⟨f6, g6, _, ho⟩ := DataW.trod_string Tryd.underlying9 t6
  simp at g0 g1 g2 g3 g5 g6
  subst g0 g1 g2 g3 g4 g5 g6
  exact ⟨⟨f0, f1, f2, f3, l, f5, f6⟩, A, c, rfl, hrow, hlc, ho⟩
end Go.Proofs.YtpcpdbofbbpglaaDoor
