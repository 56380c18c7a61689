/- A parser by value, as an argument: opened. -/
import Derived.Test.YtpcpdbofbbpglaaDoorPost
import Derived.Test.YtpcpdbofbbpglaaDoorParseR
namespace Go.Proofs.YtpcpdbofbbpglaaDoor
open Go.ChangeShapes Go.WideShapes Go.ChangeAt Go.RowKit Go.Joins Go.Deep Go.WideMaps Go.WideElems

theorem arr6 (T : Array Value) (h : T.size = 6) : ∃ a b c d e f : Value, T = #[a, b, c, d, e, f] := by
  obtain ⟨l⟩ := T
  match l, h with
  | [a, b, c, d, e, f], _ => exact ⟨a, b, c, d, e, f, rfl⟩
theorem pCells : Tryd.prog.cellsOf 24 = 6 := by kernel_rfl
theorem pStr : Tryd.prog.cellsOf 9 = 1 := by kernel_rfl
theorem pInt : Tryd.prog.cellsOf 3 = 1 := by kernel_rfl
theorem pInts : Tryd.prog.cellsOf 22 = 1 := by kernel_rfl

/-- A slice of numbers that reads as data. -/
theorem open_nums {H : Type} {enc : TypeId × Value → H} {W : World} {base : Nat} {sp : Nat → Bool} {held : Bool} {fuel : Nat} {k : Value} {y : DataW H × List MemPlace} (h : DataW.trod enc Tryd.prog W base sp held fuel 22 [k] = some y) :
    ∃ A c l, k = .slice A (List.length l) c ∧ IRow W (.slice A (List.length l) c) l ∧ l.length ≤ c ∧ c ≤ maxLen := by
  rcases Go.ChangeShapes.open_ints Tryd.underlying22 Tryd.underlying3 (by kernel_rfl) h with ⟨hcs, _⟩ | ⟨a, len, cap, zs, hcs, hb, hl, hm, hzl, hx, hc, hw⟩
  · simp at hcs
    subst hcs
    exact ⟨none, 0, [], rfl, IRow.nil _ _, Nat.le_refl _, Nat.zero_le _⟩
  · simp at hcs
    subst hcs
    have hmz : len ≤ zs.length := by rw [hzl]; split <;> omega
    have hlen : (zs.take len).length = len := by rw [List.length_take, Nat.min_eq_left hmz]
    refine ⟨some a, cap, zs.take len, by rw [hlen], ⟨some a, cap, rfl, fun hne => ?_⟩, by rw [hlen]; exact hl, hm⟩
    have hpos : 0 < zs.length := by
      rcases Nat.eq_zero_or_pos zs.length with h | h
      · rw [List.length_eq_zero_iff.1 h] at hne; simp at hne
      · exact h
    have hb := block_of_cell (hc 0 hpos)
    rw [add_blk] at hb
    refine ⟨a, rfl, hb, fun j x hx => ?_⟩
    rw [List.getElem?_take] at hx
    split at hx
    · have hj := (List.getElem?_eq_some_iff.1 hx).1
      rw [hc j hj, List.getD_eq_getElem?_getD, hx]
      rfl
    · cases hx

theorem open_parser {H : Type} {enc : TypeId × Value → H} {W : World} {r : Reach} {b0 base : Nat} {sp : Nat → Bool} {held : Bool} {v : Value} {d : DataW H} {p : List MemPlace} (hv : Value.okWide Tryd.prog W r b0 24 v) (h : DataW.Trod enc Tryd.prog W base sp held 24 v d p) :
    ∃ (q : Pa) (A : Option Addr) (c : Nat), v = .agg (q.cells (.slice A q.params.length c)) ∧ IRow W (.slice A q.params.length c) q.params ∧ q.params.length ≤ c ∧ c ≤ maxLen ∧ q.osc.size ≤ maxLen ∧ q.pend.size ≤ maxLen := by
  obtain ⟨cs, rfl, hsz⟩ := okWide_struct Tryd.underlying24 hv
  obtain ⟨k0, k1, k2, k3, k4, k5, rfl⟩ := arr6 cs (hsz.trans pCells)
  obtain ⟨fuel, hf⟩ := h
  obtain ⟨ys, m, _, _, _, hyl, hat⟩ := DataW.trod_struct Tryd.underlying24 hf
  have hyl' : ys.length = 6 := hyl
  have e0 := (hat 0 _ rfl).trans (List.getElem?_eq_getElem (by omega))
  have e1 := (hat 1 _ rfl).trans (List.getElem?_eq_getElem (by omega))
  have e2 := (hat 2 _ rfl).trans (List.getElem?_eq_getElem (by omega))
  have e3 := (hat 3 _ rfl).trans (List.getElem?_eq_getElem (by omega))
  have e4 := (hat 4 _ rfl).trans (List.getElem?_eq_getElem (by omega))
  have e5 := (hat 5 _ rfl).trans (List.getElem?_eq_getElem (by omega))
  have t0 : DataW.trod enc Tryd.prog W base sp held m 3 [k0] = some (ys[0]) := by simpa [Value.cells, pInt] using e0
  have t1 : DataW.trod enc Tryd.prog W base sp held m 3 [k1] = some (ys[1]) := by simpa [Value.cells, pInt] using e1
  have t2 : DataW.trod enc Tryd.prog W base sp held m 22 [k2] = some (ys[2]) := by simpa [Value.cells, pInts] using e2
  have t3 : DataW.trod enc Tryd.prog W base sp held m 3 [k3] = some (ys[3]) := by simpa [Value.cells, pInt] using e3
  have t4 : DataW.trod enc Tryd.prog W base sp held m 9 [k4] = some (ys[4]) := by simpa [Value.cells, pStr] using e4
  have t5 : DataW.trod enc Tryd.prog W base sp held m 9 [k5] = some (ys[5]) := by simpa [Value.cells, pStr] using e5
  obtain ⟨st, g0, _, _⟩ := DataW.trod_int Tryd.underlying3 t0
  obtain ⟨pr, g1, _, _⟩ := DataW.trod_int Tryd.underlying3 t1
  obtain ⟨A, c, l, g2, hrow, hlc, hcm⟩ := open_nums t2
  obtain ⟨it, g3, _, _⟩ := DataW.trod_int Tryd.underlying3 t3
  obtain ⟨os, g4, _, ho⟩ := DataW.trod_string Tryd.underlying9 t4
  obtain ⟨pe, g5, _, hp⟩ := DataW.trod_string Tryd.underlying9 t5
  simp at g0 g1 g3 g4 g5
  subst g0 g1 g2 g3 g4 g5
  exact ⟨⟨st, pr, l, it, os, pe⟩, A, c, rfl, hrow, hlc, hcm, ho, hp⟩
end Go.Proofs.YtpcpdbofbbpglaaDoor
