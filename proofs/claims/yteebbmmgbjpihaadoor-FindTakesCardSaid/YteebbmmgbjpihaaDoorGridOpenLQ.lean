/- Lines and grids by value, as arguments: opened. -/
/- Lines, grids, cells and looks, by value, as arguments: opened. -/
import Derived.Test.YteebbmmgbjpihaaDoorPostQ
import Derived.Test.YteebbmmgbjpihaaDoorGridEraseQ
namespace Go.Proofs.YteebbmmgbjpihaaDoor
open Go.ChangeShapes Go.WideShapes Go.ChangeAt Go.RowKit Go.Joins Go.Deep Go.WideMaps Go.WideElems

theorem arr2 (T : Array Value) (h : T.size = 2) : ∃ a b : Value, T = #[a, b] := by
  obtain ⟨l⟩ := T
  match l, h with
  | [a, b], _ => exact ⟨a, b, rfl⟩
theorem arr5' (T : Array Value) (h : T.size = 5) : ∃ a b c d e : Value, T = #[a, b, c, d, e] := by
  obtain ⟨l⟩ := T
  match l, h with
  | [a, b, c, d, e], _ => exact ⟨a, b, c, d, e, rfl⟩
theorem gStr : Tryd.prog.cellsOf 9 = 1 := by kernel_rfl
theorem gInt : Tryd.prog.cellsOf 3 = 1 := by kernel_rfl
theorem gBool : Tryd.prog.cellsOf 4 = 1 := by kernel_rfl
theorem gAttr : Tryd.prog.cellsOf 42 = 3 := by kernel_rfl
theorem gCell : Tryd.prog.cellsOf 44 = 5 := by kernel_rfl
theorem gLine : Tryd.prog.cellsOf 39 = 2 := by kernel_rfl
theorem gCells : Tryd.prog.cellsOf 37 = 1 := by kernel_rfl
theorem int_of_max {n : Nat} (h : n ≤ maxLen) : (n : Int) ≤ 9223372036854775807 := by
  unfold maxLen at h
  omega
theorem exists_row {α : Type} {P : Nat → α → Prop} : ∀ n, (∀ i, i < n → ∃ e, P i e) → ∃ l : List α, l.length = n ∧ ∀ i e, l[i]? = some e → P i e
  | 0, _ => ⟨[], rfl, fun i e h => by simp at h⟩
  | n + 1, h => by
    obtain ⟨l, hl, hp⟩ := exists_row n fun i hi => h i (by omega)
    obtain ⟨e, he⟩ := h n (by omega)
    refine ⟨l ++ [e], by simp [hl], fun i x hx => ?_⟩
    by_cases hi : i < l.length
    · rw [List.getElem?_append_left hi] at hx
      exact hp i x hx
    · rw [List.getElem?_append_right (by omega)] at hx
      have h0 : i - l.length = 0 := by
        rcases Nat.eq_zero_or_pos (i - l.length) with h | h
        · exact h
        · rw [List.getElem?_eq_none (by simp; omega)] at hx; cases hx
      rw [h0] at hx
      simp at hx
      subst hx
      rw [show i = n by omega]
      exact he
/-- A cell's places, opened. -/
theorem open_ce {H : Type} {enc : TypeId × Value → H} {W : World} {base : Nat} {sp : Nat → Bool} {held : Bool} {fuel : Nat} {cs : List Value} {y : DataW H × List MemPlace} (h : DataW.trod enc Tryd.prog W base sp held fuel 44 cs = some y) (hl : cs.length = 5) :
    ∃ e : Ce, cs = e.cells.toList ∧ e.tx.size ≤ maxLen := by
  match cs, hl with
  | [k0, k1, k2, k3, k4], _ =>
    obtain ⟨y0, y1, y2, m, _, _, t0, t1, t2⟩ := trod_struct3 Tryd.underlying44 h
    have t0' : DataW.trod enc Tryd.prog W base sp held m 9 [k0] = some y0 := by simpa [gStr] using t0
    have t1' : DataW.trod enc Tryd.prog W base sp held m 3 [k1] = some y1 := by simpa [gInt] using t1
    have t2' : DataW.trod enc Tryd.prog W base sp held m 42 [k2, k3, k4] = some y2 := by simpa [gAttr] using t2
    obtain ⟨tx, e0, _, hs⟩ := DataW.trod_string Tryd.underlying9 t0'
    obtain ⟨wd, e1, _, _⟩ := DataW.trod_int Tryd.underlying3 t1'
    obtain ⟨z0, z1, z2, m2, _, _, s0, s1, s2⟩ := trod_struct3 Tryd.underlying42 t2'
    have s0' : DataW.trod enc Tryd.prog W base sp held m2 3 [k2] = some z0 := by simpa [gInt] using s0
    have s1' : DataW.trod enc Tryd.prog W base sp held m2 3 [k3] = some z1 := by simpa [gInt] using s1
    have s2' : DataW.trod enc Tryd.prog W base sp held m2 3 [k4] = some z2 := by simpa [gInt] using s2
    obtain ⟨fg, e2, _, _⟩ := DataW.trod_int Tryd.underlying3 s0'
    obtain ⟨bg, e3, _, _⟩ := DataW.trod_int Tryd.underlying3 s1'
    obtain ⟨fl, e4, _, _⟩ := DataW.trod_int Tryd.underlying3 s2'
    simp at e0 e1 e2 e3 e4
    subst e0 e1 e2 e3 e4
    exact ⟨⟨tx, wd, fg, bg, fl⟩, rfl, hs⟩
theorem spot_none {w : World} {a : Addr} {v : Value} (h : w.cell? a = some v) : ∃ g o, a = ⟨g, o, none⟩ := by
  obtain ⟨g, o, s⟩ := a
  cases s with
  | none => exact ⟨g, o, rfl⟩
  | some s =>
    unfold World.cell? at h
    split at h
    · simp at h
    · cases h
/-- A slice of cells, opened. -/
theorem open_cells {H : Type} {enc : TypeId × Value → H} {W : World} {base : Nat} {sp : Nat → Bool} {held : Bool} {fuel : Nat} {k : Value} {y : DataW H × List MemPlace} (h : DataW.trod enc Tryd.prog W base sp held fuel 37 [k] = some y) :
    ∃ l, CeRow W k l ∧ l.length ≤ maxLen ∧ ∀ c ∈ l, c.tx.size ≤ maxLen := by
  rcases Deep.open_slice Tryd.underlying37 h with ⟨h0, _⟩ | ⟨a, len, cap, m, n, D, Pl, hcs, hb, hl, hm, hmm, hx, hi⟩
  · simp at h0
    subst h0
    exact ⟨[], CeRow.nil _ _ _, Nat.zero_le _, by simp⟩
  · simp at hcs
    subst hcs
    obtain ⟨l, hll, hp⟩ := exists_row (P := fun i (e : Ce) => e.tx.size ≤ maxLen ∧ ∀ j u, e.cells[j]? = some u → W.cell? (a.add (i * 5 + j)) = some u) len (fun i hil => by
      have him : i < m := by rw [hmm]; split <;> omega
      obtain ⟨cs', hc, ht'⟩ := hi i him
      rw [gCell] at hc
      obtain ⟨_, hcl, hat⟩ := World.cells?_some hc
      obtain ⟨e, rfl, hs⟩ := open_ce ht' hcl
      refine ⟨e, hs, fun j u hu => ?_⟩
      have hj : j < 5 := by have := (Array.getElem?_eq_some_iff.1 hu).1; simpa [Ce.cells] using this
      rw [← Go.Deep.add_add, hat j hj]
      simpa using hu)
    refine ⟨l, ⟨some a, cap, by rw [hll], by omega, fun hne => ?_⟩, by omega, fun c hc => ?_⟩
    · have hpos : 0 < l.length := List.length_pos_iff.2 hne
      have h0 := List.getElem?_eq_getElem hpos
      have hc0 := (hp 0 _ h0).2 0 _ rfl
      have hbl := block_of_cell hc0
      have hadd : a.add (0 * 5 + 0) = a := by unfold Addr.add; simp
      rw [hadd] at hc0 hbl
      obtain ⟨g, o, rfl⟩ := spot_none hc0
      refine ⟨g, o, rfl, hbl, fun j e hj i u hu => ?_⟩
      have := (hp j e hj).2 i u hu
      rw [addr_add] at this
      rwa [show o + j * 5 + i = o + (j * 5 + i) by omega]
    · obtain ⟨i, hi'⟩ := List.mem_iff_getElem?.1 hc
      exact (hp i c hi').1
/-- A line's two places, opened. -/
theorem open_ln {H : Type} {enc : TypeId × Value → H} {W : World} {base : Nat} {sp : Nat → Bool} {held : Bool} {fuel : Nat} {cs : List Value} {y : DataW H × List MemPlace} (h : DataW.trod enc Tryd.prog W base sp held fuel 39 cs = some y) (hl : cs.length = 2) :
    ∃ (v : Value) (l : List Ce) (soft : Bool), cs = [v, .bool soft] ∧ CeRow W v l ∧ l.length ≤ maxLen ∧ ∀ c ∈ l, c.tx.size ≤ maxLen := by
  match cs, hl with
  | [k0, k1], _ =>
    obtain ⟨ys, m, _, _, _, hyl, hat⟩ := DataW.trod_struct Tryd.underlying39 h
    have hyl' : ys.length = 2 := hyl
    have e0 := (hat 0 _ rfl).trans (List.getElem?_eq_getElem (by omega))
    have e1 := (hat 1 _ rfl).trans (List.getElem?_eq_getElem (by omega))
    have t0 : DataW.trod enc Tryd.prog W base sp held m 37 [k0] = some (ys[0]) := by simpa [gCells] using e0
    have t1 : DataW.trod enc Tryd.prog W base sp held m 4 [k1] = some (ys[1]) := by simpa [gBool] using e1
    obtain ⟨l, h1, h2, h3⟩ := open_cells t0
    obtain ⟨b, h4, _⟩ := DataW.trod_bool Tryd.underlying4 t1
    simp at h4
    subst h4
    exact ⟨k0, l, b, rfl, h1, h2, h3⟩
set_option maxRecDepth 100000 in
theorem open_line {H : Type} {enc : TypeId × Value → H} {W : World} {r : Reach} {b0 base : Nat} {sp : Nat → Bool} {held : Bool} {v : Value} {d : DataW H} {p : List MemPlace} (hv : Value.okWide Tryd.prog W r b0 39 v) (h : DataW.Trod enc Tryd.prog W base sp held 39 v d p) :
    ∃ (u : Value) (l : List Ce) (soft : Bool), v = .agg #[u, .bool soft] ∧ CeRow W u l ∧ l.length ≤ maxLen ∧ ∀ c ∈ l, c.tx.size ≤ maxLen := by
  obtain ⟨cs, rfl, hsz⟩ := okWide_struct Tryd.underlying39 hv
  obtain ⟨k0, k1, rfl⟩ := arr2 cs (hsz.trans gLine)
  obtain ⟨fuel, hf⟩ := h
  have hf' : DataW.trod enc Tryd.prog W base sp held fuel 39 [k0, k1] = some (d, p) := hf
  obtain ⟨u, l, soft, he, h1, h2, h3⟩ := open_ln hf' rfl
  simp only [List.cons.injEq, and_true] at he
  obtain ⟨rfl, rfl⟩ := he
  exact ⟨_, l, soft, rfl, h1, h2, h3⟩
end Go.Proofs.YteebbmmgbjpihaaDoor

namespace Go.Proofs.YteebbmmgbjpihaaDoor
open Go.ChangeShapes Go.WideShapes Go.ChangeAt Go.RowKit Go.Joins Go.Deep Go.WideMaps Go.WideElems

theorem gLines : Tryd.prog.cellsOf 22 = 1 := by kernel_rfl
/-- A slice of lines, opened. -/
theorem open_lines {H : Type} {enc : TypeId × Value → H} {W : World} {base : Nat} {sp : Nat → Bool} {held : Bool} {fuel : Nat} {k : Value} {y : DataW H × List MemPlace} (h : DataW.trod enc Tryd.prog W base sp held fuel 22 [k] = some y) :
    ∃ lv, LR W k lv ∧ CesOf W lv ∧ lv.length ≤ maxLen ∧ ∀ e ∈ lv, e.1.cs.length ≤ maxLen ∧ ∀ c ∈ e.1.cs, c.tx.size ≤ maxLen := by
  rcases Deep.open_slice Tryd.underlying22 h with ⟨h0, _⟩ | ⟨a, len, cap, m, n, D, Pl, hcs, hb, hl, hm, hmm, hx, hi⟩
  · simp at h0
    subst h0
    exact ⟨[], LR.nil _ _ _, by intro e h; simp at h, Nat.zero_le _, by simp⟩
  · simp at hcs
    subst hcs
    obtain ⟨lv, hll, hp⟩ := exists_row (P := fun i (e : Ln × Value) => (CeRow W e.2 e.1.cs ∧ e.1.cs.length ≤ maxLen ∧ ∀ c ∈ e.1.cs, c.tx.size ≤ maxLen) ∧ W.cell? (a.add (i * 2 + 0)) = some e.2 ∧ W.cell? (a.add (i * 2 + 1)) = some (.bool e.1.soft)) len (fun i hil => by
      have him : i < m := by rw [hmm]; split <;> omega
      obtain ⟨cs', hc, ht'⟩ := hi i him
      rw [gLine] at hc
      obtain ⟨_, hcl, hat⟩ := World.cells?_some hc
      obtain ⟨u, l, soft, rfl, h1, h2, h3⟩ := open_ln ht' hcl
      refine ⟨(⟨l, soft⟩, u), ⟨h1, h2, h3⟩, ?_, ?_⟩
      · rw [← Go.Deep.add_add, hat 0 (by omega)]; rfl
      · rw [← Go.Deep.add_add, hat 1 (by omega)]; rfl)
    refine ⟨lv, ⟨some a, cap, by rw [hll], by omega, fun hne => ?_⟩, fun e he => ?_, by omega, fun e he => ?_⟩
    · have hpos : 0 < lv.length := List.length_pos_iff.2 hne
      have h0 := List.getElem?_eq_getElem hpos
      have hc0 := (hp 0 _ h0).2.1
      have hbl := block_of_cell hc0
      have hadd : a.add (0 * 2 + 0) = a := by unfold Addr.add; simp
      rw [hadd] at hc0 hbl
      obtain ⟨g, o, rfl⟩ := spot_none hc0
      refine ⟨g, o, rfl, hbl, fun j e hj => ?_⟩
      obtain ⟨_, q0, q1⟩ := hp j e hj
      rw [addr_add] at q0 q1
      exact ⟨by rwa [show o + j * 2 = o + (j * 2 + 0) by omega], by rwa [show o + j * 2 + 1 = o + (j * 2 + 1) by omega]⟩
    · obtain ⟨i, hi'⟩ := List.mem_iff_getElem?.1 he
      exact (hp i e hi').1.1
    · obtain ⟨i, hi'⟩ := List.mem_iff_getElem?.1 he
      exact (hp i e hi').1.2
set_option maxRecDepth 100000 in
theorem open_lrow {H : Type} {enc : TypeId × Value → H} {W : World} {r : Reach} {b0 base : Nat} {sp : Nat → Bool} {held : Bool} {v : Value} {d : DataW H} {p : List MemPlace} (hv : Value.okWide Tryd.prog W r b0 22 v) (h : DataW.Trod enc Tryd.prog W base sp held 22 v d p) :
    ∃ lv, LR W v lv ∧ CesOf W lv ∧ lv.length ≤ maxLen ∧ ∀ e ∈ lv, e.1.cs.length ≤ maxLen ∧ ∀ c ∈ e.1.cs, c.tx.size ≤ maxLen := by
  obtain ⟨B, m, cp, rfl⟩ := okWide_slice Tryd.underlying22 hv
  obtain ⟨fuel, hf⟩ := h
  have hf' : DataW.trod enc Tryd.prog W base sp held fuel 22 [.slice B m cp] = some (d, p) := hf
  exact open_lines hf'
set_option maxRecDepth 100000 in
theorem open_cell {H : Type} {enc : TypeId × Value → H} {W : World} {r : Reach} {b0 base : Nat} {sp : Nat → Bool} {held : Bool} {v : Value} {d : DataW H} {p : List MemPlace} (hv : Value.okWide Tryd.prog W r b0 44 v) (h : DataW.Trod enc Tryd.prog W base sp held 44 v d p) :
    ∃ c : Ce, v = .agg #[.string c.tx, .int .i64 c.wd, .int .i64 c.fg, .int .i64 c.bg, .int .i64 c.fl] ∧ c.tx.size ≤ maxLen := by
  obtain ⟨cs, rfl, hsz⟩ := okWide_struct Tryd.underlying44 hv
  obtain ⟨k0, k1, k2, k3, k4, rfl⟩ := arr5' cs (hsz.trans gCell)
  obtain ⟨fuel, hf⟩ := h
  have hf' : DataW.trod enc Tryd.prog W base sp held fuel 44 [k0, k1, k2, k3, k4] = some (d, p) := hf
  obtain ⟨e, he, hs⟩ := open_ce hf' rfl
  unfold Ce.cells at he
  simp only [List.cons.injEq] at he
  obtain ⟨rfl, rfl, rfl, rfl, rfl, _⟩ := he
  exact ⟨e, rfl, hs⟩
set_option maxRecDepth 100000 in
theorem open_look {H : Type} {enc : TypeId × Value → H} {W : World} {r : Reach} {b0 base : Nat} {sp : Nat → Bool} {held : Bool} {v : Value} {d : DataW H} {p : List MemPlace} (hv : Value.okWide Tryd.prog W r b0 42 v) (h : DataW.Trod enc Tryd.prog W base sp held 42 v d p) :
    ∃ a : At, v = .agg #[.int .i64 a.fg, .int .i64 a.bg, .int .i64 a.fl] := by
  obtain ⟨a0, a1, a2, x0, x1, x2, j, rfl, _, _, hy0, hy1, hy2⟩ := open_agg3 Tryd.underlying42 (by kernel_rfl) (by kernel_rfl) hv h
  obtain ⟨ag, g0, _, _⟩ := DataW.trod_int Tryd.underlying3 hy0
  obtain ⟨ab, g1, _, _⟩ := DataW.trod_int Tryd.underlying3 hy1
  obtain ⟨al, g2, _, _⟩ := DataW.trod_int Tryd.underlying3 hy2
  simp at g0 g1 g2
  subst g0 g1 g2
  exact ⟨⟨ag, ab, al⟩, rfl⟩
end Go.Proofs.YteebbmmgbjpihaaDoor
