/- A block of cells that a call laid (a struct's box): there, turned, kept. -/
/- The reference of layer 6, walked: a half that lacks its other one; lines that are the same. -/
/- Layer 6, the package: a half that lacks its other one. -/
import Derived.Test.YteebbmmgbjpihaaDoorCellIQ
import Derived.Laws.Rows
import Derived.Test.YteebbmmgbjpihaaDoorUtfHQ
import Derived.BigQuiet
namespace Go.Proofs.YteebbmmgbjpihaaDoor
open Go.RowKit

/-- A block of these cells. -/
def Box (W : World) (b : Nat) (t : TypeId) (cs : Array Value) : Prop := W.heap[b]? = some (.cells cs t (0, 0))
theorem Box.lt {W : World} {b : Nat} {t : TypeId} {cs : Array Value} (h : Box W b t cs) : b < W.heap.size := (Array.getElem?_eq_some_iff.1 h).1
theorem Box.new (W : World) (t : TypeId) (cs : Array Value) : Box (W.alloc (.cells cs t)) W.heap.size t cs := heap_alloc_new W _
theorem Box.alloc {W : World} {b : Nat} {t : TypeId} {cs : Array Value} (h : Box W b t cs) (o : Obj) : Box (W.alloc o) b t cs := (Below.heap_alloc W o b h.lt).trans h
theorem Box.below {W W' : World} {b B : Nat} {t : TypeId} {cs : Array Value} (h : Box W b t cs) (hb : Below B W W') (hB : b < B) : Box W' b t cs := (hb.block b hB).trans h
theorem Box.set {W : World} {b i : Nat} {t : TypeId} {cs : Array Value} (h : Box W b t cs) (u : Value) : Box (W.setCell ⟨b, i, none⟩ u) b t (cs.setIfInBounds i u) := by
  unfold Box at *
  simp [World.setCell, Array.getElem?_modify, h]
theorem Box.other {W : World} {b b' i : Nat} {t : TypeId} {cs : Array Value} (h : Box W b t cs) (hne : b ≠ b') (u : Value) : Box (W.setCell ⟨b', i, none⟩ u) b t cs := (Below.heap_setCell W ⟨b', i, none⟩ u b hne).trans h
theorem Box.drewN {W : World} {b n : Nat} {t : TypeId} {cs : Array Value} (h : Box W b t cs) : Box (W.drewN n) b t cs := h
theorem Box.drew {W : World} {b : Nat} {t : TypeId} {cs : Array Value} (h : Box W b t cs) : Box W.drew b t cs := h
theorem Box.grown {W W' : World} {b : Nat} {t : TypeId} {cs : Array Value} {row : Option Nat} (h : Box W b t cs) (hg : W.grownBy W' row) (hne : some b ≠ row) : Box W' b t cs := (hg.block b h.lt hne).trans h
theorem Box.cell {W : World} {b : Nat} {t : TypeId} {cs : Array Value} (h : Box W b t cs) (i : Nat) : W.cell? ⟨b, i, none⟩ = cs[i]? := cell_of_row _ _ i _ _ _ h
theorem Box.free {W : World} {b : Nat} {t : TypeId} {cs : Array Value} (h : Box W b t cs) (i : Nat) : W.frozen? ⟨b, i, none⟩ = false := by
  have h' : W.heap[b]? = some (.cells cs t (0, 0)) := h
  simp [World.frozen?, h']
theorem Box.two {W : World} {b : Nat} {t : TypeId} {x y : Value} (h : Box W b t #[x, y]) :
    (W.cell? ⟨b, 0, none⟩ = some x ∧ W.cell? ⟨b, 1, none⟩ = some y) ∧ (W.frozen? ⟨b, 0, none⟩ = false ∧ W.frozen? ⟨b, 1, none⟩ = false) := ⟨⟨h.cell 0, h.cell 1⟩, h.free 0, h.free 1⟩
theorem Box.three {W : World} {b : Nat} {t : TypeId} {x y z : Value} (h : Box W b t #[x, y, z]) :
    (W.cell? ⟨b, 0, none⟩ = some x ∧ W.cell? ⟨b, 1, none⟩ = some y ∧ W.cell? ⟨b, 2, none⟩ = some z) ∧ (W.frozen? ⟨b, 0, none⟩ = false ∧ W.frozen? ⟨b, 1, none⟩ = false ∧ W.frozen? ⟨b, 2, none⟩ = false) :=
  ⟨⟨h.cell 0, h.cell 1, h.cell 2⟩, h.free 0, h.free 1, h.free 2⟩
theorem Box.four {W : World} {b : Nat} {t : TypeId} {x y z u : Value} (h : Box W b t #[x, y, z, u]) :
    (W.cell? ⟨b, 0, none⟩ = some x ∧ W.cell? ⟨b, 1, none⟩ = some y ∧ W.cell? ⟨b, 2, none⟩ = some z ∧ W.cell? ⟨b, 3, none⟩ = some u) ∧ (W.frozen? ⟨b, 0, none⟩ = false ∧ W.frozen? ⟨b, 1, none⟩ = false ∧ W.frozen? ⟨b, 2, none⟩ = false ∧ W.frozen? ⟨b, 3, none⟩ = false) :=
  ⟨⟨h.cell 0, h.cell 1, h.cell 2, h.cell 3⟩, h.free 0, h.free 1, h.free 2, h.free 3⟩
theorem Box.five {W : World} {b : Nat} {t : TypeId} {x y z u v : Value} (h : Box W b t #[x, y, z, u, v]) :
    (W.cell? ⟨b, 0, none⟩ = some x ∧ W.cell? ⟨b, 1, none⟩ = some y ∧ W.cell? ⟨b, 2, none⟩ = some z ∧ W.cell? ⟨b, 3, none⟩ = some u ∧ W.cell? ⟨b, 4, none⟩ = some v) ∧ (W.frozen? ⟨b, 0, none⟩ = false ∧ W.frozen? ⟨b, 1, none⟩ = false ∧ W.frozen? ⟨b, 2, none⟩ = false ∧ W.frozen? ⟨b, 3, none⟩ = false ∧ W.frozen? ⟨b, 4, none⟩ = false) :=
  ⟨⟨h.cell 0, h.cell 1, h.cell 2, h.cell 3, h.cell 4⟩, h.free 0, h.free 1, h.free 2, h.free 3, h.free 4⟩
theorem below_set {w W : World} {B b i : Nat} (h : Below B w W) (hb : B ≤ b) (u : Value) : Below B w (W.setCell ⟨b, i, none⟩ u) := h.setCell hb u
theorem size_set (W : World) (b i : Nat) (u : Value) : (W.setCell ⟨b, i, none⟩ u).heap.size = W.heap.size := by simp [World.setCell]
end Go.Proofs.YteebbmmgbjpihaaDoor

namespace Go.Proofs.YteebbmmgbjpihaaDoor
open Go.RowKit

/-- A slice that reads as these cells, from a place of a block on. -/
def CeRow (W : World) (v : Value) (l : List Ce) : Prop :=
  ∃ A c, v = .slice A l.length c ∧ l.length ≤ c ∧ (l ≠ [] → ∃ g o, A = some ⟨g, o, none⟩ ∧ g < W.heap.size ∧ ∀ j e, l[j]? = some e → ∀ i u, e.cells[i]? = some u → W.cell? ⟨g, o + j * 5 + i, none⟩ = some u)
theorem CeRow.below {W W' : World} {v : Value} {l : List Ce} (h : CeRow W v l) (hb : Below W.heap.size W W') : CeRow W' v l := by
  obtain ⟨A, c, rfl, hc, hl⟩ := h
  refine ⟨A, c, rfl, hc, fun hn => ?_⟩
  obtain ⟨g, o, hA, hg, hc⟩ := hl hn
  exact ⟨g, o, hA, Nat.lt_of_lt_of_le hg hb.size, fun j e he i u hu => (hb.cell (p := ⟨g, o + j * 5 + i, none⟩) hg).trans (hc j e he i u hu)⟩
theorem CeRow.nil (W : World) (A : Option Addr) (c : Nat) : CeRow W (.slice A 0 c) [] := ⟨A, c, rfl, Nat.zero_le _, fun h => absurd rfl h⟩
theorem CeRow.spell {W : World} {v : Value} {l : List Ce} (h : CeRow W v l) : ∃ A c, v = .slice A l.length c := by
  obtain ⟨A, c, e, _⟩ := h
  exact ⟨A, c, e⟩
theorem ccells {W : World} {g o : Nat} {e : Ce} (h : ∀ i u, e.cells[i]? = some u → W.cell? ⟨g, o + i, none⟩ = some u) :
    W.cell? ⟨g, o, none⟩ = some (.string e.tx) ∧ W.cell? ⟨g, o + 1, none⟩ = some (.int .i64 e.wd) ∧ W.cell? ⟨g, o + 2, none⟩ = some (.int .i64 e.fg) ∧ W.cell? ⟨g, o + 3, none⟩ = some (.int .i64 e.bg) ∧ W.cell? ⟨g, o + 4, none⟩ = some (.int .i64 e.fl) :=
  ⟨h 0 _ rfl, h 1 _ rfl, h 2 _ rfl, h 3 _ rfl, h 4 _ rfl⟩

set_option maxRecDepth 100000 in
set_option maxHeartbeats 1000000 in
theorem half_any (v : Value) (l : List Ce) (i : Nat) (w : World) (h : CeRow w v l) (hi : i < l.length) (hn : l.length ≤ 1000000) :
    Calls Tryd.prog 39 #[v, .int .i64 i] w fun e w' => e = .returned (.bool (halfB l i)) ∧ w = w' := by
  obtain ⟨A, c, rfl, _, hA⟩ := h
  obtain ⟨g, o, rfl, hg, hc⟩ := hA (by intro e; subst e; simp at hi)
  have hx := List.getElem?_eq_getElem hi
  have hH : halfB l i = (match l[i]? with
    | none => false
    | some c => if c.wd = 2 then (match l[i + 1]? with | none => true | some d => decide (d.wd ≠ 0)) else if c.wd = 0 then (if i = 0 then true else match l[i - 1]? with | none => false | some d => decide (d.wd ≠ 2)) else false) := rfl
  rw [hx] at hH
  simp only at hH
  generalize l[i] = x at *
  have c1 : w.cell? ⟨g, o + i * 5 + 1, none⟩ = some (.int .i64 x.wd) := hc i x hx 1 _ rfl
  have hii : (i : Int) < l.length := by omega
  by_cases h2 : x.wd = 2
  · rw [if_pos h2] at hH
    rw [h2] at c1
    by_cases hl : i + 1 = l.length
    · rw [List.getElem?_eq_none (by omega)] at hH
      simp only at hH
      have HH := hid hH
      have hle : ((i : Int) + 1 == (l.length : Int)) = true := by rw [beq_iff_eq]; omega
      generalize l.length = m at *
      clear hH hA hc hx h2 hl
      go_enter Tryd.func39, Tryd.ntmps39
      go_wp2
      go_ret
      exact ⟨ret_bool (by rw [HH.out]), rfl⟩
    · have hi1 : i + 1 < l.length := by omega
      have hy := List.getElem?_eq_getElem hi1
      rw [hy] at hH
      simp only at hH
      generalize l[i + 1] = y at *
      have d1 : w.cell? ⟨g, o + (i + 1) * 5 + 1, none⟩ = some (.int .i64 y.wd) := hc (i + 1) y hy 1 _ rfl
      have hle : ((i : Int) + 1 == (l.length : Int)) = false := by rw [beq_eq_false_iff_ne]; omega
      have hii1 : (i : Int) + 1 < l.length := by omega
      generalize y.wd = yw at *
      generalize l.length = m at *
      clear hA hc hx hy h2 hl
      by_cases h0 : yw = 0
      · subst h0
        have HH := hid hH
        clear hH
        go_enter Tryd.func39, Tryd.ntmps39
        go_wp2
        go_ret
        exact ⟨ret_bool (by rw [HH.out]; simp), rfl⟩
      · have HH := hid (hH.trans (decide_eq_true h0))
        have q : (yw != 0) = true := by simp [h0]
        clear hH h0
        go_enter Tryd.func39, Tryd.ntmps39
        go_wp2
        go_ret
        exact ⟨ret_bool (by rw [HH.out]), rfl⟩
  · rw [if_neg h2] at hH
    have q2 : (x.wd == 2) = false := by simp [h2]
    by_cases h0 : x.wd = 0
    · rw [if_pos h0] at hH
      rw [h0] at c1
      by_cases hz : i = 0
      · subst hz
        rw [if_pos rfl] at hH
        have HH := hid hH
        generalize l.length = m at *
        clear hH hA hc hx h2 h0 q2
        simp only [Nat.zero_mul, Nat.add_zero] at c1
        go_enter Tryd.func39, Tryd.ntmps39
        go_wp2
        go_ret
        exact ⟨ret_bool (by rw [HH.out]), rfl⟩
      · rw [if_neg hz] at hH
        obtain ⟨k, rfl⟩ : ∃ k, i = k + 1 := ⟨i - 1, by omega⟩
        have hk : k < l.length := by omega
        have hy := List.getElem?_eq_getElem hk
        rw [show k + 1 - 1 = k by omega, hy] at hH
        simp only at hH
        generalize l[k] = y at *
        have d1 : w.cell? ⟨g, o + k * 5 + 1, none⟩ = some (.int .i64 y.wd) := hc k y hy 1 _ rfl
        have hii1 : (k : Int) < l.length := by omega
        have hkz : ((k : Int) + 1 == 0) = false := by rw [beq_eq_false_iff_ne]; omega
        generalize y.wd = yw at *
        generalize l.length = m at *
        clear hA hc hx hy h2 h0 q2 hz
        by_cases h3 : yw = 2
        · subst h3
          have HH := hid hH
          clear hH
          go_enter Tryd.func39, Tryd.ntmps39
          go_wp2
          go_ret
          exact ⟨ret_bool (by rw [HH.out]; simp), rfl⟩
        · have HH := hid (hH.trans (decide_eq_true h3))
          have q : (yw != 2) = true := by simp [h3]
          clear hH h3
          go_enter Tryd.func39, Tryd.ntmps39
          go_wp2
          go_ret
          exact ⟨ret_bool (by rw [HH.out]), rfl⟩
    · rw [if_neg h0] at hH
      have HH := hid hH
      have q0 : (x.wd == 0) = false := by simp [h0]
      generalize x.wd = xw at *
      generalize l.length = m at *
      clear hH hA hc hx h2 h0
      go_enter Tryd.func39, Tryd.ntmps39
      go_wp2
      go_ret
      exact ⟨ret_bool (by rw [HH.out]), rfl⟩
end Go.Proofs.YteebbmmgbjpihaaDoor

namespace Go.Proofs.YteebbmmgbjpihaaDoor
open Go.RowKit

set_option maxRecDepth 100000 in
set_option maxHeartbeats 1000000 in
theorem cut_any (v : Value) (l : List Ce) (i : Nat) (w : World) (h : CeRow w v l) (hi : i < l.length) (hn : l.length ≤ 1000000) :
    Calls Tryd.prog 81 #[v, .int .i64 i] w fun e w' => e = .returned (.bool (halfB l i)) ∧ w = w' := by
  obtain ⟨A, c, rfl, _, hA⟩ := h
  obtain ⟨g, o, rfl, hg, hc⟩ := hA (by intro e; subst e; simp at hi)
  have hx := List.getElem?_eq_getElem hi
  have hH : halfB l i = (match l[i]? with
    | none => false
    | some c => if c.wd = 2 then (match l[i + 1]? with | none => true | some d => decide (d.wd ≠ 0)) else if c.wd = 0 then (if i = 0 then true else match l[i - 1]? with | none => false | some d => decide (d.wd ≠ 2)) else false) := rfl
  rw [hx] at hH
  simp only at hH
  generalize l[i] = x at *
  have c1 : w.cell? ⟨g, o + i * 5 + 1, none⟩ = some (.int .i64 x.wd) := hc i x hx 1 _ rfl
  have hii : (i : Int) < l.length := by omega
  by_cases h2 : x.wd = 2
  · rw [if_pos h2] at hH
    rw [h2] at c1
    by_cases hl : i + 1 = l.length
    · rw [List.getElem?_eq_none (by omega)] at hH
      simp only at hH
      have HH := hid hH
      have hle : ((i : Int) + 1 == (l.length : Int)) = true := by rw [beq_iff_eq]; omega
      generalize l.length = m at *
      clear hH hA hc hx h2 hl
      go_enter Tryd.func81, Tryd.ntmps81
      go_wp2
      go_ret
      exact ⟨ret_bool (by rw [HH.out]), rfl⟩
    · have hi1 : i + 1 < l.length := by omega
      have hy := List.getElem?_eq_getElem hi1
      rw [hy] at hH
      simp only at hH
      generalize l[i + 1] = y at *
      have d1 : w.cell? ⟨g, o + (i + 1) * 5 + 1, none⟩ = some (.int .i64 y.wd) := hc (i + 1) y hy 1 _ rfl
      have hle : ((i : Int) + 1 == (l.length : Int)) = false := by rw [beq_eq_false_iff_ne]; omega
      have hii1 : (i : Int) + 1 < l.length := by omega
      generalize y.wd = yw at *
      generalize l.length = m at *
      clear hA hc hx hy h2 hl
      by_cases h0 : yw = 0
      · subst h0
        have HH := hid hH
        clear hH
        go_enter Tryd.func81, Tryd.ntmps81
        go_wp2
        go_ret
        exact ⟨ret_bool (by rw [HH.out]; simp), rfl⟩
      · have HH := hid (hH.trans (decide_eq_true h0))
        have q : (yw != 0) = true := by simp [h0]
        clear hH h0
        go_enter Tryd.func81, Tryd.ntmps81
        go_wp2
        go_ret
        exact ⟨ret_bool (by rw [HH.out]), rfl⟩
  · rw [if_neg h2] at hH
    have q2 : (x.wd == 2) = false := by simp [h2]
    by_cases h0 : x.wd = 0
    · rw [if_pos h0] at hH
      rw [h0] at c1
      by_cases hz : i = 0
      · subst hz
        rw [if_pos rfl] at hH
        have HH := hid hH
        generalize l.length = m at *
        clear hH hA hc hx h2 h0 q2
        simp only [Nat.zero_mul, Nat.add_zero] at c1
        go_enter Tryd.func81, Tryd.ntmps81
        go_wp2
        go_ret
        exact ⟨ret_bool (by rw [HH.out]), rfl⟩
      · rw [if_neg hz] at hH
        obtain ⟨k, rfl⟩ : ∃ k, i = k + 1 := ⟨i - 1, by omega⟩
        have hk : k < l.length := by omega
        have hy := List.getElem?_eq_getElem hk
        rw [show k + 1 - 1 = k by omega, hy] at hH
        simp only at hH
        generalize l[k] = y at *
        have d1 : w.cell? ⟨g, o + k * 5 + 1, none⟩ = some (.int .i64 y.wd) := hc k y hy 1 _ rfl
        have hii1 : (k : Int) < l.length := by omega
        have hkz : ((k : Int) + 1 == 0) = false := by rw [beq_eq_false_iff_ne]; omega
        generalize y.wd = yw at *
        generalize l.length = m at *
        clear hA hc hx hy h2 h0 q2 hz
        by_cases h3 : yw = 2
        · subst h3
          have HH := hid hH
          clear hH
          go_enter Tryd.func81, Tryd.ntmps81
          go_wp2
          go_ret
          exact ⟨ret_bool (by rw [HH.out]; simp), rfl⟩
        · have HH := hid (hH.trans (decide_eq_true h3))
          have q : (yw != 2) = true := by simp [h3]
          clear hH h3
          go_enter Tryd.func81, Tryd.ntmps81
          go_wp2
          go_ret
          exact ⟨ret_bool (by rw [HH.out]), rfl⟩
    · rw [if_neg h0] at hH
      have HH := hid hH
      have q0 : (x.wd == 0) = false := by simp [h0]
      generalize x.wd = xw at *
      generalize l.length = m at *
      clear hH hA hc hx h2 h0
      go_enter Tryd.func81, Tryd.ntmps81
      go_wp2
      go_ret
      exact ⟨ret_bool (by rw [HH.out]), rfl⟩
end Go.Proofs.YteebbmmgbjpihaaDoor
