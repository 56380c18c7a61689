/- A block of cells that a call laid (a struct's box): there, turned, kept. -/
import Derived.Test.YtglfolbimafcaaaBaseQ
import Derived.Laws.Rows
namespace Go.Proofs.Ytglfolbimafcaaa
open Go.RowKit

/-- A block of these cells. -/
def Box (W : World) (b : Nat) (t : TypeId) (cs : Array Value) : Prop := W.heap[b]? = some (.cells cs t (0, 0))
theorem Box.lt {W : World} {b : Nat} {t : TypeId} {cs : Array Value} (h : Box W b t cs) : b < W.heap.size := (Array.getElem?_eq_some_iff.1 h).1
theorem Box.new (W : World) (t : TypeId) (cs : Array Value) : Box (W.alloc (.cells cs t)) W.heap.size t cs := heap_alloc_new W _
theorem Box.alloc {W : World} {b : Nat} {t : TypeId} {cs : Array Value} (h : Box W b t cs) (o : Obj) : Box (W.alloc o) b t cs := (Below.heap_alloc W o b h.lt).trans h
theorem Box.below {W W' : World} {b B : Nat} {t : TypeId} {cs : Array Value} (h : Box W b t cs) (hb : Below B W W') (hB : b < B) : Box W' b t cs := (hb.block b hB).trans h
theorem Box.set {W : World} {b i : Nat} {t : TypeId} {cs : Array Value} (h : Box W b t cs) (u : Value) : Box (W.setCell ⟨b, i, none⟩ u) b t (cs.setIfInBounds i u) := by
  unfold Box at *
  simp [World.setCell, Array.getElem?_modify, h]
theorem Box.other {W : World} {b b' i : Nat} {t : TypeId} {cs : Array Value} (h : Box W b t cs) (hne : b ≠ b') (u : Value) : Box (W.setCell ⟨b', i, none⟩ u) b t cs := (Below.heap_setCell W ⟨b', i, none⟩ u b hne).trans h
theorem Box.drewN {W : World} {b n : Nat} {t : TypeId} {cs : Array Value} (h : Box W b t cs) : Box (W.drewN n) b t cs := h
theorem Box.drew {W : World} {b : Nat} {t : TypeId} {cs : Array Value} (h : Box W b t cs) : Box W.drew b t cs := h
theorem Box.grown {W W' : World} {b : Nat} {t : TypeId} {cs : Array Value} {row : Option Nat} (h : Box W b t cs) (hg : W.grownBy W' row) (hne : some b ≠ row) : Box W' b t cs := (hg.block b h.lt hne).trans h
theorem Box.cell {W : World} {b : Nat} {t : TypeId} {cs : Array Value} (h : Box W b t cs) (i : Nat) : W.cell? ⟨b, i, none⟩ = cs[i]? := cell_of_row _ _ i _ _ _ h
theorem Box.free {W : World} {b : Nat} {t : TypeId} {cs : Array Value} (h : Box W b t cs) (i : Nat) : W.frozen? ⟨b, i, none⟩ = false := by
  have h' : W.heap[b]? = some (.cells cs t (0, 0)) := h
  simp [World.frozen?, h']
theorem Box.two {W : World} {b : Nat} {t : TypeId} {x y : Value} (h : Box W b t #[x, y]) :
    (W.cell? ⟨b, 0, none⟩ = some x ∧ W.cell? ⟨b, 1, none⟩ = some y) ∧ (W.frozen? ⟨b, 0, none⟩ = false ∧ W.frozen? ⟨b, 1, none⟩ = false) := ⟨⟨h.cell 0, h.cell 1⟩, h.free 0, h.free 1⟩
theorem Box.three {W : World} {b : Nat} {t : TypeId} {x y z : Value} (h : Box W b t #[x, y, z]) :
    (W.cell? ⟨b, 0, none⟩ = some x ∧ W.cell? ⟨b, 1, none⟩ = some y ∧ W.cell? ⟨b, 2, none⟩ = some z) ∧ (W.frozen? ⟨b, 0, none⟩ = false ∧ W.frozen? ⟨b, 1, none⟩ = false ∧ W.frozen? ⟨b, 2, none⟩ = false) :=
  ⟨⟨h.cell 0, h.cell 1, h.cell 2⟩, h.free 0, h.free 1, h.free 2⟩
theorem Box.four {W : World} {b : Nat} {t : TypeId} {x y z u : Value} (h : Box W b t #[x, y, z, u]) :
    (W.cell? ⟨b, 0, none⟩ = some x ∧ W.cell? ⟨b, 1, none⟩ = some y ∧ W.cell? ⟨b, 2, none⟩ = some z ∧ W.cell? ⟨b, 3, none⟩ = some u) ∧ (W.frozen? ⟨b, 0, none⟩ = false ∧ W.frozen? ⟨b, 1, none⟩ = false ∧ W.frozen? ⟨b, 2, none⟩ = false ∧ W.frozen? ⟨b, 3, none⟩ = false) :=
  ⟨⟨h.cell 0, h.cell 1, h.cell 2, h.cell 3⟩, h.free 0, h.free 1, h.free 2, h.free 3⟩
theorem Box.five {W : World} {b : Nat} {t : TypeId} {x y z u v : Value} (h : Box W b t #[x, y, z, u, v]) :
    (W.cell? ⟨b, 0, none⟩ = some x ∧ W.cell? ⟨b, 1, none⟩ = some y ∧ W.cell? ⟨b, 2, none⟩ = some z ∧ W.cell? ⟨b, 3, none⟩ = some u ∧ W.cell? ⟨b, 4, none⟩ = some v) ∧ (W.frozen? ⟨b, 0, none⟩ = false ∧ W.frozen? ⟨b, 1, none⟩ = false ∧ W.frozen? ⟨b, 2, none⟩ = false ∧ W.frozen? ⟨b, 3, none⟩ = false ∧ W.frozen? ⟨b, 4, none⟩ = false) :=
  ⟨⟨h.cell 0, h.cell 1, h.cell 2, h.cell 3, h.cell 4⟩, h.free 0, h.free 1, h.free 2, h.free 3, h.free 4⟩
theorem below_set {w W : World} {B b i : Nat} (h : Below B w W) (hb : B ≤ b) (u : Value) : Below B w (W.setCell ⟨b, i, none⟩ u) := h.setCell hb u
theorem size_set (W : World) (b i : Nat) (u : Value) : (W.setCell ⟨b, i, none⟩ u).heap.size = W.heap.size := by simp [World.setCell]
end Go.Proofs.Ytglfolbimafcaaa
