/- Layer 6, the package: cells of the call's own, in a block; erasing. -/
/- Layer 6, the package: cells mended in place; a line mended. -/
import Derived.Test.YteebbmmgbjpihaaDoorGridIQ
import Derived.Test.YteebbmmgbjpihaaDoorCellGQ
import Derived.Laws.AppendOwn
import Derived.Maps.AppendAt
namespace Go.Proofs.YteebbmmgbjpihaaDoor
open Go.RowKit

/-- All but one block stays. -/
def Only (b : Nat) (W W' : World) : Prop := W.grownBy W' (some b)
theorem Only.refl (b : Nat) (W : World) : Only b W W := World.grownBy.refl W _
theorem Only.trans {b : Nat} {W W1 W2 : World} (h : Only b W W1) (h2 : Only b W1 W2) : Only b W W2 := World.grownBy.trans h h2
theorem Only.drewN {b n : Nat} {W W1 : World} (h : Only b W W1) : Only b W (W1.drewN n) := ⟨h.os, h.tape, h.output, h.size, h.block⟩
theorem Only.of_below {b : Nat} {W W1 : World} (h : Below W.heap.size W W1) : Only b W W1 := ⟨h.os, h.tape, h.output, h.size, fun k hk _ => h.block k hk⟩
theorem Only.set {b i : Nat} {W W1 : World} (h : Only b W W1) (u : Value) : Only b W (W1.setCell ⟨b, i, none⟩ u) :=
  ⟨h.os, h.tape, h.output, by rw [size_set]; exact h.size, fun k hk hne => (Below.heap_setCell W1 ⟨b, i, none⟩ u k (fun e => hne (by rw [e]))).trans (h.block k hk hne)⟩
theorem Only.below {b : Nat} {W W1 : World} (h : Only b W W1) {B : Nat} (hB : B ≤ W.heap.size) (hb : B ≤ b) : Below B W W1 := (Below.refl B W).grown h hB (fun k hk => by cases hk; exact hb)
theorem Box.only {W W' : World} {b c : Nat} {t : TypeId} {cs : Array Value} (h : Box W c t cs) (hb : Only b W W') (hne : c ≠ b) : Box W' c t cs := h.grown hb (by simpa using hne)

/-- A block of the call's own that holds these cells, and room behind them. -/
def CBox (W : World) (g : Nat) (l : List Ce) (cap : Nat) : Prop :=
  ∃ cur : Array Value, Box W g 44 cur ∧ cur.size = cap * 5 ∧ l.length ≤ cap ∧ ∀ j e, l[j]? = some e → ∀ i u, e.cells[i]? = some u → cur[j * 5 + i]? = some u
theorem CBox.lt {W : World} {g cap : Nat} {l : List Ce} (h : CBox W g l cap) : g < W.heap.size := by obtain ⟨cur, hb, _⟩ := h; exact hb.lt
theorem CBox.cell {W : World} {g cap : Nat} {l : List Ce} (h : CBox W g l cap) {j : Nat} {e : Ce} (hj : l[j]? = some e) {i : Nat} {u : Value} (hu : e.cells[i]? = some u) : W.cell? ⟨g, j * 5 + i, none⟩ = some u := by
  obtain ⟨cur, hb, _, _, hc⟩ := h
  rw [hb.cell]
  exact hc j e hj i u hu
theorem CBox.free {W : World} {g cap : Nat} {l : List Ce} (h : CBox W g l cap) (i : Nat) : W.frozen? ⟨g, i, none⟩ = false := by obtain ⟨cur, hb, _⟩ := h; exact hb.free i
theorem CBox.below {W W' : World} {g cap B : Nat} {l : List Ce} (h : CBox W g l cap) (hb : Below B W W') (hB : g < B) : CBox W' g l cap := by
  obtain ⟨cur, h1, h2⟩ := h
  exact ⟨cur, h1.below hb hB, h2⟩
theorem CBox.only {W W' : World} {g cap b : Nat} {l : List Ce} (h : CBox W g l cap) (hb : Only b W W') (hne : g ≠ b) : CBox W' g l cap := by
  obtain ⟨cur, h1, h2⟩ := h
  exact ⟨cur, h1.only hb hne, h2⟩
theorem CBox.drewN {W : World} {g cap n : Nat} {l : List Ce} (h : CBox W g l cap) : CBox (W.drewN n) g l cap := h
theorem CBox.drew {W : World} {g cap : Nat} {l : List Ce} (h : CBox W g l cap) : CBox W.drew g l cap := h
theorem Only.drew {b : Nat} {W W1 : World} (h : Only b W W1) : Only b W W1.drew := ⟨h.os, h.tape, h.output, h.size, h.block⟩
theorem CBox.row {W : World} {g cap : Nat} {l : List Ce} (h : CBox W g l cap) : CeRow W (.slice (some ⟨g, 0, none⟩) l.length cap) l := by
  have hg := h.lt
  have hc : l.length ≤ cap := by obtain ⟨_, _, _, hc, _⟩ := h; exact hc
  exact ⟨_, _, rfl, hc, fun _ => ⟨g, 0, rfl, hg, fun j e he i u hu => by rw [Nat.zero_add]; exact h.cell he hu⟩⟩
/-- A cell stored, its five places in order. -/
def set5 (W : World) (g o : Nat) (e : Ce) : World :=
  ((((W.setCell ⟨g, o, none⟩ (.string e.tx)).setCell ⟨g, o + 1, none⟩ (.int .i64 e.wd)).setCell ⟨g, o + 2, none⟩ (.int .i64 e.fg)).setCell ⟨g, o + 3, none⟩ (.int .i64 e.bg)).setCell ⟨g, o + 4, none⟩ (.int .i64 e.fl)
theorem CBox.set5 {W : World} {g cap : Nat} {l : List Ce} (h : CBox W g l cap) {k : Nat} (hk : k < l.length) (e : Ce) : CBox (set5 W g (k * 5) e) g (l.set k e) cap := by
  obtain ⟨cur, hb, hs, hl, hc⟩ := h
  refine ⟨_, ((((hb.set (i := k * 5) _).set (i := k * 5 + 1) _).set (i := k * 5 + 2) _).set (i := k * 5 + 3) _).set (i := k * 5 + 4) _, by simp [hs], by rw [List.length_set]; exact hl, ?_⟩
  intro j e' hj i u hu
  have hi : i < 5 := by have := (Array.getElem?_eq_some_iff.1 hu).1; simpa [Ce.cells] using this
  by_cases hjk : j = k
  · subst hjk
    rw [List.getElem?_set_self hk] at hj
    cases hj
    have hz : j * 5 + 4 < cur.size := by omega
    obtain rfl | rfl | rfl | rfl | rfl : i = 0 ∨ i = 1 ∨ i = 2 ∨ i = 3 ∨ i = 4 := by omega
    all_goals
      simp [Ce.cells] at hu
      subst hu
      simp only [Array.getElem?_setIfInBounds, Array.size_setIfInBounds]
      repeat (first | rw [if_neg (by omega)] | rw [if_pos trivial] | rw [if_pos (by omega)])
  · rw [List.getElem?_set_ne (Ne.symm hjk)] at hj
    have := hc j e' hj i u hu
    simp only [Array.getElem?_setIfInBounds, Array.size_setIfInBounds]
    repeat rw [if_neg (by omega)]
    exact this
theorem Only.set5 {W W1 : World} {g o : Nat} (h : Only g W W1) (e : Ce) : Only g W (set5 W1 g o e) := ((((h.set _).set _).set _).set _).set _

/-- The five places of a cell, as the walk asks for them. -/
theorem CBox.five {W : World} {g cap : Nat} {l : List Ce} (h : CBox W g l cap) {k : Nat} (hk : k < l.length) {q : Nat} (hq : q = k * 5) :
    ∃ e : Ce, l[k]? = some e ∧ (W.cell? ⟨g, q, none⟩ = some (.string e.tx) ∧ W.cell? ⟨g, q + 1, none⟩ = some (.int .i64 e.wd) ∧ W.cell? ⟨g, q + 2, none⟩ = some (.int .i64 e.fg) ∧ W.cell? ⟨g, q + 3, none⟩ = some (.int .i64 e.bg) ∧ W.cell? ⟨g, q + 4, none⟩ = some (.int .i64 e.fl)) ∧
      (W.frozen? ⟨g, q, none⟩ = false ∧ W.frozen? ⟨g, q + 1, none⟩ = false ∧ W.frozen? ⟨g, q + 2, none⟩ = false ∧ W.frozen? ⟨g, q + 3, none⟩ = false ∧ W.frozen? ⟨g, q + 4, none⟩ = false) := by
  subst hq
  have he := List.getElem?_eq_getElem hk
  exact ⟨l[k], he, ⟨h.cell (i := 0) he rfl, h.cell (i := 1) he rfl, h.cell (i := 2) he rfl, h.cell (i := 3) he rfl, h.cell (i := 4) he rfl⟩, h.free _, h.free _, h.free _, h.free _, h.free _⟩

/-- Cells from a place on, so many, blank. -/
def eraseL (l : List Ce) (o n : Nat) (a : At) : List Ce := l.take o ++ (List.replicate n (blkC a) ++ l.drop (o + n))
theorem eraseL_length {l : List Ce} {o n : Nat} (a : At) (h : o + n ≤ l.length) : (eraseL l o n a).length = l.length := by
  unfold eraseL
  simp
  omega
theorem eraseL_0 (l : List Ce) (o : Nat) (a : At) : eraseL l o 0 a = l := by
  unfold eraseL
  simp
theorem eraseL_at {l : List Ce} {o n : Nat} (a : At) (h : o + n ≤ l.length) (j : Nat) : (eraseL l o n a)[j]? = if o ≤ j ∧ j < o + n then some (blkC a) else l[j]? := by
  unfold eraseL
  by_cases h1 : j < o
  · rw [if_neg (by omega), List.getElem?_append_left (by simp; omega), List.getElem?_take, if_pos h1]
  · rw [List.getElem?_append_right (by simp; omega)]
    have e1 : (l.take o).length = o := by simp; omega
    rw [e1]
    by_cases h2 : j < o + n
    · rw [if_pos (by omega), List.getElem?_append_left (by simp; omega), List.getElem?_replicate, if_pos (by omega)]
    · rw [if_neg (by omega), List.getElem?_append_right (by simp; omega), List.length_replicate, List.getElem?_drop]
      congr 1
      omega
theorem eraseL_step {l : List Ce} {o k : Nat} (a : At) (h : o + k < l.length) : (eraseL l o k a).set (o + k) (blkC a) = eraseL l o (k + 1) a := by
  apply List.ext_getElem?
  intro j
  rw [eraseL_at a (by omega)]
  by_cases hj : j = o + k
  · subst hj
    rw [List.getElem?_set_self (by rw [eraseL_length a (by omega)]; exact h), if_pos (by omega)]
  · rw [List.getElem?_set_ne (Ne.symm hj), eraseL_at a (by omega)]
    exact if_iff (by omega)
theorem blk_agg (a : At) : Ce.agg ⟨⟨#[]⟩, 1, 0, a.bg, 0⟩ = (blkC a).agg := rfl

def ErPost (W : World) (g cap : Nat) (l : List Ce) (e : Ending) (w' : World) : Prop := e = .returned (.tuple #[]) ∧ CBox w' g l cap ∧ Only g W w'

end Go.Proofs.YteebbmmgbjpihaaDoor

namespace Go.Proofs.YteebbmmgbjpihaaDoor
open Go.RowKit

def MendRel (W : World) (g cap : Nat) (l : List Ce) (k : Nat) (wr : World) : Prop :=
  ∃ done rest : List Ce, done.length = k ∧ k + rest.length = l.length ∧ done ++ mendL (lastW done) rest = mendL 1 l ∧ CBox wr g (done ++ rest) cap ∧ Only g W wr

end Go.Proofs.YteebbmmgbjpihaaDoor
