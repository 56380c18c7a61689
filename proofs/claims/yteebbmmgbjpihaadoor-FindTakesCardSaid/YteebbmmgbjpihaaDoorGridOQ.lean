/- Layer 6: rows of cells of the call's own; cells cloned; a line mended. -/
/- Layer 6: rows of lines: read; of the call's own; cloned. -/
/- Layer 6, the package: which lines may be. -/
/- Layer 6, the package: sizes, rows and columns; which grids may be. -/
/- Layer 6, the package: a line changed by a closure. -/
import Derived.Test.YteebbmmgbjpihaaDoorGridFQ
import Derived.Test.YteebbmmgbjpihaaDoorIntsQ
import Derived.Laws.OwnMore
import Derived.Test.YteebbmmgbjpihaaDoorCellGQ
import Derived.Deep.RegionWith
namespace Go.Proofs.YteebbmmgbjpihaaDoor
open Go.RowKit

/-- Cells, their places one behind the other. -/
def cflat : List Ce → List Value
  | [] => []
  | e :: l => e.cells.toList ++ cflat l
theorem cflat_length : ∀ l, (cflat l).length = l.length * 5
  | [] => rfl
  | e :: l => by rw [cflat, List.length_append, cflat_length l]; simp [Ce.cells]; omega
theorem cflat_append : ∀ a b, cflat (a ++ b) = cflat a ++ cflat b
  | [], _ => rfl
  | e :: a, b => by rw [List.cons_append, cflat, cflat, cflat_append a b, List.append_assoc]
theorem cflat_at : ∀ (l : List Ce) (j : Nat) (e : Ce) (i : Nat) (u : Value), l[j]? = some e → e.cells[i]? = some u → (cflat l)[j * 5 + i]? = some u
  | [], _, _, _, _, h, _ => by simp at h
  | x :: l, 0, e, i, u, h, hu => by
    simp at h
    subst h
    have hi : i < 5 := by have := (Array.getElem?_eq_some_iff.1 hu).1; simpa [Ce.cells] using this
    rw [cflat, List.getElem?_append_left (by simp [Ce.cells]; omega)]
    simpa using hu
  | x :: l, j + 1, e, i, u, h, hu => by
    rw [cflat, List.getElem?_append_right (by simp [Ce.cells]; omega)]
    have : x.cells.toList.length = 5 := by simp [Ce.cells]
    rw [this, show (j + 1) * 5 + i - 5 = j * 5 + i by omega]
    exact cflat_at l j e i u (by simpa using h) hu
theorem cflat_inv : ∀ (l : List Ce) (j : Nat) (u : Value), (cflat l)[j]? = some u → ∃ e, l[j / 5]? = some e ∧ e.cells[j % 5]? = some u
  | [], j, u, h => by simp [cflat] at h
  | x :: l, j, u, h => by
    rw [cflat] at h
    have hx : x.cells.toList.length = 5 := by simp [Ce.cells]
    by_cases hj : j < 5
    · rw [List.getElem?_append_left (by omega)] at h
      refine ⟨x, by rw [show j / 5 = 0 by omega]; rfl, ?_⟩
      rw [show j % 5 = j by omega]
      simpa using h
    · rw [List.getElem?_append_right (by omega), hx] at h
      obtain ⟨e, h1, h2⟩ := cflat_inv l (j - 5) u h
      refine ⟨e, ?_, ?_⟩
      · rw [show j / 5 = (j - 5) / 5 + 1 by omega]
        simpa using h1
      · rw [show j % 5 = (j - 5) % 5 by omega]
        exact h2
theorem ce_one {e : Ce} {i : Nat} {u : Value} (h : e.cells[i]? = some u) : u.oneCell' = true := by
  have hm : u ∈ e.cells.toList := by
    rw [← Array.getElem?_toList] at h
    exact List.mem_of_getElem? h
  simp only [Ce.cells, List.mem_cons, List.mem_nil_iff, or_false] at hm
  rcases hm with rfl | rfl | rfl | rfl | rfl <;> rfl
theorem cflat_one {l : List Ce} : ∀ u ∈ cflat l, u.oneCell' = true := by
  intro u hu
  obtain ⟨j, hj⟩ := List.mem_iff_getElem?.1 hu
  obtain ⟨e, _, h2⟩ := cflat_inv l j u hj
  exact ce_one h2
theorem addr_add (g o j : Nat) : (⟨g, o, none⟩ : Addr).add j = ⟨g, o + j, none⟩ := by unfold Addr.add; split <;> simp_all

/-- A slice of the call's own that holds these cells. -/
def OwnC (W : World) (base : Nat) (v : Value) (l : List Ce) : Prop := W.ownsRow base 44 5 v l.length (cflat l)
theorem ce_info : (Tryd.prog.info? 44).map (fun i => (i.zero, i.size, i.bytes)) = some (some (.agg #[.string ⟨#[]⟩, .int .i64 0, .int .i64 0, .int .i64 0, .int .i64 0]), 5, 48) := by kernel_rfl
theorem OwnC.spell {W : World} {base : Nat} {v : Value} {l : List Ce} (h : OwnC W base v l) : ∃ A c, v = .slice A l.length c := by
  rcases h.2 with ⟨rfl, h0⟩ | ⟨g, cap, cur, rfl, _⟩
  · exact ⟨_, _, by rw [h0]⟩
  · exact ⟨_, _, rfl⟩
theorem OwnC.nil (W : World) (base : Nat) : OwnC W base (.slice none 0 0) [] := ⟨rfl, .inl ⟨rfl, rfl⟩⟩
theorem OwnC.kept {W W' : World} {base : Nat} {v : Value} {l : List Ce} (h : OwnC W base v l) (hb : Below W.heap.size W W') : OwnC W' base v l :=
  World.ownsRow.kept h ⟨hb.os, hb.tape, hb.output, hb.size, fun k hk _ => hb.block k hk⟩ (row := none) (by cases v.ownBlock <;> simp)
theorem OwnC.not_box {W : World} {base b : Nat} {t : TypeId} {cs : Array Value} {v : Value} {l : List Ce} (h : OwnC W base v l) (hb : Box W b t cs) (ht : t ≠ 44) : some b ≠ v.ownBlock := by
  rcases h.2 with ⟨rfl, _⟩ | ⟨g, cap, cur, rfl, _, hg, _⟩
  · simp [Value.ownBlock]
  · simp only [Value.ownBlock, ne_eq, Option.some.injEq]
    rintro rfl
    have hb' : W.heap[b]? = some (.cells cs t (0, 0)) := hb
    rw [hg] at hb'
    cases hb'
    exact ht rfl
theorem OwnC.set {W : World} {base b i : Nat} {t : TypeId} {cs : Array Value} {v : Value} {l : List Ce} (h : OwnC W base v l) (hb : Box W b t cs) (ht : t ≠ 44) (u : Value) : OwnC (W.setCell ⟨b, i, none⟩ u) base v l :=
  World.ownsRow.kept h (row := some b) ⟨rfl, rfl, rfl, by simp [World.setCell], fun k _ hk => Below.heap_setCell _ _ _ _ (fun e => hk (by rw [e]))⟩ (.inr (h.not_box hb ht).symm)
theorem OwnC.lit {W : World} {base : Nat} (l : List Ce) (hl : l.length ≤ 1000) (hb : base ≤ W.heap.size) : OwnC (W.alloc (.cells (cflat l).toArray 44)) base (.slice (some ⟨W.heap.size, 0, none⟩) l.length l.length) l := by
  have h := World.ownsRow_lit (base := base) (e := 44) (size := 5) W (cflat l).toArray l.length hb (by unfold maxLen; omega) (by simp [cflat_length])
  unfold OwnC
  simpa using h

/-- A slice that nothing else reaches: none, or one whose block is the call's own. -/
def CSl (W : World) (base : Nat) (v : Value) (l : List Ce) : Prop :=
  (l = [] ∧ v = .slice none 0 0) ∨ ∃ g cap, v = .slice (some ⟨g, 0, none⟩) l.length cap ∧ base ≤ g ∧ CBox W g l cap
theorem OwnC.csl {W : World} {base : Nat} {v : Value} {l : List Ce} (h : OwnC W base v l) : CSl W base v l := by
  have hall := h.1
  rcases h.2 with ⟨rfl, h0⟩ | ⟨g, cap, cur, rfl, hb, hg, hn, _, hs, ht⟩
  · exact .inl ⟨List.length_eq_zero_iff.1 h0, rfl⟩
  · refine .inr ⟨g, cap, rfl, hb, cur, hg, hs, hn, fun j e hj i u hu => ?_⟩
    have := cflat_at l j e i u hj hu
    have hi : i < 5 := by have := (Array.getElem?_eq_some_iff.1 hu).1; simpa [Ce.cells] using this
    have hj' : j < l.length := (List.getElem?_eq_some_iff.1 hj).1
    rw [← ht, List.getElem?_take, if_pos (by omega)] at this
    simpa using this
theorem CSl.spell {W : World} {base : Nat} {v : Value} {l : List Ce} (h : CSl W base v l) : ∃ A c, v = .slice A l.length c := by
  rcases h with ⟨rfl, rfl⟩ | ⟨g, cap, rfl, _⟩
  · exact ⟨_, _, rfl⟩
  · exact ⟨_, _, rfl⟩
theorem CSl.set {W : World} {base b i : Nat} {t : TypeId} {cs : Array Value} {v : Value} {l : List Ce} (h : CSl W base v l) (hb : Box W b t cs) (ht : t ≠ 44) (u : Value) : CSl (W.setCell ⟨b, i, none⟩ u) base v l := by
  rcases h with h | ⟨g, cap, rfl, h1, cur, hg, h2⟩
  · exact .inl h
  · refine .inr ⟨g, cap, rfl, h1, cur, hg.other ?_ u, h2⟩
    rintro rfl
    have hb' : W.heap[g]? = some (.cells cs t (0, 0)) := hb
    have hg' : W.heap[g]? = some (.cells cur 44 (0, 0)) := hg
    rw [hg'] at hb'
    cases hb'
    exact ht rfl
theorem CSl.row {W : World} {base : Nat} {v : Value} {l : List Ce} (h : CSl W base v l) : CeRow W v l := by
  rcases h with ⟨rfl, rfl⟩ | ⟨g, cap, rfl, _, hc⟩
  · exact CeRow.nil _ _ _
  · exact hc.row
theorem CSl.below {W W' : World} {base B : Nat} {v : Value} {l : List Ce} (h : CSl W base v l) (hb : Below B W W') (hB : W.heap.size ≤ B) : CSl W' base v l := by
  rcases h with h | ⟨g, cap, rfl, h1, hc⟩
  · exact .inl h
  · exact .inr ⟨g, cap, rfl, h1, hc.below hb (Nat.lt_of_lt_of_le hc.lt hB)⟩
theorem CSl.mono {W : World} {base base' : Nat} {v : Value} {l : List Ce} (h : CSl W base v l) (hb : base' ≤ base) : CSl W base' v l := by
  rcases h with h | ⟨g, cap, rfl, h1, hc⟩
  · exact .inl h
  · exact .inr ⟨g, cap, rfl, Nat.le_trans hb h1, hc⟩

/-- Cells that lie elsewhere, appended to a row of the call's own. -/
theorem run_append_ce (w : World) (base : Nat) (v x : Value) (l m : List Ce) (hown : OwnC w base v l) (hx : CeRow w x m) (ty : TypeId) (hb : l.length + m.length ≤ 1000000) (hbase : base ≤ w.heap.size) :
    ∃ v' w', (Builtin.append_ #[37, 37] ty #[v, x]).run Tryd.prog w = .ok v' w' ∧ OwnC w' base v' (l ++ m) ∧ w.grownBy w' v.ownBlock := by
  obtain ⟨i0, hi, hz0, hz1, hz2⟩ := info_parts ce_info
  obtain ⟨A, c, rfl, _, hl⟩ := hx
  rcases A with _ | ad
  · have hm : m = [] := by
      apply Classical.byContradiction
      intro hne
      obtain ⟨g, o, h, _⟩ := hl hne
      cases h
    subst hm
    refine ⟨v, w, ?_, by simpa using hown, World.grownBy.refl w _⟩
    have ht := Tryd.underlying37
    rcases hown.2 with ⟨rfl, _⟩ | ⟨g, cap, cur, rfl, _, _, hnc, _⟩
    · simp [Builtin.append_, run_underlying ht, typeInfo, hi, Builtin.lenOf, Builtin.firstCells]
    · simp [Builtin.append_, run_underlying ht, typeInfo, hi, Builtin.lenOf, Builtin.firstCells, hnc, storeCells]
  · have hcells : ∀ j u, (cflat m)[j]? = some u → w.cell? (ad.add j) = some u := by
      intro j u hu
      obtain ⟨e, h1, h2⟩ := cflat_inv m j u hu
      obtain ⟨g, o, h, _, hc⟩ := hl (by intro h; rw [h] at h1; simp at h1)
      cases h
      rw [addr_add]
      have := hc (j / 5) e h1 (j % 5) u h2
      rwa [show o + j / 5 * 5 + j % 5 = o + j by omega] at this
    obtain ⟨v', w', hrun, h2, h3, _⟩ := run_append_own (P := Tryd.prog) w base 37 ty 44 i0 _ 5 48 Tryd.underlying37 hi hz0 hz1 hz2 rfl (by decide) v l.length (cflat l) hown ad m.length c (cflat m) (cflat_length m) hcells cflat_one (by unfold maxLen; omega) (by omega) hbase
    refine ⟨v', w', hrun, ?_, h3⟩
    unfold OwnC
    rw [List.length_append, cflat_append]
    exact h2
theorem wpList_append_ce {ops : Array Oper} {rest : List Oper} {o : Oper} {a : Act} {w : World} {Q : Exit → Act → World → Prop} (hw : Region.wanted o (yielded ops a.tmps) = true) (s x : Operand)
    (ho : o.op = .call { callee := .builtin .append, args := #[s, x], argTypes := #[37, 37] }) (base : Nat) (v xv : Value) (l m : List Ce)
    (hs : a.eval s = v) (hown : OwnC w base v l) (hxe : a.eval x = xv) (hx : CeRow w xv m) (hb : l.length + m.length ≤ 1000000) (hbase : base ≤ w.heap.size)
    (h : ∀ v' w', OwnC w' base v' (l ++ m) → w.grownBy w' v.ownBlock → wpList Tryd.prog ops Q rest (a.put o.dst v') w') : wpList Tryd.prog ops Q (o :: rest) a w := by
  obtain ⟨v', w', hrun, h2, h3⟩ := run_append_ce w base v xv l m hown hx o.type hb hbase
  simp only [wpList, hw, if_true]
  left
  unfold Oper.wp
  simp [execOp, ho, resolve, invoke, builtin, hs, hxe, hrun, Result.andThen]
  exact h v' w' h2 h3

def ClonePost (W : World) (l : List Ce) (e : Ending) (w' : World) : Prop := ∃ v, e = .returned v ∧ CSl w' W.heap.size v l ∧ Below W.heap.size W w'
def MendPost (W : World) (base : Nat) (v : Value) (l : List Ce) (e : Ending) (w' : World) : Prop := e = .returned (.tuple #[]) ∧ CSl w' base v l ∧ Below base W w'
def LinePost (W : World) (l : List Ce) (soft : Bool) (e : Ending) (w' : World) : Prop := ∃ v, e = .returned (.agg #[v, .bool soft]) ∧ CSl w' W.heap.size v l ∧ Below W.heap.size W w'
end Go.Proofs.YteebbmmgbjpihaaDoor

namespace Go.Proofs.YteebbmmgbjpihaaDoor
open Go.RowKit

def LnV := Ln × Value
/-- The cells of each line are there. -/
def CesOf (W : World) (lv : List (Ln × Value)) : Prop := ∀ e ∈ lv, CeRow W e.2 e.1.cs
theorem CesOf.below {W W' : World} {lv : List (Ln × Value)} (h : CesOf W lv) (hb : Below W.heap.size W W') : CesOf W' lv := fun e he => (h e he).below hb
/-- A slice that reads as these lines. -/
def LR (W : World) (v : Value) (lv : List (Ln × Value)) : Prop :=
  ∃ A c, v = .slice A lv.length c ∧ lv.length ≤ c ∧ (lv ≠ [] → ∃ g o, A = some ⟨g, o, none⟩ ∧ g < W.heap.size ∧ ∀ j e, lv[j]? = some e → W.cell? ⟨g, o + j * 2, none⟩ = some e.2 ∧ W.cell? ⟨g, o + j * 2 + 1, none⟩ = some (.bool e.1.soft))
theorem LR.below {W W' : World} {v : Value} {l : List (Ln × Value)} (h : LR W v l) (hb : Below W.heap.size W W') : LR W' v l := by
  obtain ⟨A, c, rfl, hc, hl⟩ := h
  refine ⟨A, c, rfl, hc, fun hn => ?_⟩
  obtain ⟨g, o, hA, hg, hc⟩ := hl hn
  exact ⟨g, o, hA, Nat.lt_of_lt_of_le hg hb.size, fun j e he => ⟨(hb.cell (p := ⟨g, o + j * 2, none⟩) hg).trans (hc j e he).1, (hb.cell (p := ⟨g, o + j * 2 + 1, none⟩) hg).trans (hc j e he).2⟩⟩
theorem LR.spell {W : World} {v : Value} {l : List (Ln × Value)} (h : LR W v l) : ∃ A c, v = .slice A l.length c := by
  obtain ⟨A, c, e, _⟩ := h
  exact ⟨A, c, e⟩
theorem LR.nil (W : World) (A : Option Addr) (c : Nat) : LR W (.slice A 0 c) [] := ⟨A, c, rfl, Nat.zero_le _, fun h => absurd rfl h⟩

/-- A block of the call's own that holds these lines. -/
def LBox (W : World) (g : Nat) (l : List (Ln × Value)) (cap : Nat) : Prop :=
  ∃ cur : Array Value, Box W g 39 cur ∧ cur.size = cap * 2 ∧ l.length ≤ cap ∧ ∀ j e, l[j]? = some e → cur[j * 2]? = some e.2 ∧ cur[j * 2 + 1]? = some (.bool e.1.soft)
theorem LBox.lt {W : World} {g cap : Nat} {l : List (Ln × Value)} (h : LBox W g l cap) : g < W.heap.size := by obtain ⟨cur, hb, _⟩ := h; exact hb.lt
theorem LBox.len {W : World} {g cap : Nat} {l : List (Ln × Value)} (h : LBox W g l cap) : l.length ≤ cap := by obtain ⟨cur, _, _, hl, _⟩ := h; exact hl
theorem LBox.two {W : World} {g cap : Nat} {l : List (Ln × Value)} (h : LBox W g l cap) {j : Nat} {e : Ln × Value} (hj : l[j]? = some e) :
    (W.cell? ⟨g, j * 2, none⟩ = some e.2 ∧ W.cell? ⟨g, j * 2 + 1, none⟩ = some (.bool e.1.soft)) ∧ (W.frozen? ⟨g, j * 2, none⟩ = false ∧ W.frozen? ⟨g, j * 2 + 1, none⟩ = false) := by
  obtain ⟨cur, hb, _, _, hc⟩ := h
  exact ⟨⟨by rw [hb.cell]; exact (hc j e hj).1, by rw [hb.cell]; exact (hc j e hj).2⟩, hb.free _, hb.free _⟩
theorem LBox.below {W W' : World} {g cap B : Nat} {l : List (Ln × Value)} (h : LBox W g l cap) (hb : Below B W W') (hB : g < B) : LBox W' g l cap := by
  obtain ⟨cur, h1, h2⟩ := h
  exact ⟨cur, h1.below hb hB, h2⟩
theorem LBox.only {W W' : World} {g cap b : Nat} {l : List (Ln × Value)} (h : LBox W g l cap) (hb : Only b W W') (hne : g ≠ b) : LBox W' g l cap := by
  obtain ⟨cur, h1, h2⟩ := h
  exact ⟨cur, h1.only hb hne, h2⟩
theorem LBox.row {W : World} {g cap : Nat} {l : List (Ln × Value)} (h : LBox W g l cap) : LR W (.slice (some ⟨g, 0, none⟩) l.length cap) l :=
  ⟨_, _, rfl, h.len, fun _ => ⟨g, 0, rfl, h.lt, fun j e he => by rw [Nat.zero_add]; exact (h.two he).1⟩⟩
/-- One line of it stored. -/
theorem LBox.set2 {W : World} {g cap : Nat} {l : List (Ln × Value)} (h : LBox W g l cap) {k : Nat} (hk : k < l.length) (e : Ln × Value) :
    LBox ((W.setCell ⟨g, k * 2, none⟩ e.2).setCell ⟨g, k * 2 + 1, none⟩ (.bool e.1.soft)) g (l.set k e) cap := by
  obtain ⟨cur, hb, hs, hl, hc⟩ := h
  refine ⟨_, (hb.set (i := k * 2) _).set (i := k * 2 + 1) _, by simp [hs], by rw [List.length_set]; exact hl, ?_⟩
  intro j e' hj
  simp only [Array.getElem?_setIfInBounds, Array.size_setIfInBounds]
  by_cases hjk : j = k
  · subst hjk
    rw [List.getElem?_set_self hk] at hj
    cases hj
    refine ⟨?_, ?_⟩
    · rw [if_neg (by omega), if_pos rfl, if_pos (by omega)]
    · rw [if_pos rfl, if_pos (by omega)]
  · rw [List.getElem?_set_ne (Ne.symm hjk)] at hj
    have := hc j e' hj
    refine ⟨?_, ?_⟩
    · rw [if_neg (by omega), if_neg (by omega)]; exact this.1
    · rw [if_neg (by omega), if_neg (by omega)]; exact this.2

def lflat : List (Ln × Value) → List Value
  | [] => []
  | e :: l => [e.2, .bool e.1.soft] ++ lflat l
theorem lflat_length : ∀ l, (lflat l).length = l.length * 2
  | [] => rfl
  | e :: l => by rw [lflat, List.length_append, lflat_length l]; simp; omega
theorem lflat_append : ∀ a b, lflat (a ++ b) = lflat a ++ lflat b
  | [], _ => rfl
  | e :: a, b => by rw [List.cons_append, lflat, lflat, lflat_append a b, List.append_assoc]
theorem lflat_at : ∀ (l : List (Ln × Value)) (j : Nat) (e : Ln × Value), l[j]? = some e → (lflat l)[j * 2]? = some e.2 ∧ (lflat l)[j * 2 + 1]? = some (.bool e.1.soft)
  | [], _, _, h => by simp at h
  | x :: l, 0, e, h => by
    simp at h
    subst h
    exact ⟨rfl, rfl⟩
  | x :: l, j + 1, e, h => by
    have := lflat_at l j e (by simpa using h)
    rw [lflat, show (j + 1) * 2 = j * 2 + 1 + 1 by omega]
    exact this
theorem lflat_inv : ∀ (l : List (Ln × Value)) (q : Nat) (u : Value), (lflat l)[q]? = some u → ∃ e, l[q / 2]? = some e ∧ ((q % 2 = 0 ∧ u = e.2) ∨ (q % 2 = 1 ∧ u = .bool e.1.soft))
  | [], _, _, h => by simp [lflat] at h
  | x :: l, 0, u, h => by simp [lflat] at h; exact ⟨x, rfl, .inl ⟨rfl, h.symm⟩⟩
  | x :: l, 1, u, h => by simp [lflat] at h; exact ⟨x, rfl, .inr ⟨rfl, h.symm⟩⟩
  | x :: l, q + 2, u, h => by
    have h' : (lflat l)[q]? = some u := by simpa [lflat] using h
    obtain ⟨e, h1, h2⟩ := lflat_inv l q u h'
    refine ⟨e, ?_, ?_⟩
    · rw [show (q + 2) / 2 = q / 2 + 1 by omega]; simpa using h1
    · rwa [show (q + 2) % 2 = q % 2 by omega]
/-- A slice of the call's own that holds these lines. -/
def OwnL (W : World) (base : Nat) (v : Value) (l : List (Ln × Value)) : Prop := W.ownsRow base 39 2 v l.length (lflat l)
theorem ln_info : (Tryd.prog.info? 39).map (fun i => (i.zero, i.size, i.bytes)) = some (some (.agg #[.slice none 0 0, .bool false]), 2, 32) := by kernel_rfl
theorem OwnL.spell {W : World} {base : Nat} {v : Value} {l : List (Ln × Value)} (h : OwnL W base v l) : ∃ A c, v = .slice A l.length c := by
  rcases h.2 with ⟨rfl, h0⟩ | ⟨g, cap, cur, rfl, _⟩
  · exact ⟨_, _, by rw [h0]⟩
  · exact ⟨_, _, rfl⟩
theorem OwnL.nil (W : World) (base : Nat) : OwnL W base (.slice none 0 0) [] := ⟨rfl, .inl ⟨rfl, rfl⟩⟩
theorem OwnL.kept {W W' : World} {base : Nat} {v : Value} {l : List (Ln × Value)} (h : OwnL W base v l) (hb : Below W.heap.size W W') : OwnL W' base v l :=
  World.ownsRow.kept h ⟨hb.os, hb.tape, hb.output, hb.size, fun k hk _ => hb.block k hk⟩ (row := none) (by cases v.ownBlock <;> simp)
theorem OwnL.not_box {W : World} {base b : Nat} {t : TypeId} {cs : Array Value} {v : Value} {l : List (Ln × Value)} (h : OwnL W base v l) (hb : Box W b t cs) (ht : t ≠ 39) : some b ≠ v.ownBlock := by
  rcases h.2 with ⟨rfl, _⟩ | ⟨g, cap, cur, rfl, _, hg, _⟩
  · simp [Value.ownBlock]
  · simp only [Value.ownBlock, ne_eq, Option.some.injEq]
    rintro rfl
    have hb' : W.heap[b]? = some (.cells cs t (0, 0)) := hb
    rw [hg] at hb'
    cases hb'
    exact ht rfl
theorem OwnL.set {W : World} {base b i : Nat} {t : TypeId} {cs : Array Value} {v : Value} {l : List (Ln × Value)} (h : OwnL W base v l) (hb : Box W b t cs) (ht : t ≠ 39) (u : Value) : OwnL (W.setCell ⟨b, i, none⟩ u) base v l :=
  World.ownsRow.kept h (row := some b) ⟨rfl, rfl, rfl, by simp [World.setCell], fun k _ hk => Below.heap_setCell _ _ _ _ (fun e => hk (by rw [e]))⟩ (.inr (h.not_box hb ht).symm)
theorem OwnL.lit {W : World} {base : Nat} (l : List (Ln × Value)) (hl : l.length ≤ 1000) (hb : base ≤ W.heap.size) : OwnL (W.alloc (.cells (lflat l).toArray 39)) base (.slice (some ⟨W.heap.size, 0, none⟩) l.length l.length) l := by
  have h := World.ownsRow_lit (base := base) (e := 39) (size := 2) W (lflat l).toArray l.length hb (by unfold maxLen; omega) (by simp [lflat_length])
  unfold OwnL
  simpa using h
/-- A slice that nothing else reaches. -/
def LSl (W : World) (base : Nat) (v : Value) (l : List (Ln × Value)) : Prop :=
  (l = [] ∧ v = .slice none 0 0) ∨ ∃ g cap, v = .slice (some ⟨g, 0, none⟩) l.length cap ∧ base ≤ g ∧ LBox W g l cap
theorem OwnL.lsl {W : World} {base : Nat} {v : Value} {l : List (Ln × Value)} (h : OwnL W base v l) : LSl W base v l := by
  rcases h.2 with ⟨rfl, h0⟩ | ⟨g, cap, cur, rfl, hb, hg, hn, _, hs, ht⟩
  · exact .inl ⟨List.length_eq_zero_iff.1 h0, rfl⟩
  · refine .inr ⟨g, cap, rfl, hb, cur, hg, hs, hn, fun j e hj => ?_⟩
    obtain ⟨h1, h2⟩ := lflat_at l j e hj
    have hj' : j < l.length := (List.getElem?_eq_some_iff.1 hj).1
    rw [← ht, List.getElem?_take, if_pos (by omega)] at h1 h2
    exact ⟨by simpa using h1, by simpa using h2⟩
theorem LSl.row {W : World} {base : Nat} {v : Value} {l : List (Ln × Value)} (h : LSl W base v l) : LR W v l := by
  rcases h with ⟨rfl, rfl⟩ | ⟨g, cap, rfl, _, hc⟩
  · exact LR.nil _ _ _
  · exact hc.row
theorem LSl.below {W W' : World} {base B : Nat} {v : Value} {l : List (Ln × Value)} (h : LSl W base v l) (hb : Below B W W') (hB : W.heap.size ≤ B) : LSl W' base v l := by
  rcases h with h | ⟨g, cap, rfl, h1, hc⟩
  · exact .inl h
  · exact .inr ⟨g, cap, rfl, h1, hc.below hb (Nat.lt_of_lt_of_le hc.lt hB)⟩
theorem LSl.spell {W : World} {base : Nat} {v : Value} {l : List (Ln × Value)} (h : LSl W base v l) : ∃ A c, v = .slice A l.length c := h.row.spell

theorem LSl.set {W : World} {base b i : Nat} {t : TypeId} {cs : Array Value} {v : Value} {l : List (Ln × Value)} (h : LSl W base v l) (hb : Box W b t cs) (ht : t ≠ 39) (u : Value) : LSl (W.setCell ⟨b, i, none⟩ u) base v l := by
  rcases h with h | ⟨g, cap, rfl, h1, cur, hg, h2⟩
  · exact .inl h
  · refine .inr ⟨g, cap, rfl, h1, cur, hg.other ?_ u, h2⟩
    rintro rfl
    have hb' : W.heap[g]? = some (.cells cs t (0, 0)) := hb
    have hg' : W.heap[g]? = some (.cells cur 39 (0, 0)) := hg
    rw [hg'] at hb'
    cases hb'
    exact ht rfl
theorem LSl.mono {W : World} {base base' : Nat} {v : Value} {l : List (Ln × Value)} (h : LSl W base v l) (hb : base' ≤ base) : LSl W base' v l := by
  rcases h with h | ⟨g, cap, rfl, h1, hc⟩
  · exact .inl h
  · exact .inr ⟨g, cap, rfl, Nat.le_trans hb h1, hc⟩
/-- Each line is one of these, or its cells are the call's own. -/
def NewOf (W : World) (base : Nat) (lv lv' : List (Ln × Value)) : Prop := ∀ x ∈ lv', x ∈ lv ∨ CSl W base x.2 x.1.cs
theorem NewOf.set {W : World} {base b i : Nat} {t : TypeId} {cs : Array Value} {lv lv' : List (Ln × Value)} (h : NewOf W base lv lv') (hb : Box W b t cs) (ht : t ≠ 44) (u : Value) : NewOf (W.setCell ⟨b, i, none⟩ u) base lv lv' :=
  fun x hx => (h x hx).imp id fun h => h.set hb ht u
theorem NewOf.below {W W' : World} {base B : Nat} {lv lv' : List (Ln × Value)} (h : NewOf W base lv lv') (hb : Below B W W') (hB : W.heap.size ≤ B) : NewOf W' base lv lv' := fun x hx => (h x hx).imp id fun h => h.below hb hB
theorem NewOf.mono {W : World} {base base' : Nat} {lv lv' : List (Ln × Value)} (h : NewOf W base lv lv') (hb : base' ≤ base) : NewOf W base' lv lv' := fun x hx => (h x hx).imp id fun h => h.mono hb
theorem NewOf.ces {W : World} {base : Nat} {lv lv' : List (Ln × Value)} (h : NewOf W base lv lv') (hc : CesOf W lv) : CesOf W lv' := fun x hx => (h x hx).elim (hc x) fun h => h.row
/-- Boxes that lie there. -/
def Bxs (W : World) (l : List (Nat × TypeId × Array Value)) : Prop := ∀ x ∈ l, Box W x.1 x.2.1 x.2.2
theorem Bxs.below {W W' : World} {l : List (Nat × TypeId × Array Value)} (h : Bxs W l) (hb : Below W.heap.size W W') : Bxs W' l := fun x hx => (h x hx).below hb (h x hx).lt
theorem Bxs.get {W : World} {l : List (Nat × TypeId × Array Value)} (h : Bxs W l) (i : Nat) {x : Nat × TypeId × Array Value} (hi : l[i]? = some x) : Box W x.1 x.2.1 x.2.2 := h x (List.mem_of_getElem? hi)
theorem Bxs.alloc {W : World} {l : List (Nat × TypeId × Array Value)} (h : Bxs W l) (t : TypeId) (cs : Array Value) : Bxs (W.alloc (.cells cs t)) (l ++ [(W.heap.size, t, cs)]) := by
  intro x hx
  rw [List.mem_append, List.mem_singleton] at hx
  rcases hx with hx | rfl
  · exact (h x hx).alloc _
  · exact Box.new W t cs
theorem Bxs.nil (W : World) : Bxs W [] := fun _ h => by simp at h

theorem cesOf_one {W : World} {l : List (Ln × Value)} (h : CesOf W l) : ∀ u ∈ lflat l, u.oneCell' = true := by
  intro u hu
  obtain ⟨q, hq⟩ := List.mem_iff_getElem?.1 hu
  obtain ⟨e, h1, h2⟩ := lflat_inv l q u hq
  rcases h2 with ⟨_, rfl⟩ | ⟨_, rfl⟩
  · obtain ⟨A, c, he⟩ := (h e (List.mem_of_getElem? h1)).spell
    rw [he]; rfl
  · rfl
/-- Lines that lie elsewhere, appended to a row of the call's own. -/
theorem run_append_ln (w : World) (base : Nat) (v x : Value) (l m : List (Ln × Value)) (hown : OwnL w base v l) (hx : LR w x m) (hm : CesOf w m) (ty : TypeId) (hb : l.length + m.length ≤ 1000000) (hbase : base ≤ w.heap.size) :
    ∃ v' w', (Builtin.append_ #[22, 22] ty #[v, x]).run Tryd.prog w = .ok v' w' ∧ OwnL w' base v' (l ++ m) ∧ w.grownBy w' v.ownBlock := by
  obtain ⟨i0, hi, hz0, hz1, hz2⟩ := info_parts ln_info
  obtain ⟨A, c, rfl, _, hl⟩ := hx
  rcases A with _ | ad
  · have hm : m = [] := by
      apply Classical.byContradiction
      intro hne
      obtain ⟨g, o, h, _⟩ := hl hne
      cases h
    subst hm
    refine ⟨v, w, ?_, by simpa using hown, World.grownBy.refl w _⟩
    have ht := Tryd.underlying22
    rcases hown.2 with ⟨rfl, _⟩ | ⟨g, cap, cur, rfl, _, _, hnc, _⟩
    · simp [Builtin.append_, run_underlying ht, typeInfo, hi, Builtin.lenOf, Builtin.firstCells]
    · simp [Builtin.append_, run_underlying ht, typeInfo, hi, Builtin.lenOf, Builtin.firstCells, hnc, storeCells]
  · have hcells : ∀ j u, (lflat m)[j]? = some u → w.cell? (ad.add j) = some u := by
      intro j u hu
      obtain ⟨e, h1, h2⟩ := lflat_inv m j u hu
      obtain ⟨g, o, h, _, hc⟩ := hl (by intro h; rw [h] at h1; simp at h1)
      cases h
      rw [addr_add]
      have := hc (j / 2) e h1
      rcases h2 with ⟨h3, rfl⟩ | ⟨h3, rfl⟩
      · have := this.1
        rwa [show o + j / 2 * 2 = o + j by omega] at this
      · have := this.2
        rwa [show o + j / 2 * 2 + 1 = o + j by omega] at this
    obtain ⟨v', w', hrun, h2, h3, _⟩ := run_append_own (P := Tryd.prog) w base 22 ty 39 i0 _ 2 32 Tryd.underlying22 hi hz0 hz1 hz2 rfl (by decide) v l.length (lflat l) hown ad m.length c (lflat m) (lflat_length m) hcells (cesOf_one hm) (by unfold maxLen; omega) (by omega) hbase
    refine ⟨v', w', hrun, ?_, h3⟩
    unfold OwnL
    rw [List.length_append, lflat_append]
    exact h2
theorem wpList_append_ln {ops : Array Oper} {rest : List Oper} {o : Oper} {a : Act} {w : World} {Q : Exit → Act → World → Prop} (hw : Region.wanted o (yielded ops a.tmps) = true) (s x : Operand)
    (ho : o.op = .call { callee := .builtin .append, args := #[s, x], argTypes := #[22, 22] }) (base : Nat) (v xv : Value) (l m : List (Ln × Value))
    (hs : a.eval s = v) (hown : OwnL w base v l) (hxe : a.eval x = xv) (hx : LR w xv m) (hm : CesOf w m) (hb : l.length + m.length ≤ 1000000) (hbase : base ≤ w.heap.size)
    (h : ∀ v' w', OwnL w' base v' (l ++ m) → w.grownBy w' v.ownBlock → wpList Tryd.prog ops Q rest (a.put o.dst v') w') : wpList Tryd.prog ops Q (o :: rest) a w := by
  obtain ⟨v', w', hrun, h2, h3⟩ := run_append_ln w base v xv l m hown hx hm o.type hb hbase
  simp only [wpList, hw, if_true]
  left
  unfold Oper.wp
  simp [execOp, ho, resolve, invoke, builtin, hs, hxe, hrun, Result.andThen]
  exact h v' w' h2 h3

def LClonePost (W : World) (l : List (Ln × Value)) (e : Ending) (w' : World) : Prop := ∃ v, e = .returned v ∧ LSl w' W.heap.size v l ∧ Below W.heap.size W w'
end Go.Proofs.YteebbmmgbjpihaaDoor

namespace Go.Proofs.YteebbmmgbjpihaaDoor
open Go.RowKit

def FitRel (l : List Ce) (k : Nat) : Prop :=
  ∃ done rest : List Ce, done.length = k ∧ done ++ rest = l ∧ (rightsL l && wholeL 1 l) = (rightsL rest && wholeL (lastW done) rest)
theorem FitRel.start (l : List Ce) : FitRel l 0 := ⟨[], l, rfl, rfl, rfl⟩
theorem FitRel.stop {l : List Ce} (h : FitRel l l.length) : (rightsL l && wholeL 1 l) = true := by
  obtain ⟨done, rest, h1, h2, h3⟩ := h
  have : rest = [] := by
    have := congrArg List.length h2
    rw [List.length_append] at this
    exact List.length_eq_zero_iff.1 (by omega)
  subst this
  rw [h3]
  rfl
theorem FitRel.step {l : List Ce} {k : Nat} (h : FitRel l k) (hk : k < l.length) :
    (rightB l[k] = false → (rightsL l && wholeL 1 l) = false) ∧ (halfB l k = true → (rightsL l && wholeL 1 l) = false) ∧ (rightB l[k] = true → halfB l k = false → FitRel l (k + 1)) := by
  obtain ⟨done, rest, h1, h2, h3⟩ := h
  subst h2
  cases rest with
  | nil => simp at hk; omega
  | cons c r =>
    have hc : (done ++ c :: r)[k] = c := by simp [← h1]
    have hh : halfB (done ++ c :: r) k = hf (lastW done) c r := by rw [← h1]; exact half_at done c r
    rw [hc, hh]
    rw [rights_cons, whole_step] at h3
    refine ⟨fun h => ?_, fun h => ?_, fun h h' => ?_⟩
    · rw [h3, h]; rfl
    · rw [h3, h]; simp
    · refine ⟨done ++ [c], r, by simp [h1], by simp, ?_⟩
      rw [h3, h, h']; rfl

set_option maxRecDepth 100000 in
set_option maxHeartbeats 1000000 in
theorem pFits_any (cols : Int) (v : Value) (l : List Ce) (soft : Bool) (W : World) (hr : CeRow W v l) (ht : ∀ c ∈ l, c.tx.size ≤ 1000) (hn : l.length ≤ 1000000) (hT : Tab W) (hW : TabW W) :
    Calls Tryd.prog 76 #[.agg #[v, .bool soft], .int .i64 cols] W fun e w' => e = .returned (.bool (fitsB cols l)) ∧ Below W.heap.size W w' := by
  have hB := Box.new W 39 #[v, .bool soft]
  have hbel : Below W.heap.size W (W.alloc (.cells #[v, .bool soft] 39)) := below_alloc _ _
  obtain ⟨A, c0, rfl⟩ := hr.spell
  have hF : fitsB cols l = (decide ((l.length : Int) = cols) && (rightsL l && wholeL 1 l)) := rfl
  by_cases hlen : (l.length : Int) = cols
  · rw [decide_eq_true hlen, Bool.true_and] at hF
    have HF := hid hF
    have HF' := hid hF
    have HN := hid hn
    have HB := hid hB
    have HBL := hid hbel
    have hq : ((l.length : Int) != cols) = false := by simp [hlen]
    obtain ⟨n, hnl⟩ : ∃ n, l.length = n := ⟨_, rfl⟩
    have HL := hid hnl
    rw [hnl] at hq hB hbel hn HB HBL
    rw [hnl]
    clear hF hnl hlen hbel hB
    go_enter Tryd.func76, Tryd.ntmps76
    go_wp2
    go_loopw [15] (fun i wr => ∃ k : Nat, k ≤ n ∧ i = .int .i64 k ∧ Box wr W.heap.size 39 #[.slice A n c0, .bool soft] ∧ Below W.heap.size W wr ∧ FitRel l k) (fun i _ => n - (intOf i).toNat)
    case atStart => exact ⟨0, by omega, rfl, HB.out, HBL.out, FitRel.start l⟩
    case round =>
      obtain ⟨k, hk, rfl, hb, hbl, hrel'⟩ := hrel
      have HREL := hid hrel'
      clear hrel'
      by_cases hlt : k < n
      · have hki : (k : Int) < n := by omega
        have hkl : k < l.length := by rw [HL.out]; exact hlt
        obtain ⟨s1, s2, s3⟩ := HREL.out.step hkl
        have hx := List.getElem?_eq_getElem hkl
        have htx := ht l[k] (List.getElem_mem _)
        have hrb := hr.below hbl
        have hrb' := hrb
        obtain ⟨A', c', hA', _, hcell⟩ := hrb'
        cases hA'
        obtain ⟨g, o, rfl, hg, hcell⟩ := hcell (by intro e; subst e; simp at hkl)
        obtain ⟨p0, p1, p2, p3, p4⟩ := ccells (W := wr) (g := g) (o := o + k * 5) (e := l[k]) (fun i u hu => hcell k l[k] hx i u hu)
        have hri := right_any l[k] (wr.alloc (.cells l[k].cells 44)) (by unfold maxLen; omega) (hT.below (hbl.alloc hbl.size _)) (hW.below (hbl.alloc hbl.size _))
        have hcb := fun W2 (hb2 : Below (wr.alloc (.cells l[k].cells 44)).heap.size (wr.alloc (.cells l[k].cells 44)) W2) => cut_any _ l k W2 (hrb.below (Below.behind hb2)) hkl HN.out
        rw [HL.out] at hcb
        have hbx := Box.new wr 44 l[k].cells
        have HRB := hid hrb
        generalize l[k] = x at *
        obtain ⟨tx, wd, fg, bg, fl⟩ := x
        unfold Ce.agg Ce.cells at *
        simp only at *
        have HX := hid hbx
        obtain ⟨⟨a0, a1, a2, a3, a4⟩, _⟩ := hbx.five
        have hb1 := hb.below (below_alloc wr (.cells #[.string tx, .int .i64 wd, .int .i64 fg, .int .i64 bg, .int .i64 fl] 44)) hb.lt
        have hbl1 := hbl.alloc hbl.size (.cells #[.string tx, .int .i64 wd, .int .i64 fg, .int .i64 bg, .int .i64 fl] 44)
        have HB1 := hid hb1
        have HBL1 := hid hbl1
        have HXS := hid hx
        have HHC := hid hcell
        clear hbx hb1 hbl1 hx hcell hrb HF
        have hblt := hb.lt
        cases h1 : rightB ⟨tx, wd, fg, bg, fl⟩
        · have HE : Hid (fitsB cols l = false) := by unfold Hid; rw [show fitsB cols l = (rightsL l && wholeL 1 l) from HF'.out]; exact s1 h1
          rw [h1] at hri
          clear s1 s2 s3 h1 hcb
          go_wp2_with fail
          with_reducible refine hri.mono ?_
          rintro e w2 ⟨rfl, hb2⟩
          dsimp only
          go_wp2
          go_ret
          exact ⟨ret_bool HE.out.symm, HBL1.out.trans (hb2.mono HBL1.out.size)⟩
        · rw [h1] at hri
          cases h2 : halfB l k
          · have HE := hid (s3 h1 h2)
            rw [h2] at hcb
            clear s1 s2 s3 h1 h2
            go_wp2_with fail
            with_reducible refine hri.mono ?_
            rintro e w2 ⟨rfl, hb2⟩
            dsimp only
            have d1 := HB1.out.below hb2 (by simp <;> omega)
            obtain ⟨⟨c0, c1⟩, f0, f1⟩ := d1.two
            go_wp2_with fail
            with_reducible refine (hcb _ hb2).mono ?_
            rintro e w3 ⟨rfl, rfl⟩
            dsimp only
            go_wp2
            go_roundw
            case rel => exact ⟨k + 1, by omega, by go_num, d1, HBL1.out.trans (hb2.mono HBL1.out.size), HE.out⟩
            case measure => simp [intOf]; omega
          · have HE : Hid (fitsB cols l = false) := by unfold Hid; rw [show fitsB cols l = (rightsL l && wholeL 1 l) from HF'.out]; exact s2 h2
            rw [h2] at hcb
            clear s1 s2 s3 h1 h2
            go_wp2_with fail
            with_reducible refine hri.mono ?_
            rintro e w2 ⟨rfl, hb2⟩
            dsimp only
            have d1 := HB1.out.below hb2 (by simp <;> omega)
            obtain ⟨⟨c0, c1⟩, f0, f1⟩ := d1.two
            go_wp2_with fail
            with_reducible refine (hcb _ hb2).mono ?_
            rintro e w3 ⟨rfl, rfl⟩
            dsimp only
            go_wp2
            go_ret
            exact ⟨ret_bool HE.out.symm, HBL1.out.trans (hb2.mono HBL1.out.size)⟩
      · have hkm : k = n := by omega
        subst hkm
        have HE : Hid (fitsB cols l = true) := by
          have h := HREL.out
          rw [← HL.out] at h
          unfold Hid
          rw [HF.out]
          exact h.stop
        go_wp2
        go_ret
        exact ⟨ret_bool HE.out.symm, hbl⟩
  · rw [decide_eq_false hlen, Bool.false_and] at hF
    have HF := hid hF
    have hq : ((l.length : Int) != cols) = true := by simp [hlen]
    generalize l.length = n at *
    clear hF hlen ht hr hn
    go_enter Tryd.func76, Tryd.ntmps76
    go_wp2
    go_ret
    exact ⟨ret_bool HF.out.symm, hbel⟩
end Go.Proofs.YteebbmmgbjpihaaDoor

namespace Go.Proofs.YteebbmmgbjpihaaDoor
open Go.RowKit

def sizeB (cols rows : Int) : Bool := decide (1 ≤ cols ∧ cols ≤ 80) && decide (1 ≤ rows ∧ rows ≤ 50)
theorem sizeB_t {cols rows : Int} (h : (1 ≤ cols ∧ cols ≤ 80) ∧ 1 ≤ rows ∧ rows ≤ 50) : sizeB cols rows = true := by
  unfold sizeB
  rw [decide_eq_true h.1, decide_eq_true h.2]; rfl
theorem sizeB_f {cols rows : Int} (h : ¬ ((1 ≤ cols ∧ cols ≤ 80) ∧ 1 ≤ rows ∧ rows ≤ 50)) : sizeB cols rows = false := by
  unfold sizeB
  by_cases h1 : 1 ≤ cols ∧ cols ≤ 80
  · rw [decide_eq_false (fun h2 => h ⟨h1, h2⟩), Bool.and_false]
  · rw [decide_eq_false h1, Bool.false_and]
theorem rightG_size (g : Gd) : rightG g = (sizeB g.cols g.ls.length && g.ls.all fun l => fitsB g.cols l.cs) := by
  unfold rightG sizeB
  rw [Bool.and_assoc]
  congr 2
  exact decide_eq_decide.2 (by omega)
def rowB (row : Int) (n : Nat) : Bool := decide (0 ≤ row ∧ row < n)
def colB (col cols : Int) : Bool := decide (0 ≤ col ∧ col < cols)
/-- Small enough to be worked with. -/
def Sm (lv : List (Ln × Value)) : Prop := lv.length ≤ 1000 ∧ ∀ e ∈ lv, e.1.cs.length ≤ 1000 ∧ ∀ c ∈ e.1.cs, c.tx.size ≤ 1000
def allB (cols : Int) (lv : List (Ln × Value)) : Bool := lv.all fun e => fitsB cols e.1.cs
theorem allB_stop {cols : Int} {lv : List (Ln × Value)} (h : allB cols (lv.take lv.length) = true) : allB cols lv = true := by rwa [List.take_length] at h
theorem allB_step {cols : Int} {lv : List (Ln × Value)} {k : Nat} {e : Ln × Value} (h : allB cols (lv.take k) = true) (he : lv[k]? = some e) (hf : fitsB cols e.1.cs = true) : allB cols (lv.take (k + 1)) = true := by
  obtain ⟨hk, rfl⟩ := List.getElem?_eq_some_iff.1 he
  rw [List.take_succ_eq_append_getElem hk]
  unfold allB at *
  rw [List.all_append, h]
  simp [hf]
theorem allB_no {cols : Int} {lv : List (Ln × Value)} {k : Nat} {e : Ln × Value} (he : lv[k]? = some e) (hf : fitsB cols e.1.cs = false) : allB cols lv = false := by
  unfold allB
  rw [List.all_eq_false]
  exact ⟨e, List.mem_of_getElem? he, by simp [hf]⟩

end Go.Proofs.YteebbmmgbjpihaaDoor

namespace Go.Proofs.YteebbmmgbjpihaaDoor
open Go.RowKit

/-- What a closure does with a line that it is handed: the line lies in a box, its cells in a block of their own behind it. -/
def Chg (K : Nat) (caps : Array Value) (B : Nat) (w : World) (cs cs' : List Ce) (soft soft' : Bool) : Prop :=
  (∀ (args : Array Value) (W : World), Sem.run Tryd.prog (callFunc K args) W = .ok (.enter K args) W) ∧ ∀ (W : World) (b : Nat) (v : Value), Below B w W → B ≤ b → Box W b 39 #[v, .bool soft] → CSl W (b + 1) v cs →
    Calls Tryd.prog K (#[.pointer (some ⟨b, 0, none⟩)] ++ caps) W fun e w' => e = .returned (.tuple #[]) ∧ (∃ v', Box w' b 39 #[v', .bool soft'] ∧ CSl w' (b + 1) v' cs') ∧ Below b W w'

def ChgPost (W : World) (cols : Int) (lv : List (Ln × Value)) (ls : List Ln) (e : Ending) (w' : World) : Prop :=
  ∃ v lv', e = .returned (.agg #[.int .i64 cols, v]) ∧ lv'.map Prod.fst = ls ∧ LSl w' W.heap.size v lv' ∧ NewOf w' W.heap.size lv lv' ∧ Below W.heap.size W w'

end Go.Proofs.YteebbmmgbjpihaaDoor
