/- Layer 12, the package: rows. Made by wip/gen/presetK.py. -/
import Derived.Test.YtglfolbimafcaaaPresetJQ
import Derived.Test.YtglfolbimafcaaaHeldGQ
namespace Go.Proofs.Ytglfolbimafcaaa
open Go.RowKit Go.Shelf
attribute [local go_sem] Oper.semAt_some

theorem tflat_put : ∀ (l : List (Tr × Value)) (j : Nat) (e : Tr × Value), j < l.length → ((((tflat l).set (j * 4) (.int .i64 e.1.kind)).set (j * 4 + 1) (.int .i64 e.1.pane)).set (j * 4 + 2) (.int .i64 e.1.size)).set (j * 4 + 3) e.2 = tflat (l.set j e)
  | [], _, _, h => by simp at h
  | x :: l, 0, e, _ => by simp [tflat, trow]
  | x :: l, j + 1, e, h => by
    have ih := tflat_put l j e (by simpa using h)
    have hx : (trow x).length = 4 := rfl
    have hs : ∀ (r : List Value) (i : Nat) (u : Value), (trow x ++ r).set ((j + 1) * 4 + i) u = trow x ++ r.set (j * 4 + i) u := fun r i u => by
      rw [List.set_append, if_neg (by rw [hx]; omega), hx, show (j + 1) * 4 + i - 4 = j * 4 + i by omega]
    rw [List.set_cons_succ, tflat, tflat]
    have h0 := hs (tflat l) 0 (.int .i64 e.1.kind)
    simp only [Nat.add_zero] at h0
    rw [h0, hs, hs, hs, ih]
/-- A tree of the row is set. -/
theorem OwnT.put {W : World} {base top : Nat} {L : List (Tr × Value)} {g n c j : Nat} (h : OwnT W base top (.slice (some ⟨g, 0, none⟩) n c) L) (hj : j < L.length) (e : Tr × Value) (he : TrB W (Beside base top (.slice (some ⟨g, 0, none⟩) n c)) e.1 e.2) :
    OwnT ((((W.setCell ⟨g, j * 4, none⟩ (.int .i64 e.1.kind)).setCell ⟨g, j * 4 + 1, none⟩ (.int .i64 e.1.pane)).setCell ⟨g, j * 4 + 2, none⟩ (.int .i64 e.1.size)).setCell ⟨g, j * 4 + 3, none⟩ e.2) base top (.slice (some ⟨g, 0, none⟩) n c) (L.set j e) := by
  have hI : Into W ((((W.setCell ⟨g, j * 4, none⟩ (.int .i64 e.1.kind)).setCell ⟨g, j * 4 + 1, none⟩ (.int .i64 e.1.pane)).setCell ⟨g, j * 4 + 2, none⟩ (.int .i64 e.1.size)).setCell ⟨g, j * 4 + 3, none⟩ e.2) (Beside base top (.slice (some ⟨g, 0, none⟩) n c)) (Beside base top (.slice (some ⟨g, 0, none⟩) n c)) := Into.block fun b ⟨⟨h1, h2⟩, h3⟩ => by
    have hne : b ≠ g := fun e => h2 (by rw [e]; rfl)
    exact ⟨⟨⟨h1, h2⟩, h3⟩, by rw [Below.heap_setCell _ _ _ b (by exact hne), Below.heap_setCell _ _ _ b (by exact hne), Below.heap_setCell _ _ _ b (by exact hne), Below.heap_setCell _ _ _ b (by exact hne)]⟩
  refine ⟨?_, fun u hu => ?_⟩
  · obtain ⟨hl, h2⟩ := h.1
    rcases h2 with ⟨h0, _⟩ | ⟨g', cap, cur, hv, hb, hg, hc, hm, hcs, htk⟩
    · cases h0
    · cases hv
      rw [List.length_set, ← tflat_put L j e hj]
      refine ⟨by simp only [List.length_set]; exact hl, .inr ⟨g, c, (((cur.setIfInBounds (j * 4) (.int .i64 e.1.kind)).setIfInBounds (j * 4 + 1) (.int .i64 e.1.pane)).setIfInBounds (j * 4 + 2) (.int .i64 e.1.size)).setIfInBounds (j * 4 + 3) e.2, rfl, hb, ?_, hc, hm, by simpa using hcs, ?_⟩⟩
      · exact (((Box.set (show Box W g 24 cur from hg) _).set _).set _).set _
      · simp only [Array.toList_setIfInBounds, List.take_set, htk]
  · rcases List.mem_or_eq_of_mem_set hu with hu | rfl
    · exact (h.2 u hu).into hI
    · exact he.into hI
theorem OwnT.grown_cells {X Y : World} {base top : Nat} {v : Value} {L : List (Tr × Value)} (h : OwnT X base top v L) {row : Option Nat} (hg : X.grownBy Y row) (hr : ∀ r, row = some r → ∃ o : Obj, X.heap[r]? = some o ∧ o.isCells = false) : OwnT Y base top v L := by
  refine ⟨World.ownsRow.kept h.1 hg ?_, fun e he => (h.2 e he).into fun b hb => ⟨hb, fun i u hu => cell_kept hu hg hr⟩⟩
  rcases h.1.2 with ⟨rfl, _⟩ | ⟨g, cap, cur, rfl, _, hgb, _⟩
  · exact .inl rfl
  · refine .inr fun e => ?_
    obtain ⟨o, ho, hc⟩ := hr g e.symm
    rw [show X.heap[g]? = _ from hgb] at ho
    cases ho
    cases hc
theorem OwnT.other {W : World} {base top b i : Nat} {v : Value} {L : List (Tr × Value)} (h : OwnT W base top v L) (hv : v.ownBlock ≠ some b) (hb : b < base ∨ top ≤ b) (u : Value) : OwnT (W.setCell ⟨b, i, none⟩ u) base top v L := by
  refine ⟨World.ownsRow.kept h.1 (row := some b) ⟨rfl, rfl, rfl, by simp [World.setCell], fun k _ hk => Below.heap_setCell _ _ _ _ (fun e => hk (by rw [e]))⟩ (.inr hv), fun e he => (h.2 e he).into (Into.block fun c ⟨⟨h1, h2⟩, h3⟩ => ⟨⟨⟨h1, h2⟩, h3⟩, Below.heap_setCell W ⟨b, i, none⟩ u c (by show c ≠ b; omega)⟩)⟩
/-- The variables of rows: the size, the answers, the rows so far. -/
structure RwB (W X : World) (w h : Int) (v : Value) (L : List (Tr × Value)) : Prop where
  hb : Below W.heap.size W X
  lt : W.heap.size + 1 + 1 + 1 < X.heap.size
  b0 : Box X W.heap.size 77 #[.int .i64 w, .int .i64 h]
  b1 : Box X (W.heap.size + 1) 24 #[.int .i64 0, .int .i64 0, .int .i64 0, .slice none 0 0]
  b2 : Box X (W.heap.size + 1 + 1) 28 #[.int .i64 0]
  b3 : Box X (W.heap.size + 1 + 1 + 1) 22 #[v]
  ow : OwnT X (W.heap.size + 6) X.heap.size v L
theorem RwB.below {W X Y : World} {w h : Int} {v : Value} {L : List (Tr × Value)} (hx : RwB W X w h v L) (hb : Below X.heap.size X Y) : RwB W Y w h v L := by
  have hl := hx.lt
  exact ⟨hx.hb.trans (hb.mono hx.hb.size), Nat.lt_of_lt_of_le hl hb.size, hx.b0.below hb (by omega), hx.b1.below hb (by omega), hx.b2.below hb (by omega), hx.b3.below hb (by omega), (hx.ow.kept hb (Nat.le_refl _)).mono hb.size⟩
theorem RwB.own {W X Y : World} {w h : Int} {v : Value} {L : List (Tr × Value)} {row : Option Nat} {B : Nat} (hx : RwB W X w h v L) (hB : W.heap.size ≤ B) (hg : X.grownBy Y row) (hr : ∀ r, row = some r → B ≤ r ∧ ∃ o : Obj, X.heap[r]? = some o ∧ o.isCells = false) : RwB W Y w h v L := by
  have k := fun {b : Nat} {t : TypeId} {cs : Array Value} (hb : Box X b t cs) => (grownBy_keeps_cells hg (fun r e => (hr r e).2) hb rfl).trans hb
  exact ⟨hx.hb.grown hg hx.hb.size (fun j e => by have := (hr j e).1; omega), Nat.lt_of_lt_of_le hx.lt hg.size, k hx.b0, k hx.b1, k hx.b2, k hx.b3, (hx.ow.grown_cells hg fun r e => (hr r e).2).mono hg.size⟩
/-- It is left: there is no room. -/
structure RwX (W X : World) : Prop where
  hb : Below W.heap.size W X
  b1 : Box X (W.heap.size + 1) 24 #[.int .i64 0, .int .i64 0, .int .i64 0, .slice none 0 0]
  b2 : Box X (W.heap.size + 1 + 1) 28 #[.int .i64 9]
theorem RwX.own {W X Y : World} {row : Option Nat} {B : Nat} (hx : RwX W X) (hB : W.heap.size ≤ B) (hg : X.grownBy Y row) (hr : ∀ r, row = some r → B ≤ r ∧ ∃ o : Obj, X.heap[r]? = some o ∧ o.isCells = false) : RwX W Y := by
  have k := fun {b : Nat} {t : TypeId} {cs : Array Value} (hb : Box X b t cs) => (grownBy_keeps_cells hg (fun r e => (hr r e).2) hb rfl).trans hb
  exact ⟨hx.hb.grown hg hx.hb.size (fun j e => by have := (hr j e).1; omega), k hx.b1, k hx.b2⟩
theorem allT_snoc {f : List Int → Option Tr} : ∀ {cs : List (List Int)} {l : List Tr} {x : List Int} {t : Tr}, allT (cs.map f) = some l → f x = some t → allT ((cs ++ [x]).map f) = some (l ++ [t])
  | [], l, x, t, h, hx => by cases h; simp [allT, hx]
  | y :: cs, l, x, t, h, hx => by
    rw [List.map_cons] at h
    cases hy : f y with
    | none => rw [hy] at h; cases h
    | some u =>
      rw [hy] at h
      unfold allT at h
      split at h
      · cases h
      · rename_i l' hl'
        cases h
        rw [List.cons_append, List.map_cons, hy]
        unfold allT
        rw [allT_snoc hl' hx]
        rfl
theorem allT_none {f : List Int → Option Tr} : ∀ {cs r : List (List Int)} {x : List Int}, f x = none → allT ((cs ++ x :: r).map f) = none
  | [], r, x, hx => by simp [allT, hx]
  | y :: cs, r, x, hx => by
    rw [List.cons_append, List.map_cons]
    cases hy : f y with
    | none => rfl
    | some u =>
      unfold allT
      rw [allT_none hx]
/-- A row is put behind the rows so far. -/
theorem RwB.push {W X Y w6 : World} {w h : Int} {v : Value} {L : List (Tr × Value)} {g m cp X0 : Nat} {t : Tr} {kv : Value} (hx : RwB W X w h v L) (hX0 : ∀ b, v.ownBlock = some b → b < X0) (ht : TrB X (fun b => X0 ≤ b ∧ b < X.heap.size) t kv) (hXb : W.heap.size + 6 ≤ X0)
    (hY : Below X.heap.size X Y) (hYs : X.heap.size < Y.heap.size) (g6 : OwnT w6 (W.heap.size + 6) X.heap.size (.slice (some ⟨g, 0, none⟩) m cp) (L ++ [(leafP 0 0, .slice none 0 0)])) (k6 : Y.grownBy w6 v.ownBlock) (p6 : some g = v.ownBlock ∨ some g = some Y.heap.size)
    (P : Nat → Prop) (hP : ∀ b, P b → b < W.heap.size ∨ b = W.heap.size + 1 + 1 + 1 + 1 ∨ b = W.heap.size + 1 + 1 + 1 + 1 + 1) :
    (∀ Z, (Z = ((((w6.setCell ⟨g, L.length * 4, none⟩ (.int .i64 t.kind)).setCell ⟨g, L.length * 4 + 1, none⟩ (.int .i64 t.pane)).setCell ⟨g, L.length * 4 + 2, none⟩ (.int .i64 t.size)).setCell ⟨g, L.length * 4 + 3, none⟩ kv).setCell ⟨W.heap.size + 1 + 1 + 1, 0, none⟩ (.slice (some ⟨g, 0, none⟩) m cp) ∨
      Z = ((((w6.setCell ⟨W.heap.size + 1 + 1 + 1, 0, none⟩ (.slice (some ⟨g, 0, none⟩) m cp)).setCell ⟨g, L.length * 4, none⟩ (.int .i64 t.kind)).setCell ⟨g, L.length * 4 + 1, none⟩ (.int .i64 t.pane)).setCell ⟨g, L.length * 4 + 2, none⟩ (.int .i64 t.size)).setCell ⟨g, L.length * 4 + 3, none⟩ kv) →
      RwB W Z w h (.slice (some ⟨g, 0, none⟩) m cp) (L ++ [(t, kv)]) ∧ KeepsOthers X Z ∧ (∀ b, P b → b < X.heap.size → Z.heap[b]? = X.heap[b]?)) := by
  have hl := hx.lt
  have hPv : ∀ b, v.ownBlock = some b → ¬ P b := fun b e hp => by
    have := (World.ownsRow.lt hx.ow.1 b e).1
    rcases hP b hp with h | h | h <;> omega
  have hgb : W.heap.size + 6 ≤ g := by
    rcases g6.1.2 with ⟨h0, _⟩ | ⟨g', cap, cur, hv, hb, _⟩
    · cases h0
    · cases hv; exact hb
  have hgY : g ≠ X.heap.size → g < X.heap.size → some g = v.ownBlock := fun _ h => by
    rcases p6 with e | e
    · exact e
    · cases e; omega
  have hYz := hY.size
  have bx := fun {b : Nat} {t : TypeId} {cs : Array Value} (hb : Box X b t cs) (hlt : b < W.heap.size + 1 + 1 + 1 + 1) => (by
    refine ((hb.below hY hb.lt).grown k6 ?_ : Box w6 b t cs)
    intro e
    have := (World.ownsRow.lt hx.ow.1 b e.symm).1
    omega)
  have hb6 : Below W.heap.size W w6 := (hx.hb.trans (hY.mono hx.hb.size)).grown k6 (by have := hx.hb.size; omega) fun q hq => by have := (World.ownsRow.lt hx.ow.1 q hq).1; omega
  have hx0 := bx hx.b0 (by omega)
  have hx1 := bx hx.b1 (by omega)
  have hx2 := bx hx.b2 (by omega)
  have hx3 := bx hx.b3 (by omega)
  have ht6 : TrB w6 (Beside (W.heap.size + 6) X.heap.size (.slice (some ⟨g, 0, none⟩) m cp)) t kv := by
    refine ht.into (Into.block fun b ⟨b1, b2⟩ => ⟨⟨⟨by omega, ?_⟩, b2⟩, ?_⟩)
    · show (some g : Option Nat) ≠ some b
      intro e
      cases e
      rcases p6 with e | e
      · have := hX0 g e.symm; omega
      · cases e; omega
    · rw [k6.block b (by omega) (fun e => by have := hX0 b e.symm; omega), hY.block b b2]
  have hjl : L.length < (L ++ [(leafP 0 0, Value.slice none 0 0)]).length := by rw [List.length_append, List.length_singleton]; omega
  have hset : (L ++ [(leafP 0 0, Value.slice none 0 0)]).set L.length (t, kv) = L ++ [(t, kv)] := by rw [List.set_append, if_neg (Nat.lt_irrefl _)]; simp
  have h6s := k6.size
  have hPk : ∀ b, P b → b < X.heap.size → w6.heap[b]? = X.heap[b]? := fun b hb hlt => by
    rw [k6.block b (by omega) (fun e => hPv b e.symm hb), hY.block b hlt]
  have hPn : ∀ b, P b → b < X.heap.size → b ≠ g ∧ b ≠ W.heap.size + 1 + 1 + 1 := fun b hb hlt => ⟨fun e => by
      subst e
      rcases p6 with e | e
      · exact hPv b e.symm hb
      · cases e; omega, by rcases hP b hb with h | h | h <;> omega⟩
  have hko : KeepsOthers X w6 := (below_others hY).trans (KeepsOthers.of_grownBy k6 fun j o hj ho => by
      rcases hx.ow.1.2 with ⟨rfl, _⟩ | ⟨g', cap, cur, rfl, _, hgb', _⟩
      · cases hj
      · cases hj
        have hgb2 : X.heap[g']? = some (.cells cur 24 (0, 0)) := hgb'
        rw [(hY.block g' (Array.getElem?_eq_some_iff.1 hgb2).1), hgb2] at ho
        cases ho
        rfl)
  have hset4 : ∀ (A : World) (b : Nat) (x y z u : Value), KeepsOthers A ((((A.setCell ⟨b, L.length * 4, none⟩ x).setCell ⟨b, L.length * 4 + 1, none⟩ y).setCell ⟨b, L.length * 4 + 2, none⟩ z).setCell ⟨b, L.length * 4 + 3, none⟩ u) := fun A b x y z u => (((KeepsOthers.setCell _ _ _).trans (KeepsOthers.setCell _ _ _)).trans (KeepsOthers.setCell _ _ _)).trans (KeepsOthers.setCell _ _ _)
  have o4 := fun {A : World} {b : Nat} {tt : TypeId} {cs : Array Value} (hb : Box A b tt cs) (hne : b ≠ g) (x y z u : Value) => ((((hb.other (b' := g) (i := L.length * 4) hne x).other (b' := g) (i := L.length * 4 + 1) hne y).other (b' := g) (i := L.length * 4 + 2) hne z).other (b' := g) (i := L.length * 4 + 3) hne u)
  have hp4 : ∀ (A : World) (b : Nat) (x y z u : Value), b ≠ g → ((((A.setCell ⟨g, L.length * 4, none⟩ x).setCell ⟨g, L.length * 4 + 1, none⟩ y).setCell ⟨g, L.length * 4 + 2, none⟩ z).setCell ⟨g, L.length * 4 + 3, none⟩ u).heap[b]? = A.heap[b]? := fun A b x y z u hne => by
    rw [Below.heap_setCell _ _ _ b (by exact hne), Below.heap_setCell _ _ _ b (by exact hne), Below.heap_setCell _ _ _ b (by exact hne), Below.heap_setCell _ _ _ b (by exact hne)]
  rintro Z (rfl | rfl)
  · have how := g6.put hjl (t, kv) ht6
    rw [hset] at how
    refine ⟨⟨below_set (below_set (below_set (below_set (below_set hb6 (by omega) _) (by omega) _) (by omega) _) (by omega) _) (by omega) _, by simp only [size_set]; omega, (o4 hx0 (by omega) _ _ _ _).other (by omega) _, (o4 hx1 (by omega) _ _ _ _).other (by omega) _, (o4 hx2 (by omega) _ _ _ _).other (by omega) _, (o4 hx3 (by omega) _ _ _ _).set (i := 0) _, ?_⟩, (hko.trans (hset4 _ _ _ _ _ _)).trans (KeepsOthers.setCell _ _ _), fun b hb hlt => ?_⟩
    · refine OwnT.mono (OwnT.other how (by show (some g : Option Nat) ≠ _; intro e; cases e; omega) (.inl (by omega)) _) (by simp only [size_set]; omega)
    · obtain ⟨n1, n2⟩ := hPn b hb hlt
      rw [Below.heap_setCell _ _ _ b (by exact n2), hp4 _ _ _ _ _ _ n1]
      exact hPk b hb hlt
  · have g7 : OwnT (w6.setCell ⟨W.heap.size + 1 + 1 + 1, 0, none⟩ (.slice (some ⟨g, 0, none⟩) m cp)) _ _ _ _ := OwnT.other g6 (by show (some g : Option Nat) ≠ _; intro e; cases e; omega) (.inl (by omega)) _
    have ht7 := ht6.into (show Into w6 (w6.setCell ⟨W.heap.size + 1 + 1 + 1, 0, none⟩ (.slice (some ⟨g, 0, none⟩) m cp)) (Beside (W.heap.size + 6) X.heap.size (.slice (some ⟨g, 0, none⟩) m cp)) (Beside (W.heap.size + 6) X.heap.size (.slice (some ⟨g, 0, none⟩) m cp)) from Into.block fun b ⟨⟨h1, h2⟩, h3⟩ => ⟨⟨⟨h1, h2⟩, h3⟩, Below.heap_setCell w6 ⟨W.heap.size + 1 + 1 + 1, 0, none⟩ _ b (by show b ≠ W.heap.size + 1 + 1 + 1; omega)⟩)
    have how := g7.put hjl (t, kv) ht7
    rw [hset] at how
    refine ⟨⟨below_set (below_set (below_set (below_set (below_set hb6 (by omega) _) (by omega) _) (by omega) _) (by omega) _) (by omega) _, by simp only [size_set]; omega, o4 (hx0.other (by omega) _) (by omega) _ _ _ _, o4 (hx1.other (by omega) _) (by omega) _ _ _ _, o4 (hx2.other (by omega) _) (by omega) _ _ _ _, o4 (hx3.set (i := 0) _) (by omega) _ _ _ _, ?_⟩, (hko.trans (KeepsOthers.setCell _ _ _)).trans (hset4 _ _ _ _ _ _), fun b hb hlt => ?_⟩
    · exact OwnT.mono how (by simp only [size_set]; omega)
    · obtain ⟨n1, n2⟩ := hPn b hb hlt
      rw [hp4 _ _ _ _ _ _ n1, Below.heap_setCell _ _ _ b (by exact n2)]
      exact hPk b hb hlt
theorem wp_append_t {o : Oper} {a : Act} {w : World} {K : Act → World → Prop} {Q : Exit → Act → World → Prop} (s x : Operand)
    (ho : o.op = .call { callee := .builtin .append, args := #[s, x], argTypes := #[22, 22] }) (base top : Nat) (v : Value) (L : List (Tr × Value)) (e : Tr × Value) (g : Nat) (hs : a.eval s = v) (hown : OwnT w base top v L)
    (hxe : a.eval x = .slice (some ⟨g, 0, none⟩) 1 1) (hx : Box w g 24 (trow e).toArray) (ht : TrB w (Beside base top v) e.1 e.2) (hb : L.length ≤ 1000) (hbase : base ≤ w.heap.size) (htop : top ≤ w.heap.size)
    (h : ∀ v' w', OwnT w' base top v' (L ++ [e]) → w.grownBy w' v.ownBlock → (v'.ownBlock = v.ownBlock ∨ v'.ownBlock = some w.heap.size) → K (a.put o.dst v') w') : Oper.wp Try.prog o a w K Q := by
  obtain ⟨i0, hi, hz0, hz1, hz2⟩ := info_parts tr_info
  obtain ⟨v', w', hrun, h1, h2, _, h4⟩ := run_append_own_at (P := Try.prog) (w := w) base 22 o.type 24 i0 _ 4 48 Try.underlying22 hi hz0 hz1 hz2 rfl (by decide) v L.length (tflat L) hown.1 ⟨g, 0, none⟩ 1 1 (tflat [e]) (tflat_length [e]) (lit_at (l := tflat [e]) (by simpa [tflat] using hx)) (tr_one e w _ ht) (by unfold maxLen; omega) (by omega) hbase
  unfold Oper.wp
  simp [execOp, ho, resolve, invoke, builtin, hs, hxe, hrun, Result.andThen]
  refine h v' w' ⟨?_, fun u hu => ?_⟩ h2 h4
  · rw [List.length_append, tflat_append]
    exact h1
  · rcases List.mem_append.1 hu with hu | hu
    · exact (hown.2 u hu).into (Beside.into h2 h4 htop)
    · obtain rfl := List.mem_singleton.1 hu
      exact ht.into (Beside.into h2 h4 htop)
theorem put_size (W : World) (l : Nat) (o : Obj) : (W.putObj l o).heap.size = W.heap.size := by simp [World.putObj]
set_option maxRecDepth 100000 in
set_option maxHeartbeats 8000000 in
theorem rows_any (w h : Nat) (v : Value) (ps : List Int) (W : World) (hv : NRow W v ps) (hl1 : 1 ≤ ps.length) (hl8 : ps.length ≤ 8) (w1 : 1 ≤ w) (w80 : w ≤ 80) (h1 : 1 ≤ h) (h80 : h ≤ 80) :
    Calls Try.prog 64 #[.agg #[.int .i64 w, .int .i64 h], v] W (LayP W W.heap.size (rowsT w h ps)) := by
  have HV := hid hv
  obtain ⟨vA, vc, rfl, hvc, _⟩ := hv
  obtain ⟨n, hn⟩ : ∃ n, ps.length = n := ⟨_, rfl⟩
  have HN := hid hn
  have hroot : rootN ps.length = rootN n := by rw [hn]
  have HRT := hid (fun X => root_any n X (by omega))
  have hr3 := rootN_le n (by omega)
  have hr1 := rootN_pos n (by omega)
  obtain ⟨rn, hrn⟩ : ∃ rn, rootN n = rn := ⟨_, rfl⟩
  rw [hrn] at HRT hr3 hr1 hroot
  have hb0 := (((below_alloc W (.cells #[.int .i64 (w : Int), .int .i64 (h : Int)] 77)).alloc (by simp) (.cells #[.int .i64 0, .int .i64 0, .int .i64 0, .slice none 0 0] 24)).alloc (by simp; omega) (.cells #[.int .i64 0] 28)).alloc (by simp; omega) (.cells #[.slice none 0 0] 22)
  have hR0 : RwB W ((((W.alloc (.cells #[.int .i64 (w : Int), .int .i64 (h : Int)] 77)).alloc (.cells #[.int .i64 0, .int .i64 0, .int .i64 0, .slice none 0 0] 24)).alloc (.cells #[.int .i64 0] 28)).alloc (.cells #[.slice none 0 0] 22)) w h (.slice none 0 0) [] := by
    refine ⟨hb0, by simp, ?_, ?_, ?_, ?_, OwnT.nil _ _ _⟩
    · exact (((Box.new W _ _).alloc _).alloc _).alloc _
    · have := ((Box.new (W.alloc (.cells #[.int .i64 (w : Int), .int .i64 (h : Int)] 77)) 24 #[.int .i64 0, .int .i64 0, .int .i64 0, .slice none 0 0]).alloc (.cells #[.int .i64 0] 28)).alloc (.cells #[.slice none 0 0] 22)
      simpa only [World.size_alloc] using this
    · have := (Box.new ((W.alloc (.cells #[.int .i64 (w : Int), .int .i64 (h : Int)] 77)).alloc (.cells #[.int .i64 0, .int .i64 0, .int .i64 0, .slice none 0 0] 24)) 28 #[.int .i64 0]).alloc (.cells #[.slice none 0 0] 22)
      simpa only [World.size_alloc] using this
    · have := Box.new (((W.alloc (.cells #[.int .i64 (w : Int), .int .i64 (h : Int)] 77)).alloc (.cells #[.int .i64 0, .int .i64 0, .int .i64 0, .slice none 0 0] 24)).alloc (.cells #[.int .i64 0] 28)) 22 #[.slice none 0 0]
      simpa only [World.size_alloc] using this
  have HR0 := hid hR0
  have HCK := hid (fun X => chunk_any vA n vc rn X hr1 (by omega))
  clear hb0 hR0 hrn
  rw [hn] at hvc HV hl1 hl8 ⊢
  refine (callsIn_wide (n := 3)).1 (callsIn_of_wp_marks Try.func64 rfl trivial ?_ rfl)
  simp only [Try.ntmps64, List.size_toArray, List.length_cons, List.length_nil, Nat.reduceAdd, Nat.reduceSub, Array.replicate_succ, Array.replicate_zero, List.push_toArray, List.append_toArray, List.nil_append, List.cons_append]
  gi_wp2_with ((try refine ⟨trivial, ?_⟩); first | (gi_at_call 76; refine (callsIn_wide.2 (HRT.out _)).mono ?_; rintro e w2 ⟨rfl, rfl⟩) | (gi_at_call 75; refine (callsIn_wide.2 (HCK.out _)).mono ?_; rintro e w3 ⟨rfl, rfl⟩))
  have hW4 : ((((W.alloc (.cells #[.int .i64 (w : Int), .int .i64 (h : Int)] 77)).alloc (.cells #[.int .i64 0, .int .i64 0, .int .i64 0, .slice none 0 0] 24)).alloc (.cells #[.int .i64 0] 28)).alloc (.cells #[.slice none 0 0] 22)).heap.size = W.heap.size + 1 + 1 + 1 + 1 := by simp only [World.size_alloc]
  obtain ⟨W4, hW4e⟩ : ∃ W4, (((W.alloc (.cells #[.int .i64 (w : Int), .int .i64 (h : Int)] 77)).alloc (.cells #[.int .i64 0, .int .i64 0, .int .i64 0, .slice none 0 0] 24)).alloc (.cells #[.int .i64 0] 28)).alloc (.cells #[.slice none 0 0] 22) = W4 := ⟨_, rfl⟩
  rw [hW4e] at HR0 hW4 ⊢
  have hq1 := (Box.new W4 36 #[.slice vA n vc]).alloc (.cells #[.int .i64 (rn : Int)] 3)
  have hq2 := Box.new (W4.alloc (.cells #[.slice vA n vc] 36)) 3 #[.int .i64 (rn : Int)]
  rw [World.size_alloc] at hq2
  have hRw := (HR0.out.below (below_alloc W4 (.cells #[.slice vA n vc] 36))).below (below_alloc _ (.cells #[.int .i64 (rn : Int)] 3))
  have hWss : ((W4.alloc (.cells #[.slice vA n vc] 36)).alloc (.cells #[.int .i64 (rn : Int)] 3)).heap.size = W.heap.size + 1 + 1 + 1 + 1 + 1 + 1 := by simp only [World.size_alloc]; omega
  obtain ⟨Ws, hWs⟩ : ∃ Ws, (W4.alloc (.cells #[.slice vA n vc] 36)).alloc (.cells #[.int .i64 (rn : Int)] 3) = Ws := ⟨_, rfl⟩
  rw [hW4] at hq1 hq2
  rw [hWs] at hq1 hq2 hRw hWss ⊢
  have hc1 := hq1.cell 0
  have hc2 := hq2.cell 0
  obtain ⟨PP, hPP⟩ : ∃ PP : Nat → Prop, PP = fun b => b < W.heap.size ∨ b = W.heap.size + 1 + 1 + 1 + 1 ∨ b = W.heap.size + 1 + 1 + 1 + 1 + 1 := ⟨_, rfl⟩
  have hP : ∀ b, PP b ↔ b < W.heap.size ∨ b = W.heap.size + 1 + 1 + 1 + 1 ∨ b = W.heap.size + 1 + 1 + 1 + 1 + 1 := fun b => by rw [hPP]
  clear HR0 hW4e hWs hPP hW4 HCK HRT hq1 hq2
  have HLN : Hid (allT ((chunkL rn ps.length ps).map (lineT 1 w)) = none → rowsT w h ps = none) := by unfold Hid rowsT; rw [hroot]; intro e; rw [e]
  have HLS : Hid (∀ l, allT ((chunkL rn ps.length ps).map (lineT 1 w)) = some l → rowsT w h ps = sharedT 2 h l) := by unfold Hid rowsT; rw [hroot]; intro l e; rw [e]
  refine wpIn_rangeFunc_ownH (by rfl) (by omega) (gf := 78) (lb := #[.pointer (some ⟨W.heap.size + 1 + 1 + 1 + 1, 0, none⟩), .pointer (some ⟨W.heap.size + 1 + 1 + 1 + 1 + 1, 0, none⟩)]) rfl trivial (enters_of Try.func78 (by kernel_rfl) rfl)
    (chunk_stops 2 (by omega) (W.heap.size + 1 + 1 + 1 + 1) (W.heap.size + 1 + 1 + 1 + 1 + 1) ps rn (.slice vA n vc) W Ws HV.out (by rw [HN.out]; exact hl8) (by rw [HN.out]; exact hl1) hr1 hr3 PP ((hP _).2 (.inr (.inl rfl))) ((hP _).2 (.inr (.inr rfl))) hc1 hc2) (fun h k => h.trans k) (fun X l o o' _ h hc _ => KpC.putObj X l o o' h hc) (Below.refl _ _) (fun _ => rfl)
    (fun pre X => ∃ v L, RwB W X w h v L ∧ allT ((pre.map (·.val.1)).map (lineT 1 w)) = some (L.map Prod.fst) ∧ L.length = pre.length ∧ W.heap.size + 6 ≤ X.heap.size)
    (fun c pre X => c = .ret ∧ RwX W X ∧ ∃ pre' x, pre = pre' ++ [x] ∧ lineT 1 w x.val.1 = none)
    (fun pre X Y row hh hg hr => by obtain ⟨v, L, k1, k2, k3, k4⟩ := hh; exact ⟨v, L, k1.own (by omega) hg hr, k2, k3, Nat.le_trans k4 hg.size⟩)
    (fun c pre X Y row hh hg hr => by obtain ⟨k0, k1, k2⟩ := hh; exact ⟨k0, k1.own (by omega) hg hr, k2⟩)
    ⟨_, [], hRw, rfl, rfl, by omega⟩
    (fun x a' X => a' = { tmps := #[.agg #[.int .i64 (w : Int), .int .i64 (h : Int)], .slice vA n vc, .pointer (some ⟨W.heap.size, 0, none⟩), undef, .pointer (some ⟨W.heap.size + 1, 0, none⟩), .pointer (some ⟨W.heap.size + 1 + 1, 0, none⟩), .pointer (some ⟨W.heap.size + 1 + 1 + 1, 0, none⟩), x.val.2, undef, undef, .slice vA n vc, .slice vA n vc, .int .i64 (n : Int), .int .i64 (rn : Int),
      .func (.func 78) #[] #[.pointer (some ⟨W.heap.size + 1 + 1 + 1 + 1, 0, none⟩), .pointer (some ⟨W.heap.size + 1 + 1 + 1 + 1 + 1, 0, none⟩)], x.val.2, undef, undef, undef, undef, undef, undef, undef, undef, undef, undef, undef, undef, undef, undef, undef, undef, undef, undef, undef, undef, undef, undef], defers := [] })
    (fun x a' _ X Y row hs hg hr => hs)
    ?assign ?body ?done ?stop
  case assign =>
    rintro l pre x X K hJ hK
    gi_wp2
    exact hK _ _ ((KeepsOthers.refl _).from _) (KpC.refl _ _) hJ rfl
  case body =>
    rintro l pre ⟨⟨xs, xv⟩, hxr, hxn, hx8⟩ a' X hl ⟨rr, hrr⟩ ⟨v, L, hRB, hall, hLl, hX6⟩ rfl hlt
    dsimp only at hxr hxn hx8 ⊢
    have hxr0 := hxr
    obtain ⟨xA, xc, rfl, hxc, _⟩ := hxr
    have HC := hid (row_any w h (.slice xA xs.length xc) xs X (NRow.below hxr0 hRB.hb) (List.length_pos_iff.2 hxn) hx8 w1 w80)
    have HRB := hid hRB
    obtain ⟨s0, s1⟩ := hRB.b0.two.1
    have hlX := hRB.lt
    have HAL := hid hall
    have HLL := hid hLl
    clear hRB hall hLl
    gi_upto_region 5 with ((try refine ⟨trivial, ?_⟩); gi_at_call 60; refine (callsIn_wide.2 HC.out).mono ?_; rintro e X1 hp; obtain ⟨hb1, t, kA, kn, kc, err, rfl, ht, hcase⟩ := hp.one)
    have HR1 := hid (HRB.out.below hb1)
    have hX0 : ∀ b, v.ownBlock = some b → b < X.heap.size := fun b e => (World.ownsRow.lt HRB.out.ow.1 b e).2
    have HX0 := hid hX0
    have hlX1 := hb1.size
    have HB1 := hid hb1
    have ht2 := ht.into (Into.block (W' := X1.alloc (.cells #[.int .i64 t.kind, .int .i64 t.pane, .int .i64 t.size, .slice kA kn kc] 24)) (B' := fun b => X.heap.size ≤ b ∧ b < (X1.alloc (.cells #[.int .i64 t.kind, .int .i64 t.pane, .int .i64 t.size, .slice kA kn kc] 24)).heap.size) fun b ⟨c1, c2⟩ => ⟨⟨c1, by rw [World.size_alloc]; omega⟩, Below.heap_alloc X1 _ b c2⟩)
    have HR2 := hid (HR1.out.below (below_alloc X1 (.cells #[.int .i64 t.kind, .int .i64 t.pane, .int .i64 t.size, .slice kA kn kc] 24)))
    have hT8 := Box.new X1 24 #[.int .i64 t.kind, .int .i64 t.pane, .int .i64 t.size, .slice kA kn kc]
    have hYb : Below X.heap.size X (X1.alloc (.cells #[.int .i64 t.kind, .int .i64 t.pane, .int .i64 t.size, .slice kA kn kc] 24)) := HB1.out.alloc HB1.out.size _
    obtain ⟨Y, hYe⟩ : ∃ Y, X1.alloc (.cells #[.int .i64 t.kind, .int .i64 t.pane, .int .i64 t.size, .slice kA kn kc] 24) = Y := ⟨_, rfl⟩
    rw [hYe] at ht2 HR2 hT8 hYb ⊢
    obtain ⟨T8, hT8e⟩ : ∃ T8, X1.heap.size = T8 := ⟨_, rfl⟩
    rw [hT8e] at hT8 hlX1 ⊢
    have HT := hid ht2
    have HT8 := hid hT8
    have HYB := hid hYb
    have hlY := HR2.out.lt
    have hXY := hYb.size
    clear ht ht2 HR1 HB1 hT8 hYb hYe hT8e hX0 hp hb1
    rcases hcase with ⟨hno, rfl, rfl, rfl, rfl, rfl⟩ | ⟨hyes, rfl⟩
    · have HNO := hid hno
      clear hno
      obtain ⟨⟨a0, a1, a2, a3⟩, fa0, fa1, fa2, fa3⟩ := HR2.out.b1.four
      have e0 := HR2.out.b2.cell 0
      have fe0 := HR2.out.b2.free 0
      gi_wp2
      have hz1 := (four_cells HR2.out.b1 rfl (.int .i64 0) (.int .i64 0) (.int .i64 0) (.slice none 0 0)).other (b' := W.heap.size + 1 + 1) (i := 0) (by omega) (.int .i64 9)
      have hz2 := ((((HR2.out.b2.other (b' := W.heap.size + 1) (i := 0) (by omega) (.int .i64 0)).other (b' := W.heap.size + 1) (i := 1) (by omega) (.int .i64 0)).other (b' := W.heap.size + 1) (i := 2) (by omega) (.int .i64 0)).other (b' := W.heap.size + 1) (i := 3) (by omega) (.slice none 0 0)).set (i := 0) (.int .i64 9)
      have hbz := below_set (below_set (below_set (below_set (below_set HR2.out.hb (Nat.le_succ _) (i := 0) (.int .i64 0)) (Nat.le_succ _) (i := 1) (.int .i64 0)) (Nat.le_succ _) (i := 2) (.int .i64 0)) (Nat.le_succ _) (i := 3) (.slice none 0 0)) (show W.heap.size ≤ W.heap.size + 1 + 1 by omega) (i := 0) (.int .i64 9)
      refine ⟨((below_others HYB.out).trans (((((KeepsOthers.setCell _ _ _).trans (KeepsOthers.setCell _ _ _)).trans (KeepsOthers.setCell _ _ _)).trans (KeepsOthers.setCell _ _ _)).trans (KeepsOthers.setCell _ _ _))).from _, rfl, ⟨hbz, hz1, hz2⟩, pre, _, rfl, HNO.out⟩
    · have HYES := hid hyes
      obtain ⟨m, hm⟩ : ∃ m, L.length = m := ⟨_, rfl⟩
      have HM := hid hm
      have hm8 : m ≤ 8 := by have := HLL.out; have := HN.out; omega
      have hmi : (m : Int) < (m : Int) + 1 := by omega
      obtain ⟨vA2, vc2, hv2⟩ := HR2.out.ow.spell
      rw [hm] at hv2
      subst hv2
      clear hyes hm
      gi_upto_region 7 with fail
      have hS0 : Box Y.drew (W.heap.size + 1 + 1 + 1) 22 #[.slice vA2 m vc2] ∧ Box Y.drew T8 24 #[.int .i64 t.kind, .int .i64 t.pane, .int .i64 t.size, .slice kA kn kc] := ⟨HR2.out.b3.drew, HT8.out.drew⟩
      refine wpIn_region_S (OneS 4 (fun w' => Box w' (W.heap.size + 1 + 1 + 1) 22 #[.slice vA2 m vc2] ∧ Box w' T8 24 #[.int .i64 t.kind, .int .i64 t.pane, .int .i64 t.size, .slice kA kn kc])) (by kernel_rfl) (by kernel_rfl) (by rintro ⟨_, _, h⟩; exact h) ?_
      refine takeG (k := 4) (i := 0) (v := ?v0) 26 rfl rfl (by kernel_rfl) (by kernel_rfl) (by kernel_rfl) (by kernel_rfl) (by decide) (by kernel_rfl) (fun _ _ _ h => h) (Or.inl ⟨by rfl, fun w' hw' => ?hy0⟩) (fun _ => hS0) ?rest0
      case hy0 => have a0 := hw'.1.cell 0; go_simp; try with_reducible rfl
      try simp only [Act.put, List.setIfInBounds_toArray, List.set_cons_zero, List.set_cons_succ]
      refine takeG (k := 4) (i := 1) (v := ?v1) 27 rfl rfl (by kernel_rfl) (by kernel_rfl) (by kernel_rfl) (by kernel_rfl) (by decide) (by kernel_rfl) (fun _ _ _ h => h) (Or.inl ⟨by rfl, fun w' hw' => ?hy1⟩) (fun _ => hS0) ?rest1
      case hy1 => obtain ⟨⟨a1, a2, a3, a4⟩, _⟩ := hw'.2.four; go_simp; try with_reducible rfl
      try simp only [Act.put, List.setIfInBounds_toArray, List.set_cons_zero, List.set_cons_succ]
      refine takeN (k := 4) (i := 2) (v := ?v2) 28 rfl rfl (by kernel_rfl) (by kernel_rfl) (by kernel_rfl) (by kernel_rfl) (by decide) (fun _ _ _ h => h) (Or.inl ⟨by rfl, fun w' _ => ?hy2⟩) (fun _ => hS0) ?rest2
      case hy2 => go_simp; try with_reducible rfl
      try simp only [Act.put, List.setIfInBounds_toArray, List.set_cons_zero, List.set_cons_succ]
      refine oneS (k := 3) (by kernel_rfl) rfl (by rfl) (fun K hK => ?_)
      go_simp
      have hS1 : Box (Y.alloc (.cells #[.int .i64 0, .int .i64 0, .int .i64 0, .slice none 0 0] 24)).drew (W.heap.size + 1 + 1 + 1) 22 #[.slice vA2 m vc2] ∧ Box (Y.alloc (.cells #[.int .i64 0, .int .i64 0, .int .i64 0, .slice none 0 0] 24)).drew T8 24 #[.int .i64 t.kind, .int .i64 t.pane, .int .i64 t.size, .slice kA kn kc] := ⟨(HR2.out.b3.alloc _).drew, (HT8.out.alloc _).drew⟩
      refine hK _ _ (fun _ => hS1) ?_
      clear hK K
      try simp only [Act.put, List.setIfInBounds_toArray]
      have HYA := hid (show Below Y.heap.size Y (Y.alloc (.cells #[.int .i64 0, .int .i64 0, .int .i64 0, .slice none 0 0] 24)).drew from (below_alloc Y _).trans ((below_drew _ 1).mono (by rw [World.size_alloc]; omega)))
      have hYA : (Y.alloc (.cells #[.int .i64 0, .int .i64 0, .int .i64 0, .slice none 0 0] 24)).drew.heap.size = Y.heap.size + 1 := World.size_alloc _ _
      have HBX := hid (show Box (Y.alloc (.cells #[.int .i64 0, .int .i64 0, .int .i64 0, .slice none 0 0] 24)).drew Y.heap.size 24 #[.int .i64 0, .int .i64 0, .int .i64 0, .slice none 0 0] from (Box.new Y _ _).drew)
      clear hS0
      refine oneS (k := 4) (by kernel_rfl) rfl (by rfl) (fun K hK => ?_)
      refine wp_append_t (.tmp 26) (.tmp 29) rfl (W.heap.size + 6) Y.heap.size (.slice vA2 m vc2) L (leafP 0 0, .slice none 0 0) Y.heap.size rfl (HR2.out.ow.kept HYA.out (Nat.le_refl _)) rfl HBX.out (TrB.leaf _ _ _ _) (by have := HM.out; omega) (by omega) (by omega) ?_
      rintro v6 w6 hown6 hgrow6 hat6
      obtain ⟨g, cp, cur6, hv6, hgb, hgl, hgc, hgbox, _, hcell6⟩ := hown6.row (by simp)
      have hl6 : (L ++ [(leafP 0 0, Value.slice none 0 0)]).length = m + 1 := by rw [List.length_append, HM.out]; rfl
      rw [hl6] at hv6 hgc
      subst hv6
      refine hK _ _ (fun h => (by simp at h)) ?_
      clear hK K
      try simp only [Act.put]
      have hem : (L ++ [(leafP 0 0, Value.slice none 0 0)])[m]? = some (leafP 0 0, .slice none 0 0) := by rw [← HM.out, List.getElem?_append_right (Nat.le_refl _), Nat.sub_self]; rfl
      have q0 := hcell6 m _ 0 _ hem rfl
      have q1 := hcell6 m _ 1 _ hem rfl
      have q2 := hcell6 m _ 2 _ hem rfl
      have q3 := hcell6 m _ 3 _ hem rfl
      rw [Nat.add_zero] at q0
      have y0 := hgbox.free (m * 4)
      have y1 := hgbox.free (m * 4 + 1)
      have y2 := hgbox.free (m * 4 + 2)
      have y3 := hgbox.free (m * 4 + 3)
      have hPU := RwB.push (P := PP) (t := t) (kv := .slice kA kn kc) (X0 := X.heap.size) HR2.out HX0.out HT.out (by omega) HYA.out (by omega) hown6 hgrow6 (by rcases hat6 with e | e; exact .inl e; exact .inr e) fun b => (hP b).1
      rw [HM.out] at hPU
      have HPU := hid hPU
      have hb36 : Box w6 (W.heap.size + 1 + 1 + 1) 22 #[.slice vA2 m vc2] := (hS1.1).grown hgrow6 (fun e => by have := (World.ownsRow.lt HR2.out.ow.1 _ e.symm).1; omega)
      have z0 := hb36.cell 0
      have zf := hb36.free 0
      have hl36 := hb36.lt
      have hne : ¬ g = W.heap.size + 1 + 1 + 1 := by omega
      have hne2 : ¬ W.heap.size + 1 + 1 + 1 = g := by omega
      clear hPU hS1 hown6 hgrow6 hat6 hcell6 hgbox hem hl6 hb36
      refine takeN (k := 4) (i := 5) (v := ?v5) 31 rfl rfl (by kernel_rfl) (by kernel_rfl) (by kernel_rfl) (by kernel_rfl) (by decide) (fun _ _ _ h => h) (Or.inl ⟨by rfl, fun w' _ => ?hy5⟩) (fun h => (by simp at h)) ?rest5
      case hy5 => go_simp; try with_reducible rfl
      try simp only [Act.put, List.setIfInBounds_toArray]
      refine eitherS (k1 := 6) (k2 := 7) (by kernel_rfl) rfl rfl (by rfl) (by rfl) (fun K hK => ?_) (fun K hK => ?_)
      · go_simp
        refine hK _ _ (fun h => (by simp at h)) ?_
        clear hK K
        try simp only [Act.put]
        refine oneS (k := 7) (by kernel_rfl) rfl (by rfl) (fun K hK => ?_)
        go_simp
        refine hK _ _ (fun h => (by simp at h)) ?_
        clear hK K
        try simp only [Act.put]
        refine doneS (by kernel_rfl) ?_ _
        gi_wp2
        obtain ⟨k1, k2, k3⟩ := HPU.out _ (.inl rfl)
        refine ⟨((below_others HYB.out).trans k2).from _, ?_, _, _, k1, ?_, by rw [List.length_append, List.length_append, HLL.out]; rfl, ?_⟩
        · exact KpC.trans (KpC.below HYB.out) fun a u ha hu => by
            obtain ⟨oo, hoo, _⟩ := cells_of_cell hu
            have := k3 a.block ha (Array.getElem?_eq_some_iff.1 hoo).1
            unfold World.cell? at hu ⊢
            rw [this]
            exact hu
        · have hsn := allT_snoc HAL.out HYES.out
          simpa [List.map_append, List.map_map] using hsn
        · exact Nat.le_trans (Nat.le_trans hX6 hXY) k2.size
      · go_simp
        refine hK _ _ (fun h => (by simp at h)) ?_
        clear hK K
        try simp only [Act.put]
        refine oneS (k := 6) (by kernel_rfl) rfl (by rfl) (fun K hK => ?_)
        go_simp
        refine hK _ _ (fun h => (by simp at h)) ?_
        clear hK K
        try simp only [Act.put]
        refine doneS (by kernel_rfl) ?_ _
        gi_wp2
        obtain ⟨k1, k2, k3⟩ := HPU.out _ (.inr rfl)
        refine ⟨((below_others HYB.out).trans k2).from _, ?_, _, _, k1, ?_, by rw [List.length_append, List.length_append, HLL.out]; rfl, ?_⟩
        · exact KpC.trans (KpC.below HYB.out) fun a u ha hu => by
            obtain ⟨oo, hoo, _⟩ := cells_of_cell hu
            have := k3 a.block ha (Array.getElem?_eq_some_iff.1 hoo).1
            unfold World.cell? at hu ⊢
            rw [this]
            exact hu
        · have hsn := allT_snoc HAL.out HYES.out
          simpa [List.map_append, List.map_map] using hsn
        · exact Nat.le_trans (Nat.le_trans hX6 hXY) k2.size
  case done =>
    rintro D ys X hD hys ⟨v, L, hRB, hall, hLl, hX6⟩ hK
    rw [hys] at hall
    have hcf := chunk_flat rn hr1 ps.length ps (Nat.le_refl _)
    have hyl : ys.length = (chunkL rn ps.length ps).length := by rw [← hys, List.length_map]
    have hy1 : 1 ≤ (chunkL rn ps.length ps).length := by
      refine List.length_pos_iff.2 fun e => ?_
      have := hcf.1
      rw [e] at this
      have h2 := congrArg List.length this
      rw [HN.out] at h2
      simp at h2
      omega
    have HC := hid (shared_any 2 h v L (W.heap.size + 6) X.heap.size X hRB.ow hX6 (Nat.le_refl _) (by omega) (by have := hcf.2.1; have := HN.out; omega) h1 h80)
    have HRS := hid (HLS.out _ hall)
    obtain ⟨vA2, vc2, hv2⟩ := hRB.ow.spell
    obtain ⟨m, hm⟩ : ∃ m, L.length = m := ⟨_, rfl⟩
    rw [hm] at hv2
    subst hv2
    obtain ⟨s0, s1⟩ := hRB.b0.two.1
    have s2 := hRB.b3.cell 0
    have HRB := hid hRB
    have HK := hid hK
    clear hRB hK hall hys hyl hy1 hcf hLl hm
    gi_wp2_with ((try refine ⟨trivial, ?_⟩); gi_at_call 72; refine (callsIn_wide.2 HC.out).mono ?_; rintro e X1 ⟨hp, hko⟩; obtain ⟨hb1, t, kA, kn, kc, err, rfl, ht, hcase⟩ := hp.one; have hx1 := HRB.out.b1.below hb1 (by omega); have hx2 := HRB.out.b2.below hb1 (by omega); obtain ⟨⟨a0, a1, a2, a3⟩, fa0, fa1, fa2, fa3⟩ := hx1.four; have e0 := hx2.cell 0; have fe0 := hx2.free 0; have hlx1 := hx1.lt; have hlx2 := hx2.lt)
    have hK1 := hko.same D _ HK.out rfl
    have hz1 := (four_cells hx1 rfl (.int .i64 t.kind) (.int .i64 t.pane) (.int .i64 t.size) (.slice kA kn kc)).other (b' := W.heap.size + 1 + 1) (i := 0) (by omega) (.int .i64 err)
    have hz2 := ((((hx2.other (b' := W.heap.size + 1) (i := 0) (by omega) (.int .i64 t.kind)).other (b' := W.heap.size + 1) (i := 1) (by omega) (.int .i64 t.pane)).other (b' := W.heap.size + 1) (i := 2) (by omega) (.int .i64 t.size)).other (b' := W.heap.size + 1) (i := 3) (by omega) (.slice kA kn kc)).set (i := 0) (.int .i64 err)
    have hbW : Below W.heap.size W X1 := HRB.out.hb.trans (hb1.mono (by omega))
    have hbz := below_set (below_set (below_set (below_set (below_set hbW (Nat.le_succ _) (i := 0) (.int .i64 t.kind)) (Nat.le_succ _) (i := 1) (.int .i64 t.pane)) (Nat.le_succ _) (i := 2) (.int .i64 t.size)) (Nat.le_succ _) (i := 3) (.slice kA kn kc)) (show W.heap.size ≤ W.heap.size + 1 + 1 by omega) (i := 0) (.int .i64 err)
    have hkz : ∀ (b i : Nat) (u : Value) (A : World), D ≠ b → A.heap[D]? = some (.deferred (some [])) → (A.setCell ⟨b, i, none⟩ u).heap[D]? = some (.deferred (some [])) := fun b i u A hne hh => (Below.heap_setCell A ⟨b, i, none⟩ u D hne).trans hh
    have hKZ := hkz (W.heap.size + 1 + 1) 0 (.int .i64 err) _ (by omega) (hkz (W.heap.size + 1) 3 (.slice kA kn kc) _ (by omega) (hkz (W.heap.size + 1) 2 (.int .i64 t.size) _ (by omega) (hkz (W.heap.size + 1) 1 (.int .i64 t.pane) _ (by omega) (hkz (W.heap.size + 1) 0 (.int .i64 t.kind) _ (by omega) hK1))))
    have htz : Into X1 (((((X1.setCell ⟨W.heap.size + 1, 0, none⟩ (.int .i64 t.kind)).setCell ⟨W.heap.size + 1, 1, none⟩ (.int .i64 t.pane)).setCell ⟨W.heap.size + 1, 2, none⟩ (.int .i64 t.size)).setCell ⟨W.heap.size + 1, 3, none⟩ (.slice kA kn kc)).setCell ⟨W.heap.size + 1 + 1, 0, none⟩ (.int .i64 err)) (fun b => W.heap.size + 6 ≤ b ∧ b < X1.heap.size) (fun b => W.heap.size ≤ b ∧ b < (((((X1.setCell ⟨W.heap.size + 1, 0, none⟩ (.int .i64 t.kind)).setCell ⟨W.heap.size + 1, 1, none⟩ (.int .i64 t.pane)).setCell ⟨W.heap.size + 1, 2, none⟩ (.int .i64 t.size)).setCell ⟨W.heap.size + 1, 3, none⟩ (.slice kA kn kc)).setCell ⟨W.heap.size + 1 + 1, 0, none⟩ (.int .i64 err)).heap.size) :=
      Into.block fun b ⟨b1, b2⟩ => ⟨⟨by omega, by simp only [size_set]; exact b2⟩, by
        rw [Below.heap_setCell _ _ _ b (show b ≠ W.heap.size + 1 + 1 by omega), Below.heap_setCell _ _ _ b (show b ≠ W.heap.size + 1 by omega), Below.heap_setCell _ _ _ b (show b ≠ W.heap.size + 1 by omega), Below.heap_setCell _ _ _ b (show b ≠ W.heap.size + 1 by omega), Below.heap_setCell _ _ _ b (show b ≠ W.heap.size + 1 by omega)]⟩
    have htZ := ht.into htz
    obtain ⟨Z, hZe⟩ : ∃ Z, ((((X1.setCell ⟨W.heap.size + 1, 0, none⟩ (.int .i64 t.kind)).setCell ⟨W.heap.size + 1, 1, none⟩ (.int .i64 t.pane)).setCell ⟨W.heap.size + 1, 2, none⟩ (.int .i64 t.size)).setCell ⟨W.heap.size + 1, 3, none⟩ (.slice kA kn kc)).setCell ⟨W.heap.size + 1 + 1, 0, none⟩ (.int .i64 err) = Z := ⟨_, rfl⟩
    rw [hZe] at hz1 hz2 hbz hKZ htZ ⊢
    have hkp := KpC.putObj (P := fun _ => True) Z D _ (.deferred none) hKZ rfl
    have d0 := hkp _ _ trivial (hz1.cell 0)
    have d1 := hkp _ _ trivial (hz1.cell 1)
    have d2 := hkp _ _ trivial (hz1.cell 2)
    have d3 := hkp _ _ trivial (hz1.cell 3)
    have d4 := hkp _ _ trivial (hz2.cell 0)
    have hbP : Below W.heap.size W (Z.putObj D (.deferred none)) := hbz.trans (belowK_b (w := Ws) (by omega) Z D _ _ hD hKZ rfl rfl)
    have htP := htZ.into (W' := Z.putObj D (.deferred none)) (B' := fun b => W.heap.size ≤ b ∧ b < (Z.putObj D (.deferred none)).heap.size) fun b ⟨b1, b2⟩ => ⟨⟨b1, by rw [put_size]; exact b2⟩, fun i u hu => hkp _ _ trivial hu⟩
    refine ⟨by simp, .inl ⟨_, _, rfl, run_takeDeferred hKZ, ?_⟩⟩
    exact ⟨.tuple #[.agg #[.int .i64 t.kind, .int .i64 t.pane, .int .i64 t.size, .slice kA kn kc], .int .i64 err], by simp [results, Try.f64, go_sem, d0, d1, d2, d3, d4], LayP.of hbP htP (by rw [HRS.out]; exact hcase)⟩
  case stop =>
    rintro D c pre X hD hpre ⟨rfl, hRX, pre', x, rfl, hno⟩ hK
    have hNO : Hid (rowsT w h ps = none) := HLN.out (by
      obtain ⟨r, hr⟩ := hpre
      have e : (pre' ++ [x]).map (fun x : Ck W => x.val.1) ++ r = pre'.map (fun x : Ck W => x.val.1) ++ x.val.1 :: r := by simp
      rw [← hr, e]
      exact allT_none hno)
    have hkp := KpC.putObj (P := fun _ => True) X D _ (.deferred none) hK rfl
    have d0 := hkp _ _ trivial (hRX.b1.cell 0)
    have d1 := hkp _ _ trivial (hRX.b1.cell 1)
    have d2 := hkp _ _ trivial (hRX.b1.cell 2)
    have d3 := hkp _ _ trivial (hRX.b1.cell 3)
    have d4 := hkp _ _ trivial (hRX.b2.cell 0)
    have hbP : Below W.heap.size W (X.putObj D (.deferred none)) := hRX.hb.trans (belowK_b (w := Ws) (by omega) X D _ _ hD hK rfl rfl)
    have HBP := hid hbP
    have HK := hid hK
    clear hpre hno hK hbP hRX hkp
    gi_wp2
    refine ⟨by simp, .inl ⟨_, _, rfl, run_takeDeferred HK.out, ?_⟩⟩
    exact ⟨.tuple #[.agg #[.int .i64 0, .int .i64 0, .int .i64 0, .slice none 0 0], .int .i64 9], by simp [results, Try.f64, go_sem, d0, d1, d2, d3, d4], ⟨HBP.out, .inl ⟨hNO.out, rfl⟩⟩⟩
end Go.Proofs.Ytglfolbimafcaaa
