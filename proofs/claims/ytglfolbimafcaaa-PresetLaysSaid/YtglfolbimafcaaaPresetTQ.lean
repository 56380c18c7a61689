/- Layer 12: trees in memory, within some blocks; a row of trees of the call's own. -/
import Derived.Test.YtglfolbimafcaaaTreeXQ
import Derived.Test.YtglfolbimafcaaaPresetMQ
import Derived.Maps.AppendAt
namespace Go.Proofs.Ytglfolbimafcaaa
open Go.RowKit Go.Shelf

mutual
/-- A slice that reads as a tree's kids, all in blocks of B. -/
def TrB (W : World) (B : Nat → Prop) : Tr → Value → Prop
  | .mk _ _ _ l, v => ∃ A c, v = .slice A l.length c ∧ l.length ≤ c ∧ (l ≠ [] → ∃ g o, A = some ⟨g, o, none⟩ ∧ B g ∧ TrsB W B g o l)
def TrsB (W : World) (B : Nat → Prop) (g : Nat) : Nat → List Tr → Prop
  | _, [] => True
  | o, t :: r => (∃ v, W.cell? ⟨g, o, none⟩ = some (.int .i64 t.kind) ∧ W.cell? ⟨g, o + 1, none⟩ = some (.int .i64 t.pane) ∧ W.cell? ⟨g, o + 2, none⟩ = some (.int .i64 t.size) ∧ W.cell? ⟨g, o + 3, none⟩ = some v ∧ TrB W B t v) ∧ TrsB W B g (o + 4) r
end
mutual
theorem TrB.at {W : World} {B : Nat → Prop} : ∀ (t : Tr) (v : Value), TrB W B t v → TrAt W t v
  | .mk _ _ _ l, v, h => by
    unfold TrB at h
    unfold TrAt
    obtain ⟨A, c, e, hc, hl⟩ := h
    refine ⟨A, c, e, hc, fun hn => ?_⟩
    obtain ⟨g, o, hA', _, ht⟩ := hl hn
    exact ⟨g, o, hA', TrsB.at l o ht⟩
theorem TrsB.at {W : World} {B : Nat → Prop} {g : Nat} : ∀ (l : List Tr) (o : Nat), TrsB W B g o l → TrsAt W g o l
  | [], _, _ => by unfold TrsAt; trivial
  | t :: r, o, h => by
    unfold TrsB at h
    unfold TrsAt
    obtain ⟨⟨v, h0, h1, h2, h3, ht⟩, hr⟩ := h
    exact ⟨⟨v, h0, h1, h2, h3, TrB.at t v ht⟩, TrsB.at r _ hr⟩
end
/-- What lies in B's blocks lies in B''s, in the other world, alike. -/
def Into (W W' : World) (B B' : Nat → Prop) : Prop := ∀ b, B b → B' b ∧ ∀ i v, W.cell? ⟨b, i, none⟩ = some v → W'.cell? ⟨b, i, none⟩ = some v
mutual
theorem TrB.into {W W' : World} {B B' : Nat → Prop} (hI : Into W W' B B') : ∀ (t : Tr) (v : Value), TrB W B t v → TrB W' B' t v
  | .mk _ _ _ l, v, h => by
    unfold TrB at h ⊢
    obtain ⟨A, c, e, hc, hl⟩ := h
    refine ⟨A, c, e, hc, fun hn => ?_⟩
    obtain ⟨g, o, hA', hB, ht⟩ := hl hn
    exact ⟨g, o, hA', (hI g hB).1, TrsB.into hI hB l o ht⟩
theorem TrsB.into {W W' : World} {B B' : Nat → Prop} (hI : Into W W' B B') {g : Nat} (hB : B g) : ∀ (l : List Tr) (o : Nat), TrsB W B g o l → TrsB W' B' g o l
  | [], _, _ => by unfold TrsB; trivial
  | t :: r, o, h => by
    unfold TrsB at h ⊢
    obtain ⟨⟨v, h0, h1, h2, h3, ht⟩, hr⟩ := h
    have k := (hI g hB).2
    exact ⟨⟨v, k _ _ h0, k _ _ h1, k _ _ h2, k _ _ h3, TrB.into hI t v ht⟩, TrsB.into hI hB r _ hr⟩
end
theorem TrB.spell {W : World} {B : Nat → Prop} {t : Tr} {v : Value} (h : TrB W B t v) : ∃ A c, v = .slice A t.kids.length c ∧ t.kids.length ≤ c := (TrB.at t v h).spell
theorem TrB.leaf (W : World) (B : Nat → Prop) (p s : Int) : TrB W B (leafP p s) (.slice none 0 0) := by
  unfold leafP TrB
  exact ⟨none, 0, rfl, Nat.le_refl _, fun h => absurd rfl h⟩
theorem TrB.sized {W : World} {B : Nat → Prop} {t : Tr} {v : Value} (h : TrB W B t v) (s : Int) : TrB W B (t.sized s) v := by
  cases t
  unfold Tr.sized TrB at *
  exact h
theorem Into.block {W W' : World} {B B' : Nat → Prop} (h : ∀ b, B b → B' b ∧ W'.heap[b]? = W.heap[b]?) : Into W W' B B' := fun b hb => by
  obtain ⟨h1, h2⟩ := h b hb
  refine ⟨h1, fun i v hv => ?_⟩
  unfold World.cell? at hv ⊢
  rw [h2]
  exact hv
theorem Into.below {W W' : World} (h : Below W.heap.size W W') (P : Nat → Prop) : Into W W' (fun b => P b ∧ b < W.heap.size) (fun b => P b ∧ b < W'.heap.size) :=
  Into.block fun b ⟨h1, h2⟩ => ⟨⟨h1, Nat.lt_of_lt_of_le h2 h.size⟩, h.block b h2⟩

/-- A tree in a row: its cells. -/
def trow (e : Tr × Value) : List Value := [.int .i64 e.1.kind, .int .i64 e.1.pane, .int .i64 e.1.size, e.2]
def tflat : List (Tr × Value) → List Value
  | [] => []
  | e :: l => trow e ++ tflat l
theorem tflat_length : ∀ l, (tflat l).length = l.length * 4
  | [] => rfl
  | e :: l => by rw [tflat, List.length_append, tflat_length l]; simp [trow]; omega
theorem tflat_append : ∀ a b, tflat (a ++ b) = tflat a ++ tflat b
  | [], _ => rfl
  | e :: a, b => by rw [List.cons_append, tflat, tflat, tflat_append a b, List.append_assoc]
theorem tflat_at : ∀ (l : List (Tr × Value)) (j : Nat) (e : Tr × Value) (i : Nat) (u : Value), l[j]? = some e → (trow e)[i]? = some u → (tflat l)[j * 4 + i]? = some u
  | [], _, _, _, _, h, _ => by simp at h
  | x :: l, 0, e, i, u, h, hu => by
    simp at h
    subst h
    have hi : i < 4 := by have := (List.getElem?_eq_some_iff.1 hu).1; simpa [trow] using this
    rw [tflat, List.getElem?_append_left (by simp [trow]; omega)]
    simpa using hu
  | x :: l, j + 1, e, i, u, h, hu => by
    rw [tflat, List.getElem?_append_right (by simp [trow]; omega)]
    have : (trow x).length = 4 := rfl
    rw [this, show (j + 1) * 4 + i - 4 = j * 4 + i by omega]
    exact tflat_at l j e i u (by simpa using h) hu
theorem tflat_set : ∀ (l : List (Tr × Value)) (j : Nat) (e : Tr × Value) (s : Int), l[j]? = some e → (tflat l).set (j * 4 + 2) (.int .i64 s) = tflat (l.set j (e.1.sized s, e.2))
  | [], _, _, _, h => by simp at h
  | x :: l, 0, e, s, h => by
    simp at h
    subst h
    simp [tflat, trow, Tr.sized, Tr.kind, Tr.pane, Tr.size]
  | x :: l, j + 1, e, s, h => by
    have ih := tflat_set l j e s (by simpa using h)
    rw [List.set_cons_succ, tflat, tflat, List.set_append]
    have : (trow x).length = 4 := rfl
    rw [if_neg (by rw [this]; omega), this, show (j + 1) * 4 + 2 - 4 = j * 4 + 2 by omega, ih]
theorem tr_info : (Try.prog.info? 24).map (fun i => (i.zero, i.size, i.bytes)) = some (some (.agg #[.int .i64 0, .int .i64 0, .int .i64 0, .slice none 0 0]), 4, 48) := by kernel_rfl
/-- Where a tree of a row may have its kids: not in the row itself. -/
def Beside (base top : Nat) (v : Value) (b : Nat) : Prop := (base ≤ b ∧ v.ownBlock ≠ some b) ∧ b < top
/-- A slice of the call's own that holds these trees. -/
def OwnT (W : World) (base top : Nat) (v : Value) (L : List (Tr × Value)) : Prop := W.ownsRow base 24 4 v L.length (tflat L) ∧ ∀ e ∈ L, TrB W (Beside base top v) e.1 e.2
theorem OwnT.mono {W : World} {base top top' : Nat} {v : Value} {L : List (Tr × Value)} (h : OwnT W base top v L) (ht : top ≤ top') : OwnT W base top' v L :=
  ⟨h.1, fun e he => (h.2 e he).into (Into.block fun _ ⟨h1, h2⟩ => ⟨⟨h1, Nat.lt_of_lt_of_le h2 ht⟩, rfl⟩)⟩
theorem OwnT.spell {W : World} {base top : Nat} {v : Value} {L : List (Tr × Value)} (h : OwnT W base top v L) : ∃ A c, v = .slice A L.length c := by
  rcases h.1.2 with ⟨rfl, h0⟩ | ⟨g, cap, cur, rfl, _⟩
  · exact ⟨_, _, by rw [h0]⟩
  · exact ⟨_, _, rfl⟩
theorem OwnT.nil (W : World) (base top : Nat) : OwnT W base top (.slice none 0 0) [] := ⟨⟨rfl, .inl ⟨rfl, rfl⟩⟩, fun e he => by cases he⟩
theorem OwnT.kept {W W' : World} {base top : Nat} {v : Value} {L : List (Tr × Value)} (h : OwnT W base top v L) (hb : Below W.heap.size W W') (ht : top ≤ W.heap.size) : OwnT W' base top v L :=
  ⟨World.ownsRow.kept h.1 ⟨hb.os, hb.tape, hb.output, hb.size, fun k hk _ => hb.block k hk⟩ (row := none) (by cases v.ownBlock <;> simp), fun e he => (h.2 e he).into (Into.block fun b ⟨h1, h2⟩ => ⟨⟨h1, h2⟩, hb.block b (Nat.lt_of_lt_of_le h2 ht)⟩)⟩
theorem OwnT.row {W : World} {base top : Nat} {v : Value} {L : List (Tr × Value)} (h : OwnT W base top v L) (hl : L ≠ []) : ∃ g c cur, v = .slice (some ⟨g, 0, none⟩) L.length c ∧ base ≤ g ∧ g < W.heap.size ∧ L.length ≤ c ∧ Box W g 24 cur ∧ cur.size = c * 4 ∧ ∀ j e i u, L[j]? = some e → (trow e)[i]? = some u → W.cell? ⟨g, j * 4 + i, none⟩ = some u := by
  have h' : W.ownsRow base 24 4 v L.length (tflat L) := h.1
  rcases h.1.2 with ⟨rfl, h0⟩ | ⟨g, cap, cur, rfl, hb, hg, hc, _, hcs, _⟩
  · exact absurd (List.length_eq_zero_iff.1 h0) hl
  · refine ⟨g, cap, cur, rfl, hb, (Array.getElem?_eq_some_iff.1 hg).1, hc, hg, hcs, fun j e i u hj hu => ?_⟩
    have hj' : j < L.length := (List.getElem?_eq_some_iff.1 hj).1
    have hi : i < 4 := by have := (List.getElem?_eq_some_iff.1 hu).1; simpa [trow] using this
    rw [h'.cellAt (j * 4 + i) (by omega)]
    exact tflat_at L j e i u hj hu
theorem tr_one (e : Tr × Value) (W : World) (B : Nat → Prop) (h : TrB W B e.1 e.2) : ∀ u ∈ tflat [e], u.oneCell' = true := by
  obtain ⟨A, c, hv, _⟩ := h.spell
  intro u hu
  simp only [tflat, trow, List.append_nil, List.mem_cons, List.mem_nil_iff, or_false] at hu
  rcases hu with rfl | rfl | rfl | rfl
  · rfl
  · rfl
  · rfl
  · rw [hv]; rfl
/-- Kids of trees of a row lie as they lay, behind an append to it. -/
theorem Beside.into {W W' : World} {base top : Nat} {v v' : Value} (hg : W.grownBy W' v.ownBlock) (hv : v'.ownBlock = v.ownBlock ∨ v'.ownBlock = some W.heap.size) (ht : top ≤ W.heap.size) : Into W W' (Beside base top v) (Beside base top v') := Into.block fun b ⟨⟨h1, h2⟩, h3⟩ =>
  ⟨⟨⟨h1, by rcases hv with e | e <;> rw [e]; exact h2; intro e'; cases e'; omega⟩, h3⟩, hg.block b (Nat.lt_of_lt_of_le h3 ht) (fun e => h2 e.symm)⟩
theorem wpList_append_t {ops : Array Oper} {rest : List Oper} {o : Oper} {a : Act} {w : World} {Q : Exit → Act → World → Prop} (hgd : o.guard = none) (s x : Operand)
    (ho : o.op = .call { callee := .builtin .append, args := #[s, x], argTypes := #[22, 22] }) (base top : Nat) (v : Value) (L : List (Tr × Value)) (e : Tr × Value) (g : Nat) (hs : a.eval s = v) (hown : OwnT w base top v L)
    (hxe : a.eval x = .slice (some ⟨g, 0, none⟩) 1 1) (hx : Box w g 24 (trow e).toArray) (ht : TrB w (Beside base top v) e.1 e.2) (hb : L.length ≤ 1000) (hbase : base ≤ w.heap.size) (htop : top ≤ w.heap.size)
    (h : ∀ v' w', OwnT w' base top v' (L ++ [e]) → w.grownBy w' v.ownBlock → (v'.ownBlock = v.ownBlock ∨ v'.ownBlock = some w.heap.size) → wpList Try.prog ops Q rest (a.put o.dst v') w') : wpList Try.prog ops Q (o :: rest) a w := by
  obtain ⟨i0, hi, hz0, hz1, hz2⟩ := info_parts tr_info
  refine wpList_append_own_at w hgd s x 22 ho base 24 i0 _ 4 48 Try.underlying22 hi hz0 hz1 hz2 rfl (by decide) v L.length (tflat L) hs hown.1 ⟨g, 0, none⟩ 1 1 (tflat [e]) hxe (tflat_length [e]) (lit_at (l := tflat [e]) (by simpa [tflat] using hx)) (tr_one e w _ ht) (by unfold maxLen; omega) (by omega) hbase ?_
  intro v' w' h1 h2 _ h4
  refine h v' w' ⟨?_, fun u hu => ?_⟩ h2 h4
  · rw [List.length_append, tflat_append]
    exact h1
  · rcases List.mem_append.1 hu with hu | hu
    · exact (hown.2 u hu).into (Beside.into h2 h4 htop)
    · obtain rfl := List.mem_singleton.1 hu
      exact ht.into (Beside.into h2 h4 htop)
/-- A Size is set. -/
theorem OwnT.sized {W : World} {base top : Nat} {L : List (Tr × Value)} {g n c j : Nat} {e : Tr × Value} (h : OwnT W base top (.slice (some ⟨g, 0, none⟩) n c) L) (hj : L[j]? = some e) (s : Int) : OwnT (W.setCell ⟨g, j * 4 + 2, none⟩ (.int .i64 s)) base top (.slice (some ⟨g, 0, none⟩) n c) (L.set j (e.1.sized s, e.2)) := by
  have hjl : j < L.length := (List.getElem?_eq_some_iff.1 hj).1
  have hI : Into W (W.setCell ⟨g, j * 4 + 2, none⟩ (.int .i64 s)) (Beside base top (.slice (some ⟨g, 0, none⟩) n c)) (Beside base top (.slice (some ⟨g, 0, none⟩) n c)) := Into.block fun b ⟨⟨h1, h2⟩, h3⟩ =>
    ⟨⟨⟨h1, h2⟩, h3⟩, Below.heap_setCell W ⟨g, j * 4 + 2, none⟩ _ b (fun e => h2 (by rw [e]; rfl))⟩
  refine ⟨?_, fun u hu => ?_⟩
  · obtain ⟨hl, h2⟩ := h.1
    rcases h2 with ⟨h0, _⟩ | ⟨g', cap, cur, hv, hb, hg, hc, hm, hcs, htk⟩
    · cases h0
    · cases hv
      rw [List.length_set, ← tflat_set L j e s hj]
      refine ⟨by rw [List.length_set]; exact hl, .inr ⟨g, c, cur.setIfInBounds (j * 4 + 2) (.int .i64 s), rfl, hb, ?_, hc, hm, by simpa using hcs, ?_⟩⟩
      · exact Box.set (show Box W g 24 cur from hg) _
      · rw [Array.toList_setIfInBounds, List.take_set, htk]
  · rcases List.mem_or_eq_of_mem_set hu with hu | rfl
    · exact (h.2 u hu).into hI
    · exact ((h.2 e (List.mem_of_getElem? hj)).sized s).into hI
theorem TrsB.of {W : World} {B : Nat → Prop} {g : Nat} : ∀ (L : List (Tr × Value)) (o : Nat), (∀ j e i u, L[j]? = some e → (trow e)[i]? = some u → W.cell? ⟨g, o + (j * 4 + i), none⟩ = some u) → (∀ e ∈ L, TrB W B e.1 e.2) → TrsB W B g o (L.map Prod.fst)
  | [], _, _, _ => by unfold TrsB; trivial
  | e :: L, o, h, ht => by
    rw [List.map_cons]
    unfold TrsB
    refine ⟨⟨e.2, h 0 e 0 _ rfl rfl, ?_, ?_, ?_, ht e (List.mem_cons_self ..)⟩, TrsB.of L (o + 4) (fun j u i x hj hx => ?_) fun u hu => ht u (List.mem_cons_of_mem _ hu)⟩
    · simpa using h 0 e 1 _ rfl rfl
    · simpa using h 0 e 2 _ rfl rfl
    · simpa using h 0 e 3 _ rfl rfl
    · have := h (j + 1) u i x (by simpa using hj) hx
      rwa [show o + ((j + 1) * 4 + i) = o + 4 + (j * 4 + i) by omega] at this
/-- The row as a tree's kids. -/
theorem OwnT.tree {W : World} {base top T : Nat} {v : Value} {L : List (Tr × Value)} (h : OwnT W base top v L) (hT : ∀ g, v.ownBlock = some g → g < T) (ht : top ≤ T) (k p s : Int) : TrB W (fun b => base ≤ b ∧ b < T) (.mk k p s (L.map Prod.fst)) v := by
  by_cases hl : L = []
  · subst hl
    rcases h.1.2 with ⟨rfl, _⟩ | ⟨g, cap, cur, rfl, _⟩
    · unfold TrB
      exact ⟨none, 0, rfl, Nat.le_refl _, fun h => absurd rfl h⟩
    · unfold TrB
      exact ⟨_, cap, rfl, Nat.zero_le _, fun h => absurd rfl h⟩
  · obtain ⟨g, c, cur, rfl, h1, h2, h3, _, _, hc⟩ := h.row hl
    unfold TrB
    refine ⟨some ⟨g, 0, none⟩, c, by rw [List.length_map], by rw [List.length_map]; exact h3, fun _ => ⟨g, 0, rfl, ⟨h1, hT g rfl⟩, TrsB.of L 0 (fun j e i u hj hu => ?_) fun e he => ?_⟩⟩
    · rw [Nat.zero_add]; exact hc j e i u hj hu
    · exact (h.2 e he).into (Into.block fun b ⟨⟨a1, _⟩, a3⟩ => ⟨⟨a1, Nat.lt_of_lt_of_le a3 ht⟩, rfl⟩)
end Go.Proofs.Ytglfolbimafcaaa
