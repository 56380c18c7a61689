/- Layer 5, the package: a reader in memory: its cells, its list, its numbers; what keeps them; telling a thing that is done. -/
import Derived.Test.YtpcpdbofbbpglaaDoorParseM
import Derived.Test.YtpcpdbofbbpglaaDoorParseS
import Derived.Test.YtpcpdbofbbpglaaDoorInts
import Derived.Deep.RegionLaw
import Derived.Maps.AppendAt
namespace Go.Proofs.YtpcpdbofbbpglaaDoor
open Go.RowKit

/-- A slice of numbers of one's own, its block below a bound; or one that holds none, and has no room. -/
def NumO (W : World) (lo hi : Nat) (v : Value) (l : List Int) : Prop :=
  (l = [] ∧ ∃ A, v = .slice A 0 0) ∨ (OwnI W lo v l ∧ ∀ g, v.ownBlock = some g → g < hi)
/-- The blocks of numbers below a bound stay. -/
def Kept (hi : Nat) (W W' : World) : Prop := ∀ g cur, g < hi → W.heap[g]? = some (.cells cur 3 (0, 0)) → W'.heap[g]? = some (.cells cur 3 (0, 0))
theorem Kept.refl (hi : Nat) (W : World) : Kept hi W W := fun _ _ _ h => h
theorem Kept.trans {hi : Nat} {W W1 W2 : World} (h : Kept hi W W1) (h2 : Kept hi W1 W2) : Kept hi W W2 := fun g cur hg hc => h2 g cur hg (h g cur hg hc)
theorem Kept.mono {hi hi' : Nat} {W W1 : World} (h : Kept hi W W1) (hh : hi' ≤ hi) : Kept hi' W W1 := fun g cur hg hc => h g cur (by omega) hc
theorem Kept.of_below {W W' : World} (hi : Nat) (h : Below W.heap.size W W') : Kept hi W W' := fun g _ _ hc => (h.block g (Array.getElem?_eq_some_iff.1 hc).1).trans hc
theorem Kept.set {W : World} {b i : Nat} {t : TypeId} {cs : Array Value} (hi : Nat) (hb : Box W b t cs) (ht : t ≠ 3) (u : Value) : Kept hi W (W.setCell ⟨b, i, none⟩ u) := by
  intro g cur _ hc
  refine (Below.heap_setCell W ⟨b, i, none⟩ u g ?_).trans hc
  show g ≠ b
  rintro rfl
  have hb' : W.heap[g]? = some (.cells cs t (0, 0)) := hb
  rw [hc] at hb'
  cases hb'
  exact ht rfl
theorem Kept.grown {W W' : World} {row : Option Nat} (hi : Nat) (hg : W.grownBy W' row) (hr : ∀ g cur, row = some g → W.heap[g]? = some (.cells cur 3 (0, 0)) → hi ≤ g) : Kept hi W W' := by
  intro g cur hlt hc
  refine (hg.block g (Array.getElem?_eq_some_iff.1 hc).1 (fun e => ?_)).trans hc
  have := hr g cur e.symm hc
  omega
theorem NumO.kept {W W' : World} {lo hi : Nat} {v : Value} {l : List Int} (h : NumO W lo hi v l) (hk : Kept hi W W') : NumO W' lo hi v l := by
  rcases h with h | ⟨⟨h1, h2⟩, hlt⟩
  · exact .inl h
  · refine .inr ⟨⟨h1, ?_⟩, hlt⟩
    rcases h2 with h2 | ⟨g, cap, cur, rfl, hb, hg, rest⟩
    · exact .inl h2
    · exact .inr ⟨g, cap, cur, rfl, hb, hk g cur (hlt g rfl) hg, rest⟩
theorem NumO.mono {W : World} {lo lo' hi hi' : Nat} {v : Value} {l : List Int} (h : NumO W lo hi v l) (h1 : lo' ≤ lo) (h2 : hi ≤ hi') : NumO W lo' hi' v l := by
  rcases h with h | ⟨⟨e, h⟩, hlt⟩
  · exact .inl h
  · refine .inr ⟨⟨e, ?_⟩, fun g hg => Nat.lt_of_lt_of_le (hlt g hg) h2⟩
    rcases h with h | ⟨g, cap, cur, rfl, hb, rest⟩
    · exact .inl h
    · exact .inr ⟨g, cap, cur, rfl, Nat.le_trans h1 hb, rest⟩
theorem NumO.spell {W : World} {lo hi : Nat} {v : Value} {l : List Int} (h : NumO W lo hi v l) : ∃ A c, v = .slice A l.length c := by
  rcases h with ⟨rfl, A, rfl⟩ | ⟨h, _⟩
  · exact ⟨A, 0, rfl⟩
  · exact h.spell
theorem NumO.nil (W : World) (lo hi : Nat) : NumO W lo hi (.slice none 0 0) [] := .inl ⟨rfl, none, rfl⟩
theorem NumO.row {W : World} {lo hi : Nat} {v : Value} {l : List Int} (h : NumO W lo hi v l) (hl : l ≠ []) : ∃ g c, v = .slice (some ⟨g, 0, none⟩) l.length c ∧ lo ≤ g ∧ g < W.heap.size ∧ g < hi ∧ l.length ≤ c ∧ ∀ j x, l[j]? = some x → W.cell? ⟨g, j, none⟩ = some (.int .i64 x) := by
  rcases h with ⟨h, _⟩ | ⟨h, hlt⟩
  · exact absurd h hl
  · have h' : W.ownsRow lo 3 1 v l.length (ints l) := h
    rcases h.2 with ⟨rfl, h0⟩ | ⟨g, cap, cur, rfl, hb, hg, hc, _⟩
    · exact absurd (List.length_eq_zero_iff.1 h0) hl
    · refine ⟨g, cap, rfl, hb, (Array.getElem?_eq_some_iff.1 hg).1, hlt g rfl, hc, fun j x hx => ?_⟩
      have hj : j < l.length := (List.getElem?_eq_some_iff.1 hx).1
      rw [h'.cellAt j (by omega)]
      unfold ints
      rw [List.getElem?_map, hx]
      rfl
theorem NumO.irow {W : World} {lo hi : Nat} {v : Value} {l : List Int} (h : NumO W lo hi v l) : IRow W v l := by
  by_cases hl : l = []
  · obtain ⟨A, c, e⟩ := h.spell
    exact ⟨A, c, e, fun hn => absurd hl hn⟩
  · obtain ⟨g, c, e, _, hg, _, _, hx⟩ := h.row hl
    refine ⟨_, c, e, fun _ => ⟨_, rfl, hg, fun j x hj => ?_⟩⟩
    have hadd : (⟨g, 0, none⟩ : Addr).add j = ⟨g, j, none⟩ := by unfold Addr.add; split <;> simp_all
    rw [hadd]
    exact hx j x hj

/-- Things, their cells one behind the other. -/
def dflat : List (Dn × Value) → List Value
  | [] => []
  | e :: l => (e.1.cells e.2).toList ++ dflat l
theorem dflat_length : ∀ l, (dflat l).length = l.length * 7
  | [] => rfl
  | e :: l => by rw [dflat, List.length_append, dflat_length l]; simp [Dn.cells]; omega
theorem dflat_append : ∀ a b, dflat (a ++ b) = dflat a ++ dflat b
  | [], _ => rfl
  | e :: a, b => by rw [List.cons_append, dflat, dflat, dflat_append a b, List.append_assoc]
theorem dflat_at : ∀ (l : List (Dn × Value)) (j : Nat) (e : Dn × Value) (i : Nat) (u : Value), l[j]? = some e → (e.1.cells e.2)[i]? = some u → (dflat l)[j * 7 + i]? = some u
  | [], _, _, _, _, h, _ => by simp at h
  | x :: l, 0, e, i, u, h, hu => by
    simp at h
    subst h
    have hi : i < 7 := by have := (Array.getElem?_eq_some_iff.1 hu).1; simpa [Dn.cells] using this
    rw [dflat, List.getElem?_append_left (by simp [Dn.cells]; omega)]
    simpa using hu
  | x :: l, j + 1, e, i, u, h, hu => by
    rw [dflat, List.getElem?_append_right (by simp [Dn.cells]; omega)]
    have : (x.1.cells x.2).toList.length = 7 := by simp [Dn.cells]
    rw [this, show (j + 1) * 7 + i - 7 = j * 7 + i by omega]
    exact dflat_at l j e i u (by simpa using h) hu
def OwnD (W : World) (base : Nat) (v : Value) (l : List (Dn × Value)) : Prop := W.ownsRow base 37 7 v l.length (dflat l)
theorem do_info : (Tryd.prog.info? 37).map (fun i => (i.zero, i.size, i.bytes)) = some (some (.agg #[.int .i64 0, .int .i32 0, .int .i64 0, .int .i64 0, .slice none 0 0, .int .i64 0, .string ⟨#[]⟩]), 7, 80) := by kernel_rfl
theorem OwnD.spell {W : World} {base : Nat} {v : Value} {l : List (Dn × Value)} (h : OwnD W base v l) : ∃ A c, v = .slice A l.length c := by
  rcases h.2 with ⟨rfl, h0⟩ | ⟨g, cap, cur, rfl, _⟩
  · exact ⟨_, _, by rw [h0]⟩
  · exact ⟨_, _, rfl⟩
theorem OwnD.kept {W W' : World} {base : Nat} {v : Value} {l : List (Dn × Value)} (h : OwnD W base v l) (hb : Below W.heap.size W W') : OwnD W' base v l :=
  World.ownsRow.kept h ⟨hb.os, hb.tape, hb.output, hb.size, fun k hk _ => hb.block k hk⟩ (row := none) (by cases v.ownBlock <;> simp)
theorem OwnD.not_box {W : World} {base b : Nat} {t : TypeId} {cs : Array Value} {v : Value} {l : List (Dn × Value)} (h : OwnD W base v l) (hb : Box W b t cs) (ht : t ≠ 37) : some b ≠ v.ownBlock := by
  rcases h.2 with ⟨rfl, _⟩ | ⟨g, cap, cur, rfl, _, hg, _⟩
  · simp [Value.ownBlock]
  · simp only [Value.ownBlock, ne_eq, Option.some.injEq]
    rintro rfl
    have hb' : W.heap[b]? = some (.cells cs t (0, 0)) := hb
    rw [hg] at hb'
    cases hb'
    exact ht rfl
theorem OwnD.set {W : World} {base b i : Nat} {t : TypeId} {cs : Array Value} {v : Value} {l : List (Dn × Value)} (h : OwnD W base v l) (hb : Box W b t cs) (ht : t ≠ 37) (u : Value) : OwnD (W.setCell ⟨b, i, none⟩ u) base v l :=
  World.ownsRow.kept h (row := some b) ⟨rfl, rfl, rfl, by simp [World.setCell], fun k _ hk => Below.heap_setCell _ _ _ _ (fun e => hk (by rw [e]))⟩ (.inr (h.not_box hb ht).symm)
theorem OwnD.not_int {W : World} {base : Nat} {v : Value} {l : List (Dn × Value)} (h : OwnD W base v l) : ∀ g cur, v.ownBlock = some g → W.heap[g]? = some (.cells cur 3 (0, 0)) → False := by
  intro g cur e hg
  rcases h.2 with ⟨rfl, _⟩ | ⟨g', cap, cur', rfl, _, hg', _⟩
  · cases e
  · simp only [Value.ownBlock, Option.some.injEq] at e
    subst e
    rw [hg] at hg'
    cases hg'
theorem OwnD.nil (W : World) (base : Nat) : OwnD W base (.slice none 0 0) [] := ⟨rfl, .inl ⟨rfl, rfl⟩⟩
theorem OwnD.drow {W : World} {base lo hi : Nat} {v : Value} {l : List (Dn × Value)} (h : OwnD W base v l) (hn : ∀ e ∈ l, NumO W lo hi e.2 e.1.params ∧ e.1.params.length ≤ 16) : DRow W v l := by
  have h' : W.ownsRow base 37 7 v l.length (dflat l) := h
  rcases h.2 with ⟨rfl, h0⟩ | ⟨g, cap, cur, rfl, _, hg, _⟩
  · exact ⟨_, _, by rw [h0], fun hl => absurd (List.length_eq_zero_iff.1 h0) hl⟩
  · refine ⟨_, _, rfl, fun _ => ⟨g, rfl, (Array.getElem?_eq_some_iff.1 hg).1, fun j e hj => ?_⟩⟩
    obtain ⟨hj1, hj2⟩ := List.getElem?_eq_some_iff.1 hj
    obtain ⟨n1, n2⟩ := hn e (by rw [← hj2]; exact List.getElem_mem _)
    refine ⟨fun i u hu => ?_, n1.irow, by omega⟩
    have hi : i < 7 := by have := (Array.getElem?_eq_some_iff.1 hu).1; simpa [Dn.cells] using this
    rw [h'.cellAt (j * 7 + i) (by omega)]
    exact dflat_at l j e i u hj hu

/-- One thing appended to a row of the call's own, as one step of a region that draws. -/
theorem step_append_dn {ops : Array Oper} {o : Oper} {a : Act} {w : World} {K : Act → World → Prop} {Q : Exit → Act → World → Prop} {E : Prop} (hg : o.guard = none) (s x : Operand)
    (ho : o.op = .call { callee := .builtin .append, args := #[s, x], argTypes := #[26, 26] }) (base : Nat) (v : Value) (l : List (Dn × Value)) (hs : a.eval s = v) (hown : OwnD w base v l)
    (d : Dn) (dv : Value) (hdv : ∃ A n c, dv = .slice A n c) (ad : Addr) (c : Nat) (hx : a.eval x = .slice (some ad) 1 c) (hc : ∀ j u, (d.cells dv).toList[j]? = some u → w.cell? (ad.add j) = some u) (hb : l.length ≤ 500000) (hbase : base ≤ w.heap.size)
    (h : ∀ v' w', OwnD w' base v' (l ++ [(d, dv)]) → w.grownBy w' v.ownBlock → K (a.put o.dst v') w') : if Region.wanted o (yielded ops a.tmps) = true then Oper.wp Tryd.prog o a w K Q else E := by
  have hw : Region.wanted o (yielded ops a.tmps) = true := by simp [Region.wanted, hg]
  rw [if_pos hw]
  obtain ⟨i0, hi, hz0, hz1, hz2⟩ := info_parts do_info
  have h1 : ∀ u ∈ (d.cells dv).toList, u.oneCell' = true := by
    obtain ⟨A, n, c, rfl⟩ := hdv
    intro u hu
    simp only [Dn.cells, List.mem_cons, List.mem_nil_iff, or_false] at hu
    rcases hu with rfl | rfl | rfl | rfl | rfl | rfl | rfl <;> rfl
  refine wp_append_own w s x 26 ho base 37 i0 _ 7 80 Tryd.underlying26 hi hz0 hz1 hz2 rfl (by decide) v l.length (dflat l) hs hown ad 1 c (d.cells dv).toList hx (by simp [Dn.cells]) hc h1 (by unfold maxLen; omega) (by omega) hbase ?_
  intro v' w' h2 h3 _
  refine h v' w' ?_ h3
  unfold OwnD
  rw [List.length_append, dflat_append]
  simpa [dflat] using h2

/-- A reader's cells. -/
def rdCells (R : Nat) (p : Pa) (v dv : Value) : Array Value :=
  #[.int .i64 p.st, .int .i64 p.priv, v, .int .i64 p.inter, .string p.osc, .string p.pend, dv,
    .func (.func 29) #[.pointer (some ⟨R, 0, none⟩)] #[], .func (.func 30) #[.pointer (some ⟨R, 0, none⟩)] #[],
    .func (.func 31) #[.pointer (some ⟨R, 0, none⟩)] #[], .func (.func 32) #[.pointer (some ⟨R, 0, none⟩)] #[],
    .func (.func 33) #[.pointer (some ⟨R, 0, none⟩)] #[], .func (.func 34) #[.pointer (some ⟨R, 0, none⟩)] #[],
    .func (.func 35) #[.pointer (some ⟨R, 0, none⟩)] #[], .func (.func 36) #[.pointer (some ⟨R, 0, none⟩)] #[],
    .func (.func 37) #[.pointer (some ⟨R, 0, none⟩)] #[]]
/-- A reader, its numbers in a slice, its things with theirs. -/
def RdX (B R hi : Nat) (W : World) (p : Pa) (v : Value) (lv : List (Dn × Value)) : Prop :=
  ∃ dv, B ≤ R ∧ Box W R 50 (rdCells R p v dv) ∧ OwnD W B dv lv ∧ ∀ e ∈ lv, NumO W B hi e.2 e.1.params ∧ e.1.params.length ≤ 16
/-- What is below a bound stays, and all blocks of numbers. -/
def Told (B : Nat) (W W' : World) : Prop := Below B W W' ∧ ∀ k, Kept k W W'

theorem tell_end {B R hi : Nat} {W W2 w7 : World} {p : Pa} {v dv v' : Value} {lv : List (Dn × Value)} {d : Dn} {u : Value} (hBR : B ≤ R) (hbox : Box W R 50 (rdCells R p v dv)) (hown : OwnD W B dv lv)
    (hnum : ∀ e ∈ lv, NumO W B hi e.2 e.1.params ∧ e.1.params.length ≤ 16) (hd : NumO W B hi u d.params) (hl : d.params.length ≤ 16) (hB : B ≤ W.heap.size) (h2 : Below W.heap.size W W2) (hown7 : OwnD w7 B v' (lv ++ [(d, u)])) (hgrow : W2.grownBy w7 dv.ownBlock) :
    RdX B R hi (w7.setCell ⟨R, 6, none⟩ v') p v (lv ++ [(d, u)]) ∧ Told B W (w7.setCell ⟨R, 6, none⟩ v') := by
  have box2 := hbox.below h2 hbox.lt
  have own2 := hown.kept h2
  have box7 := box2.grown hgrow (own2.not_box box2 (by decide))
  have kp : ∀ k, Kept k W (w7.setCell ⟨R, 6, none⟩ v') := fun k => ((Kept.of_below k h2).trans (Kept.grown k hgrow (fun g cur e hg => (own2.not_int g cur e hg).elim))).trans (Kept.set k box7 (by decide) _)
  refine ⟨⟨v', hBR, box7.set v', hown7.set box7 (by decide) _, fun e he => ?_⟩, ?_, kp⟩
  · rw [List.mem_append, List.mem_singleton] at he
    rcases he with he | rfl
    · exact ⟨(hnum e he).1.kept (kp hi), (hnum e he).2⟩
    · exact ⟨hd.kept (kp hi), hl⟩
  · exact ((h2.mono hB).grown hgrow (Nat.le_trans hB h2.size) (fun k e => (World.ownsRow.lt own2 k e).1)).setCell hBR _

set_option maxRecDepth 100000 in
set_option maxHeartbeats 1000000 in
theorem tell_any (B R hi : Nat) (W : World) (p : Pa) (v : Value) (lv : List (Dn × Value)) (d : Dn) (u : Value) (h : RdX B R hi W p v lv) (hd : NumO W B hi u d.params) (hl : d.params.length ≤ 16) (hn : lv.length ≤ 500000) (hB : B ≤ W.heap.size) :
    Calls Tryd.prog 50 #[.pointer (some ⟨R, 0, none⟩), .agg (d.cells u)] W fun e w' => e = .returned (.tuple #[]) ∧ RdX B R hi w' p v (lv ++ [(d, u)]) ∧ Told B W w' := by
  obtain ⟨dv, hBR, hbox, hown, hnum⟩ := h
  have hR := hbox.lt
  have c6 : W.cell? ⟨R, 6, none⟩ = some dv := hbox.cell 6
  have f6 : W.frozen? ⟨R, 6, none⟩ = false := hbox.free 6
  have hsp : ∃ A n c, u = .slice A n c := by obtain ⟨A, c, e⟩ := hd.spell; exact ⟨A, _, c, e⟩
  obtain ⟨A, n, c, rfl⟩ := hsp
  obtain ⟨dA, dc, rfl⟩ := hown.spell
  have HB := hid hbox
  have HN := hid hnum
  have HO := hid hown
  have HD := hid hd
  clear hbox hnum hown hd
  have HL := hid hn
  have hz : W.heap.size < W.heap.size + 1 := by omega
  clear hn
  obtain ⟨d1, d2, d3, d4, d5, d6, d7⟩ := d
  have hcell : ∀ (W0 : World) b, b = W0.heap.size → ∀ j u, (Dn.cells ⟨d1, d2, d3, d4, d5, d6, d7⟩ (.slice A n c)).toList[j]? = some u → (W0.alloc (.cells #[.int .i64 d1, .int .i32 d2, .int .i64 d3, .int .i64 d4, .slice A n c, .int .i64 d6, .string d7] 37)).drew.cell? ((⟨b, 0, none⟩ : Addr).add j) = some u := by
    rintro W0 _ rfl j u hu
    exact lit_at (Box.new W0 37 _).drew j u hu
  have HC := hid hcell
  clear hcell
  unfold Dn.cells
  simp only
  go_enter Tryd.func50, Tryd.ntmps50
  go_wp2
  first | go_region_law (refine step_append_dn rfl _ _ rfl B _ lv rfl ((HO.out.kept (below_alloc _ _)).kept (below_alloc _ _).drew) ⟨d1, d2, d3, d4, d5, d6, d7⟩ (.slice A n c) ⟨_, _, _, rfl⟩ ⟨_, 0, none⟩ 1 rfl (HC.out _ _ (by simp)) HL.out (by simp; omega) ?_; intro v' w7 hown7 hgrow7; have b7 := ((HB.out.alloc _).alloc _).drew.grown hgrow7 (HO.out.not_box HB.out (by decide)); have g6 : w7.cell? ⟨R, 6, none⟩ = some (.slice dA lv.length dc) := b7.cell 6; have k6 : w7.frozen? ⟨R, 6, none⟩ = false := b7.free 6; obtain ⟨A', c', rfl⟩ := hown7.spell; rw [List.length_append, List.length_singleton] at hown7) | fail
  all_goals
    go_end0
    exact ⟨rfl, tell_end hBR HB.out HO.out HN.out HD.out hl hB (((below_alloc _ _).alloc (by simp) _).drew) hown7 hgrow7⟩
end Go.Proofs.YtpcpdbofbbpglaaDoor
