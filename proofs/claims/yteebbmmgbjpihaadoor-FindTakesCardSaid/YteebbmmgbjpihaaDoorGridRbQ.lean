/- Layer 6, the reference: a grid with a line changed: Set, Soft. Made by wip/gen/gridSet.py. -/
/- Layer 6, the reference: cells erased. Made by wip/gen/gridRef.py. -/
/- Layer 6, the reference: cells come and go one by one, then Set. Made by wip/gen/gridRi.py. -/
/- Layer 8: rows of rows of cells, read, and of the call's own. -/
/- Layer 8, the reference: is a cell blank, may lines be. Made by wip/gen/flowB.py. -/
/- Layer 8: rows that are joined. Made by wip/gen/flowJ.py. -/
/- Layer 8, the package: filled, colsRight, mayBe; cmp.Or of two texts. -/
/- Layer 8, the package: mayBe, colsRight; cmp.Or of two texts. -/
/- Layer 6, the reference: a letter put. Made by wip/gen/gridRef.py. -/
/- What the law GridPuts wants. Made by wip/gen/gridPutsLaw.py. -/
/- Layer 6, the reference: a line of blank cells. -/
import Derived.Test.YteebbmmgbjpihaaDoorGridRmQ
import Derived.Test.YteebbmmgbjpihaaDoorGridLaQ
import Derived.Test.YteebbmmgbjpihaaDoorGridEraseQ
import Derived.Test.YteebbmmgbjpihaaDoorGridPdQ
import Derived.Test.YteebbmmgbjpihaaDoorGridInsQ
import Derived.Test.YteebbmmgbjpihaaDoorCellEq2Q
import Derived.Test.YteebbmmgbjpihaaDoorGridRfQ
import Derived.Deep.DeepCutAuto
import Derived.Test.YteebbmmgbjpihaaDoorCellGQ
import Derived.Test.YteebbmmgbjpihaaDoorBackPQ
import Derived.Deep.RegionWith
import Derived.Deep.RegionLaw
namespace Go.Proofs.YteebbmmgbjpihaaDoor
open Go.RowKit

/-- Each line's cells are those of one of these, or the call's own. -/
def Newc (W : World) (base : Nat) (lv lv' : List (Ln × Value)) : Prop := ∀ x ∈ lv', (∃ z ∈ lv, z.2 = x.2 ∧ z.1.cs = x.1.cs) ∨ CSl W base x.2 x.1.cs
theorem Newc.set {W : World} {base b i : Nat} {t : TypeId} {cs : Array Value} {lv lv' : List (Ln × Value)} (h : Newc W base lv lv') (hb : Box W b t cs) (ht : t ≠ 44) (u : Value) : Newc (W.setCell ⟨b, i, none⟩ u) base lv lv' :=
  fun x hx => (h x hx).imp id fun h => h.set hb ht u
theorem Newc.below {W W' : World} {base B : Nat} {lv lv' : List (Ln × Value)} (h : Newc W base lv lv') (hb : Below B W W') (hB : W.heap.size ≤ B) : Newc W' base lv lv' := fun x hx => (h x hx).imp id fun h => h.below hb hB
theorem Newc.mono {W : World} {base base' : Nat} {lv lv' : List (Ln × Value)} (h : Newc W base lv lv') (hb : base' ≤ base) : Newc W base' lv lv' := fun x hx => (h x hx).imp id fun h => h.mono hb
theorem Newc.ces {W : World} {base : Nat} {lv lv' : List (Ln × Value)} (h : Newc W base lv lv') (hc : CesOf W lv) : CesOf W lv' := fun x hx => (h x hx).elim (fun ⟨z, hz, h1, h2⟩ => by rw [← h1, ← h2]; exact hc z hz) fun h => h.row
theorem Newc.grown {W W' : World} {base base' : Nat} {v' : Value} {lv lv' lw : List (Ln × Value)} (h : Newc W base lv lv') (ho : OwnL W base' v' lw) (hg : W.grownBy W' v'.ownBlock) : Newc W' base lv lv' := fun x hx => (h x hx).imp id fun h => h.grown ho hg
def RPost (W : World) (cols : Int) (lv : List (Ln × Value)) (tgt : List Ln) (e : Ending) (w' : World) : Prop :=
  ∃ v lv', e = .returned (.agg #[.int .i64 cols, v]) ∧ lv'.map Prod.fst = tgt ∧ LSl w' W.heap.size v lv' ∧ Newc w' W.heap.size lv lv' ∧ Below W.heap.size W w'
theorem take_one {α : Type} {l : List α} {k : Nat} {x : α} (h : l[k]? = some x) : l.take (k + 1) = l.take k ++ [x] := by
  obtain ⟨hk, rfl⟩ := List.getElem?_eq_some_iff.1 h
  rw [List.take_succ_eq_append_getElem hk]
end Go.Proofs.YteebbmmgbjpihaaDoor

namespace Go.Proofs.YteebbmmgbjpihaaDoor
open Go.RowKit

theorem putL_at {l : List Ce} {k j : Nat} {c : Ce} (h : c.wd = 2 → k + 1 < l.length) (hk : k < l.length) : (putL l k c)[j]? = if j = k then some c else if j = k + 1 ∧ c.wd = 2 then some (rhC c.at) else l[j]? := by
  unfold putL
  by_cases h2 : c.wd = 2
  · rw [if_pos h2]
    have hl := h h2
    by_cases h3 : j = k + 1
    · subst h3
      rw [List.getElem?_set_self (by rw [List.length_set]; exact hl), if_neg (by omega), if_pos ⟨rfl, h2⟩]
    · rw [List.getElem?_set_ne (Ne.symm h3), if_neg (c := j = k + 1 ∧ c.wd = 2) (fun h => h3 h.1)]
      by_cases h4 : j = k
      · subst h4; rw [List.getElem?_set_self hk, if_pos rfl]
      · rw [List.getElem?_set_ne (Ne.symm h4), if_neg h4]
  · rw [if_neg h2, if_neg (c := j = k + 1 ∧ c.wd = 2) (fun h => h2 h.2)]
    by_cases h4 : j = k
    · subst h4; rw [List.getElem?_set_self hk, if_pos rfl]
    · rw [List.getElem?_set_ne (Ne.symm h4), if_neg h4]

end Go.Proofs.YteebbmmgbjpihaaDoor

namespace Go.Proofs.YteebbmmgbjpihaaDoor
open Go.RowKit

theorem CeRow.take {W : World} {g o c n : Nat} {l : List Ce} (h : CeRow W (.slice (some ⟨g, o, none⟩) n c) l) (hn : l.length = n) {k : Nat} (hk : k ≤ n) : CeRow W (.slice (some ⟨g, o, none⟩) k c) (l.take k) := by
  obtain ⟨A', c', e, hc, hx⟩ := h
  rw [hn] at e hc
  cases e
  refine ⟨_, _, by rw [List.length_take, hn, Nat.min_eq_left hk], by rw [List.length_take]; omega, fun hne => ?_⟩
  obtain ⟨g', o', e', hg, hcell⟩ := hx (by intro e; rw [e] at hne; simp at hne)
  cases e'
  refine ⟨g, o, rfl, hg, fun j e he => ?_⟩
  rw [List.getElem?_take] at he
  split at he
  · exact hcell j e he
  · cases he
theorem shift_more {cols row col num : Int} {a : At} {lv : List (Ln × Value)} (h : shiftOk cols lv row col num a = true) :
    ∃ (r q K : Nat) (cs : List Ce) (soft : Bool) (u : Value), row = r ∧ col = q ∧ lv[r]? = some (⟨cs, soft⟩, u) ∧ rowL (lv.map Prod.fst) row = ⟨cs, soft⟩ ∧ q < cs.length ∧ (cs.length : Int) = cols ∧ ((num ≤ cols ∧ num = K) ∨ (cols < num ∧ cols = K)) ∧ min K (cs.length - q) = min num.toNat (cs.length - q) := by
  unfold shiftOk at h
  simp only [Bool.and_eq_true, decide_eq_true_iff] at h
  obtain ⟨h0, h1, h2, h3, h4⟩ := h
  obtain ⟨r, cs, soft, u, hr, hx, hrow⟩ := row_there h1
  have hf := fits_iff.1 (mayB_at h0 hx)
  simp only at hf
  have hcl : 0 ≤ col ∧ col < cols := of_decide_eq_true h2
  by_cases hn : num ≤ cols
  · exact ⟨r, col.toNat, num.toNat, cs, soft, u, hr, by omega, hx, hrow, by omega, hf.1, .inl ⟨hn, by omega⟩, rfl⟩
  · exact ⟨r, col.toNat, cols.toNat, cs, soft, u, hr, by omega, hx, hrow, by omega, hf.1, .inr ⟨by omega, by omega⟩, by omega⟩
end Go.Proofs.YteebbmmgbjpihaaDoor

namespace Go.Proofs.YteebbmmgbjpihaaDoor
open Go.RowKit

/-- The cells of each row are there. -/
def CesR (W : World) (rv : List (List Ce × Value)) : Prop := ∀ e ∈ rv, CeRow W e.2 e.1
theorem CesR.below {W W' : World} {rv : List (List Ce × Value)} (h : CesR W rv) (hb : Below W.heap.size W W') : CesR W' rv := fun e he => (h e he).below hb
/-- A slice that reads as these rows. -/
def RR (W : World) (v : Value) (rv : List (List Ce × Value)) : Prop :=
  ∃ A c, v = .slice A rv.length c ∧ rv.length ≤ c ∧ (rv ≠ [] → ∃ g o, A = some ⟨g, o, none⟩ ∧ g < W.heap.size ∧ ∀ j e, rv[j]? = some e → W.cell? ⟨g, o + j, none⟩ = some e.2)
theorem RR.below {W W' : World} {v : Value} {l : List (List Ce × Value)} (h : RR W v l) (hb : Below W.heap.size W W') : RR W' v l := by
  obtain ⟨A, c, rfl, hc, hl⟩ := h
  refine ⟨A, c, rfl, hc, fun hn => ?_⟩
  obtain ⟨g, o, hA, hg, hc⟩ := hl hn
  exact ⟨g, o, hA, Nat.lt_of_lt_of_le hg hb.size, fun j e he => (hb.cell (p := ⟨g, o + j, none⟩) hg).trans (hc j e he)⟩
theorem RR.spell {W : World} {v : Value} {l : List (List Ce × Value)} (h : RR W v l) : ∃ A c, v = .slice A l.length c := by
  obtain ⟨A, c, e, _⟩ := h
  exact ⟨A, c, e⟩
theorem ce_cells' (w : World) : (Go.sizeOf (Tryd.prog.elem 37)).run Tryd.prog w = .ok 5 w := by kernel_rfl
def rflat (l : List (List Ce × Value)) : List Value := l.map (·.2)
/-- Rows of the call's own. -/
def OwnR (W : World) (base : Nat) (v : Value) (l : List (List Ce × Value)) : Prop := W.ownsRow base 37 1 v l.length (rflat l)
theorem rv_info : (Tryd.prog.info? 37).map (fun i => (i.zero, i.size, i.bytes)) = some (some (.slice none 0 0), 1, 24) := by kernel_rfl
theorem OwnR.spell {W : World} {base : Nat} {v : Value} {l : List (List Ce × Value)} (h : OwnR W base v l) : ∃ A c, v = .slice A l.length c := by
  rcases h.2 with ⟨rfl, h0⟩ | ⟨g, cap, cur, rfl, _⟩
  · exact ⟨_, _, by rw [h0]⟩
  · exact ⟨_, _, rfl⟩
theorem OwnR.nil (W : World) (base : Nat) : OwnR W base (.slice none 0 0) [] := ⟨rfl, .inl ⟨rfl, rfl⟩⟩
theorem OwnR.lit0 {W : World} {base : Nat} (hb : base ≤ W.heap.size) : OwnR (W.alloc (.cells #[] 37)) base (.slice (some ⟨W.heap.size, 0, none⟩) 0 0) [] := by
  have h := World.ownsRow_lit (base := base) (e := 37) (size := 1) W #[] 0 hb (by unfold maxLen; omega) (by simp)
  unfold OwnR
  simpa [rflat] using h
theorem OwnR.kept {W W' : World} {base : Nat} {v : Value} {l : List (List Ce × Value)} (h : OwnR W base v l) (hb : Below W.heap.size W W') : OwnR W' base v l :=
  World.ownsRow.kept h ⟨hb.os, hb.tape, hb.output, hb.size, fun k hk _ => hb.block k hk⟩ (row := none) (by cases v.ownBlock <;> simp)
theorem OwnR.row {W : World} {base : Nat} {v : Value} {l : List (List Ce × Value)} (h : OwnR W base v l) : RR W v l := by
  rcases h.2 with ⟨rfl, h0⟩ | ⟨g, cap, cur, rfl, hb, hg, hn, _, hs, ht⟩
  · have := List.length_eq_zero_iff.1 h0
    subst this
    exact ⟨none, 0, rfl, Nat.le_refl _, fun h => absurd rfl h⟩
  · refine ⟨_, _, rfl, hn, fun _ => ⟨g, 0, rfl, (Array.getElem?_eq_some_iff.1 hg).1, fun j e he => ?_⟩⟩
    have h1 : (rflat l)[j]? = some e.2 := by unfold rflat; rw [List.getElem?_map, he]; rfl
    have hj : j < l.length := (List.getElem?_eq_some_iff.1 he).1
    rw [← ht, List.getElem?_take, if_pos (by omega)] at h1
    rw [cell_of_row _ _ (0 + j) _ _ _ hg, Nat.zero_add]
    simpa using h1
theorem OwnC.not_rv {W : World} {base base' : Nat} {v v' : Value} {l : List Ce} {rv : List (List Ce × Value)} (h : OwnC W base v l) (hr : OwnR W base' v' rv) : v.ownBlock = none ∨ v.ownBlock ≠ v'.ownBlock := by
  rcases h.2 with ⟨rfl, _⟩ | ⟨g, cap, cur, rfl, _, hg, _⟩
  · exact .inl rfl
  · right
    rcases hr.2 with ⟨rfl, _⟩ | ⟨g', cap', cur', rfl, _, hg', _⟩
    · simp [Value.ownBlock]
    · simp only [Value.ownBlock, ne_eq, Option.some.injEq]
      rintro rfl
      rw [hg] at hg'
      cases hg'
theorem CSl.grownR {W W' : World} {base base' : Nat} {v v' : Value} {l : List Ce} {rv : List (List Ce × Value)} (h : CSl W base v l) (ho : OwnR W base' v' rv) (hg : W.grownBy W' v'.ownBlock) : CSl W' base v l := by
  rcases h with h | ⟨g, cap, rfl, h1, cur, hb, h2⟩
  · exact .inl h
  · have hb' : W.heap[g]? = Option.some (Obj.cells cur 44 (0, 0)) := hb
    refine .inr ⟨g, cap, rfl, h1, cur, hb.grown hg ?_, h2⟩
    rcases ho.2 with ⟨rfl, _⟩ | ⟨g', cap', cur', rfl, _, hg', _⟩
    · simp [Value.ownBlock]
    · simp only [Value.ownBlock, ne_eq, Option.some.injEq]
      rintro rfl
      rw [hg'] at hb'
      cases hb'
/-- Each row's cells are the call's own. -/
def RvC (W : World) (base : Nat) (rv : List (List Ce × Value)) : Prop := ∀ e ∈ rv, CSl W base e.2 e.1
theorem RvC.ces {W : World} {base : Nat} {rv : List (List Ce × Value)} (h : RvC W base rv) : CesR W rv := fun e he => (h e he).row
theorem RvC.below {W W' : World} {base B : Nat} {rv : List (List Ce × Value)} (h : RvC W base rv) (hb : Below B W W') (hB : W.heap.size ≤ B) : RvC W' base rv := fun e he => (h e he).below hb hB
theorem RvC.grownR {W W' : World} {base base' : Nat} {v' : Value} {rv rw_ : List (List Ce × Value)} (h : RvC W base rv) (ho : OwnR W base' v' rw_) (hg : W.grownBy W' v'.ownBlock) : RvC W' base rv := fun e he => (h e he).grownR ho hg
theorem RvC.snoc {W : World} {base : Nat} {rv : List (List Ce × Value)} (h : RvC W base rv) {y : List Ce × Value} (hy : CSl W base y.2 y.1) : RvC W base (rv ++ [y]) := fun x hx => by
  rw [List.mem_append, List.mem_singleton] at hx
  rcases hx with hx | rfl
  · exact h x hx
  · exact hy
set_option maxRecDepth 100000 in
theorem slice_csl_h {W : World} {base : Nat} {A : Option Addr} {n c : Nat} {l : List Ce} (hr : CSl W base (.slice A n c) l) (hl : l.length = n) (h : Nat) (hhn : h ≤ n) :
    ∃ A', (∀ w, (Instr.sliceAt 37 (.slice A n c) none (some (.int .i64 h)) none).run Tryd.prog w = .ok (.slice A' h c) w) ∧ CSl W base (.slice A' h c) (l.take h) := by
  have hlen : (l.take h).length = h := by rw [List.length_take]; omega
  have hnc : n ≤ c := by
    obtain ⟨A', c', e, hc, _⟩ := hr.row
    cases e
    omega
  refine ⟨if c = 0 then A else A.map (·.add (0 * 5)), fun w => ?_, ?_⟩
  · rw [run_sliceAt_slice w _ _ _ _ _ Tryd.underlying37, run_slice_h w 37 A _ c Tryd.underlying37 .i64 h (by omega) (by omega), ce_cells']
    simp only [Result.andThen, Int.toNat_natCast, sliced, Nat.sub_zero]
  · rcases hr with ⟨rfl, e⟩ | ⟨g, cap, e, h1, cur, hb, hs, hc, hcell⟩
    · cases e
      have : h = 0 := by omega
      subst this
      exact .inl ⟨rfl, rfl⟩
    · cases e
      refine .inr ⟨g, _, ?_, h1, cur, hb, hs, by omega, fun j e he => ?_⟩
      · rw [hlen]
        split
        · rfl
        · rfl
      · rw [List.getElem?_take] at he
        split at he
        · exact hcell j e he
        · cases he

theorem run_append_rv (w : World) (base : Nat) (v x : Value) (l m : List (List Ce × Value)) (hown : OwnR w base v l) (hx : RR w x m) (hm : CesR w m) (ty : TypeId) (hb : l.length + m.length ≤ 1000000) (hbase : base ≤ w.heap.size) :
    ∃ v' w', (Builtin.append_ #[63, 63] ty #[v, x]).run Tryd.prog w = .ok v' w' ∧ OwnR w' base v' (l ++ m) ∧ w.grownBy w' v.ownBlock := by
  obtain ⟨i0, hi, hz0, hz1, hz2⟩ := info_parts rv_info
  obtain ⟨A, c, rfl, _, hl⟩ := hx
  rcases A with _ | ad
  · have hm : m = [] := by
      apply Classical.byContradiction
      intro hne
      obtain ⟨g, o, h, _⟩ := hl hne
      cases h
    subst hm
    refine ⟨v, w, ?_, by simpa using hown, World.grownBy.refl w _⟩
    have ht := Tryd.underlying63
    rcases hown.2 with ⟨rfl, _⟩ | ⟨g, cap, cur, rfl, _, _, hnc, _⟩
    · simp [Builtin.append_, run_underlying ht, typeInfo, hi, Builtin.lenOf, Builtin.firstCells]
    · simp [Builtin.append_, run_underlying ht, typeInfo, hi, Builtin.lenOf, Builtin.firstCells, hnc, storeCells]
  · have hat : ∀ j u, (rflat m)[j]? = some u → ∃ e : List Ce × Value, m[j]? = some e ∧ u = e.2 := fun j u hu => by
      unfold rflat at hu
      rw [List.getElem?_map] at hu
      cases h : m[j]? with
      | none => rw [h] at hu; cases hu
      | some e => rw [h] at hu; cases hu; exact ⟨e, h, rfl⟩
    have hcells : ∀ j u, (rflat m)[j]? = some u → w.cell? (ad.add j) = some u := by
      intro j u hu
      obtain ⟨e, h1, rfl⟩ := hat j u hu
      obtain ⟨g, o, h, _, hc⟩ := hl (by intro h; rw [h] at h1; simp at h1)
      cases h
      rw [addr_add]
      exact hc j e h1
    have hone : ∀ u ∈ rflat m, u.oneCell' = true := fun u hu => by
      obtain ⟨q, hq⟩ := List.mem_iff_getElem?.1 hu
      obtain ⟨e, h1, rfl⟩ := hat q u hq
      obtain ⟨A, c, he⟩ := (hm e (List.mem_of_getElem? h1)).spell
      rw [he]; rfl
    obtain ⟨v', w', hrun, h2, h3, _⟩ := run_append_own (P := Tryd.prog) w base 63 ty 37 i0 _ 1 24 Tryd.underlying63 hi hz0 hz1 hz2 rfl (by decide) v l.length (rflat l) hown ad m.length c (rflat m) (by unfold rflat; rw [List.length_map, Nat.mul_one]) hcells hone (by unfold maxLen; omega) (by omega) hbase
    refine ⟨v', w', hrun, ?_, h3⟩
    unfold OwnR rflat
    rw [List.length_append, List.map_append]
    exact h2
theorem wpList_append_rv {ops : Array Oper} {rest : List Oper} {o : Oper} {a : Act} {w : World} {Q : Exit → Act → World → Prop} (hw : Region.wanted o (yielded ops a.tmps) = true) (s x : Operand)
    (ho : o.op = .call { callee := .builtin .append, args := #[s, x], argTypes := #[63, 63] }) (base : Nat) (v xv : Value) (l m : List (List Ce × Value))
    (hs : a.eval s = v) (hown : OwnR w base v l) (hxe : a.eval x = xv) (hx : RR w xv m) (hm : CesR w m) (hb : l.length + m.length ≤ 1000000) (hbase : base ≤ w.heap.size)
    (h : ∀ v' w', OwnR w' base v' (l ++ m) → w.grownBy w' v.ownBlock → wpList Tryd.prog ops Q rest (a.put o.dst v') w') : wpList Tryd.prog ops Q (o :: rest) a w := by
  obtain ⟨v', w', hrun, h2, h3⟩ := run_append_rv w base v xv l m hown hx hm o.type hb hbase
  simp only [wpList, hw, if_true]
  left
  unfold Oper.wp
  simp [execOp, ho, resolve, invoke, builtin, hs, hxe, hrun, Result.andThen]
  exact h v' w' h2 h3
theorem rv_lit (W : World) (e : List Ce × Value) : RR (W.alloc (.cells #[e.2] 37)) (.slice (some ⟨W.heap.size, 0, none⟩) 1 1) [e] := by
  refine ⟨_, _, rfl, Nat.le_refl _, fun _ => ⟨W.heap.size, 0, rfl, by simp, fun j x hx => ?_⟩⟩
  match j, hx with
  | 0, hx =>
    simp at hx
    subst hx
    exact cell_of_row _ _ 0 _ _ _ (heap_alloc_new W _)
/-- What a call of these rows answers: all of it its own. -/
def RvPost (W : World) (tgt : List (List Ce)) (e : Ending) (w' : World) : Prop :=
  ∃ v rv, e = .returned v ∧ rv.map Prod.fst = tgt ∧ OwnR w' W.heap.size v rv ∧ RvC w' W.heap.size rv ∧ Below W.heap.size W w'
end Go.Proofs.YteebbmmgbjpihaaDoor

namespace Go.Proofs.YteebbmmgbjpihaaDoor
open Go.RowKit

def mayLs (lv : List (Ln × Value)) : Bool := keptB lv && decide (lv.length ≤ 200)
set_option maxRecDepth 100000 in
set_option maxHeartbeats 2000000 in
theorem rMay_any (v : Value) (lv : List (Ln × Value)) (W : World) (hr : LR W v lv) (hc : CesOf W lv) (hs : Sm lv) :
    Calls Tryd.prog 8 #[v] W fun e w' => e = .returned (.bool (mayLs lv)) ∧ Below W.heap.size W w' := by
  obtain ⟨A, c0, rfl, _, hA⟩ := hr
  obtain ⟨n, hnl⟩ : ∃ n, lv.length = n := ⟨_, rfl⟩
  have HN := hid hnl
  have hn : n ≤ 1000 := by have := hs.1; omega
  rw [hnl]
  clear hnl
  go_enter Tryd.func8, Tryd.ntmps8
  go_wp2
  go_loopw [7] (fun i wr => ∃ k : Nat, k ≤ n ∧ i = .int .i64 k ∧ Below W.heap.size W wr ∧ keptB (lv.take k) = true) (fun i _ => n - (intOf i).toNat)
  case atStart => exact ⟨0, by omega, rfl, Below.refl _ _, rfl⟩
  case round =>
    obtain ⟨k, hk, rfl, hbl, hkept⟩ := hrel
    by_cases hlt : k < n
    · have hki : (k : Int) < n := by omega
      have hkl : k < lv.length := by rw [HN.out]; exact hlt
      have hx := List.getElem?_eq_getElem hkl
      obtain ⟨g, o, rfl, hg, hcell⟩ := hA (by intro e; rw [e] at hkl; simp at hkl)
      obtain ⟨p0, p1⟩ := hcell k _ hx
      have p0 := (hbl.cell (p := ⟨g, o + k * 2, none⟩) hg).trans p0
      have p1 := (hbl.cell (p := ⟨g, o + k * 2 + 1, none⟩) hg).trans p1
      have hce := hc lv[k] (List.getElem_mem _)
      have hsm := hs.2 lv[k] (List.getElem_mem _)
      have hst := fun h => keptB_step hkept hx h
      have hno := keptB_no (lv := lv) hx
      have HX := hid hx
      generalize lv[k] = x at *
      obtain ⟨⟨cs, soft⟩, cv⟩ := x
      simp only at p0 p1 hce hsm
      have hfit := fun (W' : World) (hb : Below W.heap.size W W') => rFits_any cs.length cv cs soft W' (hce.below hb) hsm.2 (by omega)
      have hlo := fun h => @keptE_lo cs soft cv h
      have hhi := fun h => @keptE_hi cs soft cv h
      have hmid := fun h1 h2 => @keptE_mid cs soft cv h1 h2
      obtain ⟨cA, cc, rfl⟩ := hce.spell
      obtain ⟨cl, hcl⟩ : ∃ cl, cs.length = cl := ⟨_, rfl⟩
      rw [hcl] at p0 hfit hlo hhi hmid hst hno
      have hlb := Box.new wr 39 #[.slice cA cl cc, .bool soft]
      obtain ⟨⟨l0, l1⟩, lf0, lf1⟩ := hlb.two
      have hb8 := hbl.alloc hbl.size (.cells #[.slice cA cl cc, .bool soft] 39)
      have HB8 := hid hb8
      have HFIT := hid hfit
      clear hfit hb8 hlb hkept hce hsm hcl hcell hA
      by_cases h1 : (cl : Int) < 1
      · have HE : Hid (mayLs lv = false) := by unfold Hid mayLs; rw [hno (hlo h1)]; rfl
        clear hst hno hlo hhi hmid
        go_wp2
        go_ret
        exact ⟨ret_bool HE.out.symm, HB8.out⟩
      · by_cases h2 : 80 < (cl : Int)
        · have HE : Hid (mayLs lv = false) := by unfold Hid mayLs; rw [hno (hhi h2)]; rfl
          clear hst hno hlo hhi hmid
          go_wp2
          go_ret
          exact ⟨ret_bool HE.out.symm, HB8.out⟩
        · have h3 := hmid (by omega) (by omega)
          rw [h3] at hst hno
          clear hlo hhi hmid h3
          cases hF : fitsB (cl : Int) cs
          · have HE : Hid (mayLs lv = false) := by unfold Hid mayLs; rw [hno hF]; rfl
            rw [hF] at HFIT
            clear hst hno hF
            go_wp2_with (with_reducible refine (HFIT.out _ HB8.out).mono ?_; rintro e6 w6 ⟨rfl, D6⟩)
            go_ret
            exact ⟨ret_bool HE.out.symm, HB8.out.trans (D6.mono HB8.out.size)⟩
          · rw [hF] at HFIT
            have HST := hid (hst hF)
            clear hst hno hF
            go_wp2_with (with_reducible refine (HFIT.out _ HB8.out).mono ?_; rintro e6 w6 ⟨rfl, D6⟩)
            go_roundw
            case rel => exact ⟨k + 1, by omega, by go_num, HB8.out.trans (D6.mono HB8.out.size), HST.out⟩
            case measure => simp [intOf]; omega
    · have hkm : k = n := by omega
      subst hkm
      rw [← HN.out] at hkept
      have h1 := keptB_stop hkept
      clear hkept
      by_cases h2 : (k : Int) ≤ 200
      · have HE : Hid (mayLs lv = true) := by unfold Hid mayLs; rw [h1, HN.out, decide_eq_true (by omega)]; rfl
        have hd : decide ((k : Int) ≤ 200) = true := decide_eq_true h2
        clear h1 hlt
        go_wp2
        go_ret
        exact ⟨ret_bool HE.out.symm, hbl⟩
      · have HE : Hid (mayLs lv = false) := by unfold Hid mayLs; rw [h1, HN.out, decide_eq_false (by omega)]; rfl
        have hd : decide ((k : Int) ≤ 200) = false := decide_eq_false h2
        clear h1 hlt
        go_wp2
        go_ret
        exact ⟨ret_bool HE.out.symm, hbl⟩
end Go.Proofs.YteebbmmgbjpihaaDoor

namespace Go.Proofs.YteebbmmgbjpihaaDoor
open Go.RowKit

theorem joinS_len {ls : List Ln} (h : ∀ l ∈ ls, l.cs.length ≤ 100) : ∀ k, k ≤ ls.length → (joinS ls k).2.length ≤ k * 100 ∧ (joinS ls k).1.length ≤ k
  | 0, _ => ⟨Nat.le_refl _, Nat.le_refl _⟩
  | k + 1, hk => by
    obtain ⟨h1, h2⟩ := joinS_len h k (by omega)
    have hx : ls[k]? = some ls[k] := List.getElem?_eq_getElem (by omega)
    have hl := h _ (List.mem_of_getElem? hx)
    by_cases hs : ls[k].soft = true ∧ k + 1 ≠ ls.length
    · rw [joinS_go hx hs.1 hs.2]
      simp only [List.length_append]
      omega
    · rw [joinS_end hx (by
        cases h0 : ls[k].soft
        · exact .inl rfl
        · exact .inr (Classical.byContradiction fun e => hs ⟨h0, e⟩))]
      simp only [List.length_append, List.length_singleton, List.length_nil]
      omega
def JRel (W wr : World) (ls : List Ln) (k : Nat) (rv nv : Value) : Prop :=
  ∃ w0 rows now, RvC w0 W.heap.size rows ∧ OwnR w0 W.heap.size rv rows ∧ rows.map Prod.fst = (joinS ls k).1 ∧ OwnC wr w0.heap.size nv now ∧ now = (joinS ls k).2 ∧ Below W.heap.size W w0 ∧ Below w0.heap.size w0 wr
/-- A row more. -/
theorem join_more {W w0 wA w7 : World} {rows : List (List Ce × Value)} {rv v' : Value} {y : List Ce × Value} {lc : Array Value} (h1 : RvC w0 W.heap.size rows) (h2 : OwnR w0 W.heap.size rv rows) (hW : Below W.heap.size W w0) (hA : Below w0.heap.size w0 wA) (hy : CSl wA w0.heap.size y.2 y.1)
    (_h7 : OwnR w7 W.heap.size v' (rows ++ [y])) (hg : (wA.alloc (.cells lc 37)).grownBy w7 rv.ownBlock) : RvC w7 W.heap.size (rows ++ [y]) ∧ Below W.heap.size W w7 := by
  have hB := hA.trans ((below_alloc wA (.cells lc 37)).mono hA.size)
  have o2 := h2.kept hB
  refine ⟨((h1.below hB (Nat.le_refl _)).grownR o2 hg).snoc (((hy.below (below_alloc wA _) (Nat.le_refl _)).mono hW.size).grownR o2 hg), ?_⟩
  exact (hW.trans (hB.mono hW.size)).grown hg (Nat.le_trans hW.size hB.size) (fun q hq => (World.ownsRow.lt o2 q hq).1)
theorem OwnC.lit0 {W : World} {base : Nat} (hb : base ≤ W.heap.size) : OwnC (W.alloc (.cells #[] 44)) base (.slice (some ⟨W.heap.size, 0, none⟩) 0 0) [] := by
  have h := OwnC.lit (W := W) (base := base) [] (by simp) hb
  simpa [cflat] using h
/-- Cells more in the row under way. -/
theorem now_more {w0 wr w2 : World} {nv : Value} {now : List Ce} {lc : Array Value} (ho : OwnC wr w0.heap.size nv now) (hr : Below w0.heap.size w0 wr) (hg : (wr.alloc (.cells lc 39)).grownBy w2 nv.ownBlock) : Below w0.heap.size w0 w2 ∧ Box w2 wr.heap.size 39 lc := by
  have hb := below_alloc wr (.cells lc 39)
  have o8 := ho.kept hb
  exact ⟨(hr.trans (hb.mono hr.size)).grown hg (Nat.le_trans hr.size hb.size) (fun q hq => (World.ownsRow.lt o8 q hq).1), (Box.new wr _ _).grown hg (o8.not_box (Box.new wr _ _) (by decide))⟩
end Go.Proofs.YteebbmmgbjpihaaDoor

namespace Go.Proofs.YteebbmmgbjpihaaDoor
open Go.RowKit

/-- A row of the call's own, filled: where nothing else lay, all stays. -/
def FilPost (W : World) (base : Nat) (v : Value) (tgt : List Ce) (e : Ending) (w' : World) : Prop :=
  ∃ v', e = .returned v' ∧ OwnC w' base v' tgt ∧ W.grownBy w' v.ownBlock
def FilRel (W wr : World) (base : Nat) (v0 v : Value) (l : List Ce) (k : Nat) : Prop :=
  OwnC wr base v (l ++ List.replicate k b0C) ∧ W.grownBy wr v0.ownBlock ∧ (v.ownBlock = v0.ownBlock ∨ ∀ q, v.ownBlock = some q → W.heap.size ≤ q)
theorem grown_two {W w1 w2 : World} {r0 r1 : Option Nat} (h : W.grownBy w1 r0) (h2 : w1.grownBy w2 r1) (hr : r1 = r0 ∨ ∀ q, r1 = some q → W.heap.size ≤ q) : W.grownBy w2 r0 := by
  refine ⟨h2.os.trans h.os, h2.tape.trans h.tape, h2.output.trans h.output, Nat.le_trans h.size h2.size, fun k hk hne => (h2.block k (Nat.lt_of_lt_of_le hk h.size) ?_).trans (h.block k hk hne)⟩
  rcases hr with rfl | hr
  · exact hne
  · intro e
    have := hr k e.symm
    omega
theorem grown_below {W w1 w2 : World} {r0 : Option Nat} (h : W.grownBy w1 r0) (hb : Below w1.heap.size w1 w2) : W.grownBy w2 r0 :=
  grown_two (r1 := none) h ⟨hb.os, hb.tape, hb.output, hb.size, fun k hk _ => hb.block k hk⟩ (.inr fun q hq => by cases hq)
theorem fil_step {W wr wz w7 : World} {base : Nat} {v0 v v' : Value} {l : List Ce} {k : Nat} {lc : Array Value} (h : FilRel W wr base v0 v l k) (hb : Below wr.heap.size wr wz)
    (h7 : OwnC w7 base v' (l ++ List.replicate k b0C ++ [b0C])) (hg : (wz.alloc (.cells lc 44)).grownBy w7 v.ownBlock) (hv : v'.ownBlock = v.ownBlock ∨ v'.ownBlock = some (wz.alloc (.cells lc 44)).heap.size) : FilRel W w7 base v0 v' l (k + 1) := by
  obtain ⟨h1, h2, h3⟩ := h
  have hb2 := hb.trans ((below_alloc wz (.cells lc 44)).mono hb.size)
  have h4 := grown_below h2 hb2
  refine ⟨by rw [List.replicate_succ', ← List.append_assoc]; exact h7, grown_two h4 hg h3, ?_⟩
  rcases hv with hv | hv
  · rw [hv]; exact h3
  · exact .inr fun q hq => by rw [hv] at hq; cases hq; exact Nat.le_trans h2.size hb2.size
theorem run_append_ce_at (w : World) (base : Nat) (v x : Value) (l m : List Ce) (hown : OwnC w base v l) (hx : CeRow w x m) (hne : m ≠ []) (ty : TypeId) (hb : l.length + m.length ≤ 1000000) (hbase : base ≤ w.heap.size) :
    ∃ v' w', (Builtin.append_ #[37, 37] ty #[v, x]).run Tryd.prog w = .ok v' w' ∧ OwnC w' base v' (l ++ m) ∧ w.grownBy w' v.ownBlock ∧ (v'.ownBlock = v.ownBlock ∨ v'.ownBlock = some w.heap.size) := by
  obtain ⟨i0, hi, hz0, hz1, hz2⟩ := info_parts ce_info
  obtain ⟨A, c, rfl, _, hl⟩ := hx
  obtain ⟨g, o, rfl, _, hc⟩ := hl hne
  have hcells : ∀ j u, (cflat m)[j]? = some u → w.cell? ((⟨g, o, none⟩ : Addr).add j) = some u := by
    intro j u hu
    obtain ⟨e, h1, h2⟩ := cflat_inv m j u hu
    rw [addr_add]
    have := hc (j / 5) e h1 (j % 5) u h2
    rwa [show o + j / 5 * 5 + j % 5 = o + j by omega] at this
  obtain ⟨v', w', hrun, h2, h3, _, h5⟩ := run_append_own_at (P := Tryd.prog) (w := w) base 37 ty 44 i0 _ 5 48 Tryd.underlying37 hi hz0 hz1 hz2 rfl (by decide) v l.length (cflat l) hown ⟨g, o, none⟩ m.length c (cflat m) (cflat_length m) hcells cflat_one (by unfold maxLen; omega) (by omega) hbase
  refine ⟨v', w', hrun, ?_, h3, h5⟩
  unfold OwnC
  rw [List.length_append, cflat_append]
  exact h2
theorem wpList_append_ce_at {ops : Array Oper} {rest : List Oper} {o : Oper} {a : Act} {w : World} {Q : Exit → Act → World → Prop} (hw : Region.wanted o (yielded ops a.tmps) = true) (s x : Operand)
    (ho : o.op = .call { callee := .builtin .append, args := #[s, x], argTypes := #[37, 37] }) (base : Nat) (v xv : Value) (l m : List Ce)
    (hs : a.eval s = v) (hown : OwnC w base v l) (hxe : a.eval x = xv) (hx : CeRow w xv m) (hne : m ≠ []) (hb : l.length + m.length ≤ 1000000) (hbase : base ≤ w.heap.size)
    (h : ∀ v' w', OwnC w' base v' (l ++ m) → w.grownBy w' v.ownBlock → (v'.ownBlock = v.ownBlock ∨ v'.ownBlock = some w.heap.size) → wpList Tryd.prog ops Q rest (a.put o.dst v') w') : wpList Tryd.prog ops Q (o :: rest) a w := by
  obtain ⟨v', w', hrun, h2, h3, h4⟩ := run_append_ce_at w base v xv l m hown hx hne o.type hb hbase
  simp only [wpList, hw, if_true]
  left
  unfold Oper.wp
  simp [execOp, ho, resolve, invoke, builtin, hs, hxe, hrun, Result.andThen]
  exact h v' w' h2 h3 h4

end Go.Proofs.YteebbmmgbjpihaaDoor

namespace Go.Proofs.YteebbmmgbjpihaaDoor
open Go.RowKit

set_option maxRecDepth 100000 in
set_option maxHeartbeats 1000000 in
theorem mayBe_any (v : Value) (lv : List (Ln × Value)) (W : World) (hr : LR W v lv) (hc : CesOf W lv) (hs : Sm lv) (hT : Tab W) (hW : TabW W) :
    Calls Tryd.prog 42 #[v] W fun e w' => e = .returned (.bool (mayLs lv)) ∧ Below W.heap.size W w' := by
  have hp := push_any 0 (.slice none 0 0) v [] lv W (LR.nil _ _ _) (fun e h => by simp at h) ⟨by simp, fun e h => by simp at h⟩ hr hc hs hT hW
  have hb0 : backB 0 [] = true := rfl
  rw [hb0, Bool.true_and] at hp
  unfold BOut at hp
  obtain ⟨A, c, rfl⟩ := hr.spell
  obtain ⟨n, hn⟩ : ∃ n, lv.length = n := ⟨_, rfl⟩
  have hn1 : n ≤ 1000 := by have := hs.1; omega
  rw [hn] at hp ⊢
  have HP := hid hp
  have HN := hid hn
  clear hp hn hr hc hs hT hW hb0
  by_cases h2 : (n : Int) ≤ 200
  · have HE : Hid (mayLs lv = keptB lv) := by unfold Hid mayLs; rw [HN.out, decide_eq_true (by omega), Bool.and_true]
    go_enter Tryd.func42, Tryd.ntmps42
    go_wp2_with fail
    with_reducible refine HP.out.mono ?_
    rintro e w2 ⟨xc, xA, xk, xp, xn, rfl, hb, hx⟩
    dsimp only
    have HB := hid (hb.alloc hb.size (.cells #[.int .i64 xc, .slice xA xk xp] 92))
    rcases hx with ⟨h1, rfl, rfl, _⟩ | ⟨h1, rfl, _, rfl⟩
    · have HV : Hid (mayLs lv = true) := by unfold Hid; rw [HE.out, h1]
      clear hb h1
      go_wp2
      go_ret
      exact ⟨ret_bool HV.out.symm, HB.out⟩
    · have HV : Hid (mayLs lv = false) := by unfold Hid; rw [HE.out, h1]
      clear hb h1
      go_wp2
      go_ret
      exact ⟨ret_bool HV.out.symm, HB.out⟩
  · have HE : Hid (mayLs lv = false) := by unfold Hid mayLs; rw [HN.out, decide_eq_false (by omega), Bool.and_false]
    have h3 : (200 : Int) < (n : Int) := by omega
    clear h2
    go_enter Tryd.func42, Tryd.ntmps42
    go_wp2
    go_ret
    exact ⟨ret_bool HE.out.symm, Below.refl _ _⟩
def colsB (cols : Int) : Bool := decide (1 ≤ cols ∧ cols ≤ 80)
def orB (x : ByteArray) : ByteArray := if x.size = 0 then ⟨#[32]⟩ else x
set_option maxRecDepth 100000 in
set_option maxHeartbeats 1000000 in
theorem cmpOr_any (x : ByteArray) (g : Nat) (W : World) (p0 : W.cell? ⟨g, 0, none⟩ = some (.string x)) (p1 : W.cell? ⟨g, 1, none⟩ = some (.string ⟨#[32]⟩)) :
    Calls Tryd.prog 44 #[.slice (some ⟨g, 0, none⟩) 2 2] W fun e w' => e = .returned (.string (orB x)) ∧ w' = W := by
  go_enter Tryd.func44, Tryd.ntmps44
  go_wp2
  go_loopw [8] (fun v wx => (v = .int .i64 0 ∨ (v = .int .i64 1 ∧ x.size = 0)) ∧ W = wx) (fun v _ => 2 - (intOf v).toNat)
  case atStart => exact ⟨.inl rfl, rfl⟩
  case round =>
    obtain ⟨rfl | ⟨rfl, h0⟩, rfl⟩ := hrel
    · by_cases h0 : x.size = 0
      · have hx := empty_yes h0
        subst hx
        clear h0
        go_wp2
        go_roundw
        case rel => exact ⟨.inr ⟨rfl, by rfl⟩, by simp⟩
        case measure => simp [intOf]
      · have hne := empty_no h0
        have HE : Hid (orB x = x) := by unfold Hid orB; rw [if_neg h0]
        clear h0
        go_wp2
        go_ret
        exact ⟨ret_str HE.out.symm, rfl⟩
    · have HE : Hid (orB x = ⟨#[32]⟩) := by unfold Hid orB; rw [if_pos h0]
      clear h0
      go_wp2
      go_ret
      exact ⟨ret_str HE.out.symm, rfl⟩
end Go.Proofs.YteebbmmgbjpihaaDoor

namespace Go.Proofs.YteebbmmgbjpihaaDoor
open Go.RowKit

/-- A cell appended to a row of the call's own whose block lies behind the boxes. -/
theorem own_step2 {W wr wz w7 : World} {base : Nat} {ov : Value} {done : List Ce} {lit : Array Value} {l : List (Nat × TypeId × Array Value)} (hown : OwnC wr base ov done) (hb : Below wr.heap.size wr wz) (hg : (wz.alloc (.cells lit 44)).grownBy w7 ov.ownBlock)
    (hbx : Bxs wr l) (hl : ∀ x ∈ l, x.1 < base) (hbr : Below W.heap.size W wr) (hB : W.heap.size ≤ base) : Bxs w7 l ∧ Below W.heap.size W w7 ∧ wr.heap.size ≤ w7.heap.size := by
  have hb6 := hb.trans ((below_alloc wz (.cells lit 44)).mono hb.size)
  have own6 := hown.kept hb6
  refine ⟨fun x hx => ((hbx.below hb6) x hx).grown hg (fun e => ?_), ?_, Nat.le_trans hb6.size hg.size⟩
  · have := (World.ownsRow.lt own6 _ e.symm).1
    have := hl x hx
    omega
  · exact (hbr.trans (hb6.mono hbr.size)).trans ((Below.refl _ _).grown hg (Nat.le_trans hbr.size hb6.size) (fun k hk => Nat.le_trans hB (World.ownsRow.lt own6 k hk).1))

end Go.Proofs.YteebbmmgbjpihaaDoor

namespace Go.Proofs.YteebbmmgbjpihaaDoor
open Go.RowKit

/-- What was answered reads as a grid, or is refused. -/
def XF (W : World) (cols : Int) (ok : Bool) (n : Int) (tgt : List Ln) (xc : Int) (A : Option Addr) (k c : Nat) (xn : Int) : Prop :=
  (ok = true ∧ xc = cols ∧ xn = 0 ∧ ∃ lv', lv'.map Prod.fst = tgt ∧ LR W (.slice A k c) lv' ∧ CesOf W lv') ∨ (ok = false ∧ xc = 0 ∧ (.slice A k c : Value) = .slice none 0 0 ∧ xn = n)
theorem XF.below {W W' : World} {cols : Int} {ok : Bool} {n : Int} {tgt : List Ln} {xc : Int} {A : Option Addr} {k c : Nat} {xn : Int} (h : XF W cols ok n tgt xc A k c xn) (hb : Below W.heap.size W W') : XF W' cols ok n tgt xc A k c xn := by
  rcases h with ⟨h1, h2, h3, lv', h4, h5, h6⟩ | h
  · exact .inl ⟨h1, h2, h3, lv', h4, h5.below hb, h6.below hb⟩
  · exact .inr h
theorem XF.of {W w' : World} {cols : Int} {lv : List (Ln × Value)} {ok : Bool} {n : Int} {tgt : List Ln} {xc : Int} {A : Option Addr} {k c : Nat} {xn : Int} (hc : CesOf w' lv)
    (h : (ok = true ∧ xc = cols ∧ xn = 0 ∧ ∃ lv', lv'.map Prod.fst = tgt ∧ LSl w' W.heap.size (.slice A k c) lv' ∧ NewOf w' W.heap.size lv lv') ∨ (ok = false ∧ xc = 0 ∧ (.slice A k c : Value) = .slice none 0 0 ∧ xn = n)) : XF w' cols ok n tgt xc A k c xn := by
  rcases h with ⟨h1, h2, h3, lv', h4, h5, h6⟩ | h
  · exact .inl ⟨h1, h2, h3, lv', h4, h5.row, h6.ces hc⟩
  · exact .inr h
theorem there_eq (cols row : Int) (lv : List (Ln × Value)) : ((sizeB cols lv.length && allB cols lv) && (rowB row lv.length && colB 0 cols)) = softOk cols lv row := by
  unfold softOk mayB
  cases h : (sizeB cols lv.length && allB cols lv)
  · rfl
  · have := mayB_cols (cols := cols) (lv := lv) h
    have hc : colB 0 cols = true := decide_eq_true (by omega)
    rw [hc, Bool.and_true]
theorem few_in {W : World} {v : Value} {lv lv1 : List (Ln × Value)} (hm : lv1.map Prod.fst = fewG (lv.map Prod.fst)) (hr : LR W v lv1) (hc : CesOf W lv1) : GIn W v lv1 := by
  obtain ⟨h1, h2⟩ := fewG_sm hm
  exact ⟨hr, hc, by omega, fun e he => ⟨by have := (h2 e he).1; omega, fun c hc => by have := (h2 e he).2 c hc; omega⟩⟩

theorem eraseT_sz {cols row fr tt : Int} {a : At} {lv : List (Ln × Value)} (hs : Sm lv) (h : eraseOk cols lv row fr tt a = true) : SzL (eraseT (lv.map Prod.fst) row fr tt a) := by
  unfold eraseOk at h
  simp only [Bool.and_eq_true, decide_eq_true_iff] at h
  obtain ⟨⟨h0, h1⟩, h2, h3, h4, _⟩ := h
  obtain ⟨r, cs, soft, u, rfl, hx, hrow⟩ := row_there h1
  have hf := fits_iff.1 (mayB_at h0 hx)
  simp only at hf
  refine hs.szl.set _ ?_
  rw [hrow]
  show (mendL 1 (eraseL cs _ _ a)).length ≤ 1000
  rw [mendL_length, eraseL_length _ (by omega)]
  exact (hs.2 _ (List.mem_of_getElem? hx)).1
theorem CSl.set_lt {W : World} {base b i : Nat} {v : Value} {l : List Ce} (h : CSl W base v l) (hb : b < base) (u : Value) : CSl (W.setCell ⟨b, i, none⟩ u) base v l := by
  rcases h with h | ⟨g, cap, rfl, h1, cur, hg, h2⟩
  · exact .inl h
  · exact .inr ⟨g, cap, rfl, h1, cur, hg.other (by omega) u, h2⟩
theorem LSl.set_lt {W : World} {base b i : Nat} {v : Value} {l : List (Ln × Value)} (h : LSl W base v l) (hb : b < base) (u : Value) : LSl (W.setCell ⟨b, i, none⟩ u) base v l := by
  rcases h with h | ⟨g, cap, rfl, h1, cur, hg, h2⟩
  · exact .inl h
  · exact .inr ⟨g, cap, rfl, h1, cur, hg.other (by omega) u, h2⟩

theorem softT_sz {cols row : Int} {s : Bool} {lv : List (Ln × Value)} (hs : Sm lv) (h : softOk cols lv row = true) : SzL (softT (lv.map Prod.fst) row s) := by
  unfold softOk at h
  rw [Bool.and_eq_true] at h
  obtain ⟨r, cs, soft, u, rfl, hx, hrow⟩ := row_there h.2
  refine hs.szl.set _ ?_
  rw [hrow]
  exact (hs.2 _ (List.mem_of_getElem? hx)).1
theorem put_parts {cols row col : Int} {c : Ce} {lv : List (Ln × Value)} (h : putOk cols lv row col c = true) (h2 : roomB cols col c = false) :
    ∃ (r q : Nat) (cs : List Ce) (soft : Bool) (u : Value), row = r ∧ col = q ∧ lv[r]? = some (⟨cs, soft⟩, u) ∧ rowL (lv.map Prod.fst) row = ⟨cs, soft⟩ ∧ q < cs.length ∧ (c.wd = 2 → q + 1 < cs.length) := by
  unfold putOk at h
  rw [Bool.and_eq_true, Bool.and_eq_true, Bool.and_eq_true] at h
  obtain ⟨h0, h1, hc, _⟩ := h
  obtain ⟨r, cs, soft, u, hr, hx, hrow⟩ := row_there h1
  have hf := fits_iff.1 (mayB_at h0 hx)
  simp only at hf
  have hcl : 0 ≤ col ∧ col < cols := of_decide_eq_true hc
  have hrm : ¬ (c.wd = 2 ∧ col = cols - 1) := of_decide_eq_false h2
  refine ⟨r, col.toNat, cs, soft, u, hr, by omega, hx, hrow, by omega, fun hw => ?_⟩
  have : ¬ col = cols - 1 := fun e => hrm ⟨hw, e⟩
  omega
theorem putT_sz {cols row col : Int} {c : Ce} {lv : List (Ln × Value)} (hs : Sm lv) (h : putOk cols lv row col c = true) (h2 : roomB cols col c = false) : SzL (putT (lv.map Prod.fst) row col c) := by
  obtain ⟨r, q, cs, soft, u, rfl, rfl, hx, hrow, hq, hw⟩ := put_parts h h2
  refine hs.szl.set _ ?_
  rw [hrow]
  show (mendL 1 (putL cs _ c)).length ≤ 1000
  rw [mendL_length, putL_length]
  exact (hs.2 _ (List.mem_of_getElem? hx)).1
end Go.Proofs.YteebbmmgbjpihaaDoor

namespace Go.Proofs.YteebbmmgbjpihaaDoor
open Go.RowKit

theorem step_append_ce {ops : Array Oper} {o : Oper} {a : Act} {w : World} {K : Act → World → Prop} {Q : Exit → Act → World → Prop} {E : Prop} (hgd : o.guard = none) (s x : Operand)
    (ho : o.op = .call { callee := .builtin .append, args := #[s, x], argTypes := #[37, 37] }) (base : Nat) (v xv : Value) (l m : List Ce)
    (hs : a.eval s = v) (hown : OwnC w base v l) (hxe : a.eval x = xv) (hx : CeRow w xv m) (hb : l.length + m.length ≤ 1000000) (hbase : base ≤ w.heap.size)
    (h : ∀ v' w', OwnC w' base v' (l ++ m) → w.grownBy w' v.ownBlock → K (a.put o.dst v') w') : if Region.wanted o (yielded ops a.tmps) = true then Oper.wp Tryd.prog o a w K Q else E := by
  have hw : Region.wanted o (yielded ops a.tmps) = true := by simp [Region.wanted, hgd]
  rw [if_pos hw]
  obtain ⟨v', w', hrun, h2, h3⟩ := run_append_ce w base v xv l m hown hx o.type hb hbase
  unfold Oper.wp
  simp [execOp, ho, resolve, invoke, builtin, hs, hxe, hrun, Result.andThen]
  exact h v' w' h2 h3
def BarePost (W : World) (C : Nat) (a : At) (e : Ending) (w' : World) : Prop :=
  ∃ v, e = .returned (.agg #[v, .bool false]) ∧ CSl w' W.heap.size v (List.replicate C (blkC a)) ∧ Below W.heap.size W w'
end Go.Proofs.YteebbmmgbjpihaaDoor
