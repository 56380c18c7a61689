/- Layer 6, the statements' helpers: a grid cut short. Made by wip/gen/gridFew.py. -/
/- Layer 6, the package: lines appended to a slice without room; lines cut. -/
/- Lines appended to a row of the call's own: where the row lies then. -/
import Derived.Test.YteebbmmgbjpihaaDoorGridEraseQ
import Derived.Deep.RegionLaw
import Derived.Deep.DeepCutAuto
import Derived.Deep.RegionWith
import Derived.Deep.AppendSrc
import Derived.StillTailTactics
import Derived.Maps.AppendAt
namespace Go.Proofs.YteebbmmgbjpihaaDoor
open Go.RowKit

def cutN (l : Ln) : Ln := ⟨lineG l.cs, l.soft⟩
def fewG (ls : List Ln) : List Ln := (ls.take 52).map cutN
theorem take_cutN {l : List Ln} {k : Nat} {c : Ln} (h : l[k]? = some c) : (l.take (k + 1)).map cutN = (l.take k).map cutN ++ [cutN c] := by
  obtain ⟨hk, rfl⟩ := List.getElem?_eq_some_iff.1 h
  rw [List.take_succ_eq_append_getElem hk, List.map_append]
  rfl
theorem ln_lit (W : World) (e : Ln × Value) : LR (W.alloc (.cells #[e.2, .bool e.1.soft] 39)) (.slice (some ⟨W.heap.size, 0, none⟩) 1 1) [e] := by
  refine ⟨_, _, rfl, Nat.le_refl _, fun _ => ⟨W.heap.size, 0, rfl, by simp, fun j x hj => ?_⟩⟩
  have hb := Box.new W 39 #[e.2, .bool e.1.soft]
  cases j with
  | zero =>
    simp at hj
    subst hj
    exact ⟨hb.cell 0, hb.cell 1⟩
  | succ j => simp at hj
theorem CSl.grown {W W' : World} {base base' : Nat} {v v' : Value} {l : List Ce} {lv : List (Ln × Value)} (h : CSl W base v l) (ho : OwnL W base' v' lv) (hg : W.grownBy W' v'.ownBlock) : CSl W' base v l := by
  rcases h with h | ⟨g, cap, rfl, h1, cur, hb, h2⟩
  · exact .inl h
  · exact .inr ⟨g, cap, rfl, h1, cur, hb.grown hg (ho.not_box hb (by decide)), h2⟩
theorem step_append_ln {ops : Array Oper} {o : Oper} {a : Act} {w : World} {K : Act → World → Prop} {Q : Exit → Act → World → Prop} {E : Prop} (hgd : o.guard = none) (s x : Operand)
    (ho : o.op = .call { callee := .builtin .append, args := #[s, x], argTypes := #[22, 22] }) (base : Nat) (v xv : Value) (l m : List (Ln × Value))
    (hs : a.eval s = v) (hown : OwnL w base v l) (hxe : a.eval x = xv) (hx : LR w xv m) (hm : CesOf w m) (hb : l.length + m.length ≤ 1000000) (hbase : base ≤ w.heap.size)
    (h : ∀ v' w', OwnL w' base v' (l ++ m) → w.grownBy w' v.ownBlock → K (a.put o.dst v') w') : if Region.wanted o (yielded ops a.tmps) = true then Oper.wp Tryd.prog o a w K Q else E := by
  have hw : Region.wanted o (yielded ops a.tmps) = true := by simp [Region.wanted, hgd]
  rw [if_pos hw]
  obtain ⟨v', w', hrun, h2, h3⟩ := run_append_ln w base v xv l m hown hx hm o.type hb hbase
  unfold Oper.wp
  simp [execOp, ho, resolve, invoke, builtin, hs, hxe, hrun, Result.andThen]
  exact h v' w' h2 h3
def FewPost (W : World) (cols : Int) (ls : List Ln) (e : Ending) (w' : World) : Prop :=
  ∃ v lv', e = .returned (.agg #[.int .i64 cols, v]) ∧ lv'.map Prod.fst = ls ∧ LSl w' W.heap.size v lv' ∧ (∀ x ∈ lv', CSl w' W.heap.size x.2 x.1.cs) ∧ Below W.heap.size W w'
theorem fewG_sm {lv lv' : List (Ln × Value)} (h : lv'.map Prod.fst = fewG (lv.map Prod.fst)) : lv'.length ≤ 52 ∧ ∀ e ∈ lv', e.1.cs.length ≤ 82 ∧ ∀ c ∈ e.1.cs, c.tx.size ≤ 20 := by
  refine ⟨?_, fun e he => ?_⟩
  · have := congrArg List.length h
    unfold fewG at this
    rw [List.length_map, List.length_map, List.length_take] at this
    omega
  · have hm : e.1 ∈ lv'.map Prod.fst := List.mem_map.2 ⟨e, he, rfl⟩
    rw [h] at hm
    obtain ⟨x, _, hx⟩ := List.mem_map.1 hm
    rw [← hx]
    refine ⟨?_, lineG_size⟩
    show (lineG x.cs).length ≤ 82
    rw [lineG_length]
    omega
end Go.Proofs.YteebbmmgbjpihaaDoor

namespace Go.Proofs.YteebbmmgbjpihaaDoor
open Go.RowKit

theorem LR.flat {W : World} {A : Option Addr} {k c : Nat} {l : List (Ln × Value)} (h : LR W (.slice A k c) l) (hl : l.length = k) : (l = [] ∨ ∃ a, A = some a ∧ ∀ j u, (lflat l)[j]? = some u → W.cell? (a.add j) = some u) := by
  obtain ⟨A', c', e, _, hc⟩ := h
  cases e
  by_cases hn : l = []
  · exact .inl hn
  · obtain ⟨g, o, rfl, _, hc⟩ := hc hn
    refine .inr ⟨_, rfl, fun j u hu => ?_⟩
    obtain ⟨e, h1, h2⟩ := lflat_inv l j u hu
    rw [addr_add]
    have := hc (j / 2) e h1
    rcases h2 with ⟨h3, rfl⟩ | ⟨h3, rfl⟩
    · have := this.1
      rwa [show o + j / 2 * 2 = o + j by omega] at this
    · have := this.2
      rwa [show o + j / 2 * 2 + 1 = o + j by omega] at this
set_option maxRecDepth 100000 in
theorem run_append_ln_grow (w : World) (A : Option Addr) (k cap : Nat) (vx : Value) (l m : List (Ln × Value)) (hl : LR w (.slice A k cap) l) (hk : l.length = k) (hx : LR w vx m) (hm : CesOf w m) (hroom : cap < k + m.length) (hkc : k ≤ cap) (hb : k + m.length ≤ 1000000) :
    ∃ v' w', (∀ ty, (Builtin.append_ #[22, 22] ty #[.slice A k cap, vx]).run Tryd.prog w = .ok v' w') ∧ OwnL w' w.heap.size v' (l ++ m) ∧ Below w.heap.size w w' := by
  obtain ⟨i0, hi, hz0, hz1, hz2⟩ := info_parts ln_info
  obtain ⟨B, cx, rfl⟩ := hx.spell
  have hmne : m ≠ [] := by intro e; rw [e] at hroom; simp at hroom; omega
  obtain ⟨a, rfl, hcells⟩ : ∃ a, B = some a ∧ ∀ j u, (lflat m)[j]? = some u → w.cell? (a.add j) = some u := by
    rcases hx.flat rfl with h | h
    · exact absurd h hmne
    · exact h
  have hold : (Builtin.firstCells i0.size k (.slice A k cap)).run Tryd.prog w.drew = .ok (lflat l).toArray w.drew := by
    rw [hz1]
    rcases hl.flat hk with h | ⟨b, rfl, hc⟩
    · subst h
      simp at hk
      subst hk
      cases A with
      | none => exact run_firstCells_none w.drew 2 0 0 cap
      | some b => exact run_firstCells_some w.drew 2 0 b 0 cap [] (by simp) (by simp)
    · exact run_firstCells_some w.drew 2 k b k cap (lflat l) (by rw [lflat_length, hk]) (fun j u hu => hc j u hu)
  have hsrc : Src Tryd.prog i0.size 22 (.slice (some a) m.length cx) m.length (lflat m) w := by
    rw [hz1]
    exact Src.ofSlice w Tryd.underlying22 a m.length cx (lflat m) (lflat_length m) hcells (cesOf_one hm)
  refine ⟨_, _, fun ty => run_append_grow_src w _ _ ty _ i0 _ Tryd.underlying22 hi hz0 A k cap (lflat l) hold _ m.length (lflat m) hsrc hroom (by omega) (by rw [hz2]; exact growslice_fits hroom (by omega)), ?_, ?_⟩
  · have hge := grownCap_ge w (k + m.length) cap 39
    have hcm : grownCap w (k + m.length) cap 39 ≤ maxLen := grownCap_le_maxLen w (k + m.length) cap 39 (by unfold maxLen; omega)
    have hfl : (lflat l ++ lflat m).length = (k + m.length) * 2 := by rw [List.length_append, lflat_length, lflat_length, hk]; omega
    unfold OwnL
    rw [List.length_append, hk, lflat_append]
    refine ⟨hfl, .inr ⟨w.heap.size, _, _, rfl, Nat.le_refl _, heap_alloc_new w.drew _, hge, hcm, ?_, ?_⟩⟩
    · rw [Array.size_append, size_zeroCells, List.size_toArray, hfl, show (Value.agg #[Value.slice none 0 0, Value.bool false]).cells.size = 2 from rfl, ← Nat.add_mul]
      congr 1
      omega
    · rw [Array.toList_append, List.toList_toArray, ← hfl]
      exact List.take_left
  · exact (Below.refl _ _).drew.alloc (Nat.le_refl _) _
theorem run_append_ln_zero (w : World) (ty : TypeId) (A B : Option Addr) (k cap n c : Nat) (hn : n = 0) (hk : k ≤ cap) : (Builtin.append_ #[22, 22] ty #[.slice A k cap, .slice B n c]).run Tryd.prog w = .ok (.slice A k cap) w := by
  subst hn
  obtain ⟨i0, hi, hz0, hz1, hz2⟩ := info_parts ln_info
  have ht := Tryd.underlying22
  have hl : ∀ (x : Addr), (loadCells x 0).run Tryd.prog w = .ok #[] w := fun x => by simpa using run_loadCells_list (P := Tryd.prog) w x [] (by simp)
  cases A <;> cases B <;> simp [Builtin.append_, run_underlying ht, typeInfo, hi, Builtin.lenOf, Builtin.firstCells, hk, storeCells, hl]
end Go.Proofs.YteebbmmgbjpihaaDoor

namespace Go.Proofs.YteebbmmgbjpihaaDoor
open Go.RowKit

theorem run_append_ln_at (w : World) (base : Nat) (v x : Value) (l m : List (Ln × Value)) (hown : OwnL w base v l) (hx : LR w x m) (hm : CesOf w m) (hne : m ≠ []) (ty : TypeId) (hb : l.length + m.length ≤ 1000000) (hbase : base ≤ w.heap.size) :
    ∃ v' w', (Builtin.append_ #[22, 22] ty #[v, x]).run Tryd.prog w = .ok v' w' ∧ OwnL w' base v' (l ++ m) ∧ w.grownBy w' v.ownBlock ∧ (v'.ownBlock = v.ownBlock ∨ v'.ownBlock = some w.heap.size) := by
  obtain ⟨i0, hi, hz0, hz1, hz2⟩ := info_parts ln_info
  obtain ⟨A, c, rfl, _, hl⟩ := hx
  obtain ⟨g, o, rfl, _, hc⟩ := hl hne
  have hcells : ∀ j u, (lflat m)[j]? = some u → w.cell? ((⟨g, o, none⟩ : Addr).add j) = some u := by
    intro j u hu
    obtain ⟨e, h1, h2⟩ := lflat_inv m j u hu
    rw [addr_add]
    have := hc (j / 2) e h1
    rcases h2 with ⟨h3, rfl⟩ | ⟨h3, rfl⟩
    · have := this.1
      rwa [show o + j / 2 * 2 = o + j by omega] at this
    · have := this.2
      rwa [show o + j / 2 * 2 + 1 = o + j by omega] at this
  obtain ⟨v', w', hrun, h2, h3, _, h5⟩ := run_append_own_at (P := Tryd.prog) (w := w) base 22 ty 39 i0 _ 2 32 Tryd.underlying22 hi hz0 hz1 hz2 rfl (by decide) v l.length (lflat l) hown ⟨g, o, none⟩ m.length c (lflat m) (lflat_length m) hcells (cesOf_one hm) (by unfold maxLen; omega) (by omega) hbase
  refine ⟨v', w', hrun, ?_, h3, h5⟩
  unfold OwnL
  rw [List.length_append, lflat_append]
  exact h2
theorem wpList_append_ln_at {ops : Array Oper} {rest : List Oper} {o : Oper} {a : Act} {w : World} {Q : Exit → Act → World → Prop} (hw : Region.wanted o (yielded ops a.tmps) = true) (s x : Operand)
    (ho : o.op = .call { callee := .builtin .append, args := #[s, x], argTypes := #[22, 22] }) (base : Nat) (v xv : Value) (l m : List (Ln × Value))
    (hs : a.eval s = v) (hown : OwnL w base v l) (hxe : a.eval x = xv) (hx : LR w xv m) (hm : CesOf w m) (hne : m ≠ []) (hb : l.length + m.length ≤ 1000000) (hbase : base ≤ w.heap.size)
    (h : ∀ v' w', OwnL w' base v' (l ++ m) → w.grownBy w' v.ownBlock → (v'.ownBlock = v.ownBlock ∨ v'.ownBlock = some w.heap.size) → wpList Tryd.prog ops Q rest (a.put o.dst v') w') : wpList Tryd.prog ops Q (o :: rest) a w := by
  obtain ⟨v', w', hrun, h2, h3, h4⟩ := run_append_ln_at w base v xv l m hown hx hm hne o.type hb hbase
  simp only [wpList, hw, if_true]
  left
  unfold Oper.wp
  simp [execOp, ho, resolve, invoke, builtin, hs, hxe, hrun, Result.andThen]
  exact h v' w' h2 h3 h4
theorem step_append_ln_at {ops : Array Oper} {o : Oper} {a : Act} {w : World} {K : Act → World → Prop} {Q : Exit → Act → World → Prop} {E : Prop} (hgd : o.guard = none) (s x : Operand)
    (ho : o.op = .call { callee := .builtin .append, args := #[s, x], argTypes := #[22, 22] }) (base : Nat) (v xv : Value) (l m : List (Ln × Value))
    (hs : a.eval s = v) (hown : OwnL w base v l) (hxe : a.eval x = xv) (hx : LR w xv m) (hm : CesOf w m) (hne : m ≠ []) (hb : l.length + m.length ≤ 1000000) (hbase : base ≤ w.heap.size)
    (h : ∀ v' w', OwnL w' base v' (l ++ m) → w.grownBy w' v.ownBlock → (v'.ownBlock = v.ownBlock ∨ v'.ownBlock = some w.heap.size) → K (a.put o.dst v') w') : if Region.wanted o (yielded ops a.tmps) = true then Oper.wp Tryd.prog o a w K Q else E := by
  have hw : Region.wanted o (yielded ops a.tmps) = true := by simp [Region.wanted, hgd]
  rw [if_pos hw]
  obtain ⟨v', w', hrun, h2, h3, h4⟩ := run_append_ln_at w base v xv l m hown hx hm hne o.type hb hbase
  unfold Oper.wp
  simp [execOp, ho, resolve, invoke, builtin, hs, hxe, hrun, Result.andThen]
  exact h v' w' h2 h3 h4
end Go.Proofs.YteebbmmgbjpihaaDoor
