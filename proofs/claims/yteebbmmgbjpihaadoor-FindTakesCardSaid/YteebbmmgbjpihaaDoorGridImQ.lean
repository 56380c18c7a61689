/- slices.Insert at lines: a row of the call's own with room, any row without. -/
/- slices.Insert at lines, whatever comes. -/
import Derived.Test.YteebbmmgbjpihaaDoorGridLaQ
import Derived.Lib.Overlaps
import Derived.Lib.AppendZerosOnto
import Derived.Laws.IdiomCopy
import Derived.Laws.Externs
import Derived.Deep.RegionLaw
namespace Go.Proofs.YteebbmmgbjpihaaDoor
open Go.RowKit

/-- Values written from a place on. -/
def wrA : Array Value → Nat → List Value → Array Value
  | cur, _, [] => cur
  | cur, o, v :: r => wrA (cur.setIfInBounds o v) (o + 1) r
theorem wrA_size : ∀ (vs : List Value) (cur : Array Value) (o : Nat), (wrA cur o vs).size = cur.size
  | [], _, _ => rfl
  | v :: r, cur, o => by rw [wrA, wrA_size r, Array.size_setIfInBounds]
theorem wrA_at : ∀ (vs : List Value) (cur : Array Value) (o j : Nat), o + vs.length ≤ cur.size → (wrA cur o vs)[j]? = if o ≤ j ∧ j < o + vs.length then vs[j - o]? else cur[j]?
  | [], cur, o, j, _ => by rw [wrA, if_neg (by rw [List.length_nil]; omega)]
  | v :: r, cur, o, j, h => by
    rw [List.length_cons] at h
    rw [wrA, wrA_at r _ _ _ (by rw [Array.size_setIfInBounds]; omega)]
    by_cases h1 : o + 1 ≤ j ∧ j < o + 1 + r.length
    · rw [if_pos h1, if_pos (by rw [List.length_cons]; omega), show j - o = (j - (o + 1)) + 1 by omega, List.getElem?_cons_succ]
    · rw [if_neg h1]
      by_cases h2 : j = o
      · subst h2
        rw [Array.getElem?_setIfInBounds, if_pos rfl, if_pos (by omega), if_pos (by rw [List.length_cons]; omega), Nat.sub_self]
        rfl
      · rw [Array.getElem?_setIfInBounds, if_neg (Ne.symm h2), if_neg (by rw [List.length_cons]; omega)]
theorem Box.wr : ∀ (vs : List Value) {w : World} {g : Nat} {t : TypeId} {cur : Array Value} (o : Nat), Box w g t cur → Box (w.setCells g o vs) g t (wrA cur o vs)
  | [], _, _, _, _, _, h => h
  | v :: r, _, _, _, _, o, h => Box.wr r (o + 1) (h.set (i := o) v)
theorem only_set (w : World) (g o : Nat) (v : Value) : Only g w (w.setCell ⟨g, o, none⟩ v) :=
  ⟨rfl, rfl, rfl, by simp [World.setCell], fun k _ hk => Below.heap_setCell _ _ _ _ (fun e => hk (by rw [e]))⟩
theorem only_wr : ∀ (vs : List Value) (w : World) (g o : Nat), Only g w (w.setCells g o vs)
  | [], w, g, _ => Only.refl g w
  | v :: r, w, g, o => (only_set w g o v).trans (only_wr r _ g (o + 1))
theorem lflat_take {L : List (Ln × Value)} {i : Nat} (hi : i ≤ L.length) : lflat (L.take i) = (lflat L).take (i * 2) := by
  have h := lflat_append (L.take i) (L.drop i)
  rw [List.take_append_drop] at h
  rw [h, List.take_left' (by rw [lflat_length, List.length_take]; omega)]
theorem lflat_drop {L : List (Ln × Value)} {i : Nat} (hi : i ≤ L.length) : lflat (L.drop i) = (lflat L).drop (i * 2) := by
  have h := lflat_append (L.take i) (L.drop i)
  rw [List.take_append_drop] at h
  rw [h, List.drop_left' (by rw [lflat_length, List.length_take]; omega)]
/-- What is inserted, and what was shifted, written: the row is what is wanted. -/
theorem fin_row {L V : List (Ln × Value)} {i n m : Nat} (C F : Array Value) (hL : L.length = n) (hV : V.length = m) (hi : i ≤ n) (hC : (n + m) * 2 ≤ C.size)
    (hF : F = wrA (wrA C ((i + m) * 2) (lflat (L.drop i))) (i * 2) (lflat V) ∨ F = wrA (wrA C (i * 2) (lflat V)) ((i + m) * 2) (lflat (L.drop i))) (h0 : ∀ j, j < i * 2 → C[j]? = (lflat L)[j]?) :
    F.toList.take ((n + m) * 2) = lflat (L.take i ++ V ++ L.drop i) := by
  have l1 : (lflat (L.drop i)).length = (n - i) * 2 := by rw [lflat_length, List.length_drop, hL]
  have l2 : (lflat V).length = m * 2 := by rw [lflat_length, hV]
  have l0 : (lflat (L.take i)).length = i * 2 := by rw [lflat_length, List.length_take, hL]; omega
  have hat : ∀ j, j < (n + m) * 2 → F[j]? = if j < i * 2 then (lflat L)[j]? else if j < (i + m) * 2 then (lflat V)[j - i * 2]? else (lflat (L.drop i))[j - (i + m) * 2]? := by
    intro j hj
    rcases hF with rfl | rfl
    · rw [wrA_at _ _ _ _ (by rw [wrA_size]; omega), wrA_at _ _ _ _ (by omega), l1, l2]
      by_cases a : j < i * 2
      · rw [if_neg (by omega), if_neg (by omega), if_pos a]; exact h0 j a
      · by_cases b : j < (i + m) * 2
        · rw [if_pos (by omega), if_neg a, if_pos b]
        · rw [if_neg (by omega), if_pos (by omega), if_neg a, if_neg b]
    · rw [wrA_at _ _ _ _ (by rw [wrA_size]; omega), wrA_at _ _ _ _ (by omega), l1, l2]
      by_cases a : j < i * 2
      · rw [if_neg (by omega), if_neg (by omega), if_pos a]; exact h0 j a
      · by_cases b : j < (i + m) * 2
        · rw [if_neg (by omega), if_pos (by omega), if_neg a, if_pos b]
        · rw [if_pos (by omega), if_neg a, if_neg b]
  apply List.ext_getElem?
  intro j
  rw [List.getElem?_take, lflat_append, lflat_append]
  by_cases hj : j < (n + m) * 2
  · rw [if_pos hj, Array.getElem?_toList, hat j hj]
    by_cases a : j < i * 2
    · rw [if_pos a, List.getElem?_append_left (by rw [List.length_append, l0, l2]; omega), List.getElem?_append_left (by omega), lflat_take (by omega), List.getElem?_take, if_pos a]
    · rw [if_neg a]
      by_cases b : j < (i + m) * 2
      · rw [if_pos b, List.getElem?_append_left (by rw [List.length_append, l0, l2]; omega), List.getElem?_append_right (by omega), l0]
      · rw [if_neg b, List.getElem?_append_right (by rw [List.length_append, l0, l2]; omega), List.length_append, l0, l2, show i * 2 + m * 2 = (i + m) * 2 by omega]
  · rw [if_neg hj, List.getElem?_eq_none (by rw [List.length_append, List.length_append, l0, l1, l2]; omega)]
theorem own_fin {w : World} {g cap base k : Nat} {F : Array Value} {R : List (Ln × Value)} (hb : Box w g 39 F) (hs : F.size = cap * 2) (hR : R.length = k) (hkc : k ≤ cap) (hcm : cap ≤ maxLen) (hg : base ≤ g) (ht : F.toList.take (k * 2) = lflat R) :
    OwnL w base (.slice (some ⟨g, 0, none⟩) k cap) R := by
  subst hR
  exact ⟨lflat_length _, .inr ⟨g, cap, F, rfl, hg, hb, hkc, hcm, hs, ht⟩⟩
theorem run_copy_ln (w : World) (ty : TypeId) (g o dLen dCap : Nat) (a : Addr) (sLen sCap m : Nat) (vs : List Value) {cur : Array Value} (hb : Box w g 39 cur) (hn : m = Nat.min sLen dLen) (hv : vs.length = m * 2) (ho : o + m * 2 ≤ cur.size)
    (hsrc : ∀ j u, vs[j]? = some u → w.cell? (a.add j) = some u) (h1 : ∀ u ∈ vs, u.oneCell' = true) :
    (Builtin.copy_ #[22, 22] ty #[.slice (some ⟨g, o, none⟩) dLen dCap, .slice (some a) sLen sCap]).run Tryd.prog w = .ok (goInt m) (w.setCells g o vs) := by
  obtain ⟨i0, hi, hz0, hz1, hz2⟩ := info_parts ln_info
  have hl := run_loadCells_list (P := Tryd.prog) w a vs hsrc
  rw [hv] at hl
  have hc : ∀ j, j < vs.length → (w.cell? ⟨g, o + j, none⟩).isSome = true := fun j hj => by rw [hb.cell, Array.getElem?_eq_getElem (by omega)]; rfl
  have hst := run_storeCells_cells (P := Tryd.prog) g o vs 0 w (by simpa using hc) (by simpa using fun j _ => hb.free _) h1
  simp only [Nat.add_zero] at hst
  have hn' : Nat.min sLen dLen = m := hn.symm
  simp [Builtin.copy_, run_underlying Tryd.underlying22, Builtin.lenOf, Builtin.firstCells, hn', hl, hst]
theorem wpList_copy_ln {ops : Array Oper} {rest : List Oper} {o : Oper} {a : Act} {w : World} {Q : Exit → Act → World → Prop} (hw : Region.wanted o (yielded ops a.tmps) = true) (d s : Operand)
    (ho : o.op = .call { callee := .builtin .copy, args := #[d, s], argTypes := #[22, 22] }) (v u : Value) (hd : a.eval d = v) (hs : a.eval s = u) {v' : Value} {w' : World}
    (hr : ∀ ty, (Builtin.copy_ #[22, 22] ty #[v, u]).run Tryd.prog w = .ok v' w') (h : wpList Tryd.prog ops Q rest (a.put o.dst v') w') : wpList Tryd.prog ops Q (o :: rest) a w := by
  simp only [wpList, hw, if_true]
  left
  unfold Oper.wp
  simp [execOp, ho, resolve, invoke, builtin, hd, hs, hr o.type, Result.andThen]
  exact h
theorem step_copy_ln {ops : Array Oper} {o : Oper} {a : Act} {w : World} {K : Act → World → Prop} {Q : Exit → Act → World → Prop} {E : Prop} (hgd : o.guard = none) (d s : Operand)
    (ho : o.op = .call { callee := .builtin .copy, args := #[d, s], argTypes := #[22, 22] }) (v u : Value) (hd : a.eval d = v) (hs : a.eval s = u) {v' : Value} {w' : World}
    (hr : ∀ ty, (Builtin.copy_ #[22, 22] ty #[v, u]).run Tryd.prog w = .ok v' w') (h : K (a.put o.dst v') w') : if Region.wanted o (yielded ops a.tmps) = true then Oper.wp Tryd.prog o a w K Q else E := by
  have hw : Region.wanted o (yielded ops a.tmps) = true := by simp [Region.wanted, hgd]
  rw [if_pos hw]
  unfold Oper.wp
  simp [execOp, ho, resolve, invoke, builtin, hd, hs, hr, Result.andThen]
  exact h

theorem lt_of_cell {W : World} {b o : Nat} {v : Value} (h : W.cell? ⟨b, o, none⟩ = some v) : b < W.heap.size := by
  apply Classical.byContradiction
  intro hn
  unfold World.cell? at h
  have : W.heap[b]? = none := Array.getElem?_eq_none (by omega)
  simp [this] at h
theorem below_wr {B b : Nat} {W : World} (hB : B ≤ b) : ∀ (vs : List Value) (w : World) (o : Nat), Below B W w → Below B W (w.setCells b o vs)
  | [], _, _, h => h
  | v :: r, _, o, h => below_wr hB r _ (o + 1) (below_set h hB v)
end Go.Proofs.YteebbmmgbjpihaaDoor

namespace Go.Proofs.YteebbmmgbjpihaaDoor
open Go.RowKit

/-- What is inserted stands there; what lies below a block, cells, and boxes of other things stay. -/
def InsPost (W : World) (base : Nat) (T : List (Ln × Value)) (e : Ending) (w' : World) : Prop :=
  ∃ v', e = .returned v' ∧ LR w' v' T ∧ Below base W w' ∧ (∀ b v l, CSl W b v l → CSl w' b v l) ∧ (∀ b t cs, t ≠ 39 → Box W b t cs → Box w' b t cs)
theorem insP_below {W w' : World} {base : Nat} {T : List (Ln × Value)} {v' : Value} (h : LR w' v' T) (hb : Below W.heap.size W w') (hbase : base ≤ W.heap.size) : InsPost W base T (.returned v') w' :=
  ⟨v', rfl, h, hb.mono hbase, fun _ _ _ h => h.below hb (Nat.le_refl _), fun _ _ _ _ h => h.below hb h.lt⟩
theorem insP_grown {W w' : World} {base : Nat} {L T : List (Ln × Value)} {sv v' : Value} (h : LR w' v' T) (ho : OwnL W base sv L) (hg : W.grownBy w' sv.ownBlock) (hbase : base ≤ W.heap.size) : InsPost W base T (.returned v') w' :=
  ⟨v', rfl, h, (Below.refl base W).grown hg hbase (fun q hq => (World.ownsRow.lt ho q hq).1), fun _ _ _ h => h.grown ho hg, fun _ _ _ ht h => h.grown hg (ho.not_box h ht)⟩
end Go.Proofs.YteebbmmgbjpihaaDoor
