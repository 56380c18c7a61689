/- Layer 6, the package: cells copied within a block. -/
/- Layer 6, plain: cells inserted one by one, and deleted one by one. -/
/- Layer 6, the package: what is done with a line: cells come. -/
/- Layer 6, the package: what is done with a line: cells go. Made by wip/gen/gridDel.py. -/
import Derived.Test.YtkejoknphnkhnaaDoorGridPutQ
import Derived.Laws.IdiomCopy
import Derived.StillTailTactics
import Derived.Deep.QuietTactic
import Derived.BigQuiet
import Derived.IntWalk
namespace Go.Proofs.YtkejoknphnkhnaaDoor
open Go.RowKit

theorem run_copy_ce (w : World) (ty : TypeId) (g o dLen dCap so sLen sCap : Nat) (cs : List Ce) (hn : cs.length = Nat.min sLen dLen)
    (hsrc : ∀ j u, (cflat cs)[j]? = some u → w.cell? ⟨g, so + j, none⟩ = some u) (hc : ∀ j, j < cs.length * 5 → (w.cell? ⟨g, o + j, none⟩).isSome = true) (hf : ∀ j, j < cs.length * 5 → w.frozen? ⟨g, o + j, none⟩ = false) :
    (Builtin.copy_ #[52, 52] ty #[.slice (some ⟨g, o, none⟩) dLen dCap, .slice (some ⟨g, so, none⟩) sLen sCap]).run Tryd.prog w = .ok (goInt cs.length) (w.setCells g o (cflat cs)) := by
  obtain ⟨i0, hi, hz0, hz1, hz2⟩ := info_parts ce_info
  have hl := run_loadCells_list (P := Tryd.prog) w ⟨g, so, none⟩ (cflat cs) (fun j u hj => by rw [addr_add]; exact hsrc j u hj)
  rw [cflat_length] at hl
  have hst := run_storeCells_cells (P := Tryd.prog) g o (cflat cs) 0 w (by rw [cflat_length]; simpa using hc) (by rw [cflat_length]; simpa using hf) cflat_one
  have hn' : Nat.min sLen dLen = cs.length := hn.symm
  simp only [Nat.add_zero] at hst
  simp [Builtin.copy_, run_underlying Tryd.underlying52, Builtin.lenOf, Builtin.firstCells, hn', hl, hst]
/-- Cells written from a place on. -/
def putAll : List Ce → Nat → List Ce → List Ce
  | l, _, [] => l
  | l, k, e :: m => putAll (l.set k e) (k + 1) m
theorem putAll_length : ∀ (m l : List Ce) (k : Nat), (putAll l k m).length = l.length
  | [], _, _ => rfl
  | e :: m, l, k => by rw [putAll, putAll_length m, List.length_set]
theorem putAll_at : ∀ (m l : List Ce) (k j : Nat), k + m.length ≤ l.length → (putAll l k m)[j]? = if k ≤ j ∧ j < k + m.length then m[j - k]? else l[j]?
  | [], l, k, j, _ => by rw [putAll, if_neg (by rw [List.length_nil]; omega)]
  | e :: m, l, k, j, h => by
    rw [List.length_cons] at h
    rw [putAll, putAll_at m _ _ _ (by rw [List.length_set]; omega)]
    by_cases h1 : k + 1 ≤ j ∧ j < k + 1 + m.length
    · rw [if_pos h1, if_pos (by rw [List.length_cons]; omega), show j - k = (j - (k + 1)) + 1 by omega, List.getElem?_cons_succ]
    · rw [if_neg h1]
      by_cases h2 : j = k
      · subst h2
        rw [List.getElem?_set_self (by omega), if_pos (by rw [List.length_cons]; omega), Nat.sub_self]
        rfl
      · rw [List.getElem?_set_ne (Ne.symm h2), if_neg (by rw [List.length_cons]; omega)]
theorem CBox.putAll {g cap : Nat} : ∀ (m l : List Ce) (k : Nat) (w : World), CBox w g l cap → k + m.length ≤ l.length → CBox (w.setCells g (k * 5) (cflat m)) g (putAll l k m) cap ∧ Only g w (w.setCells g (k * 5) (cflat m))
  | [], l, k, w, h, _ => ⟨h, Only.refl g w⟩
  | e :: m, l, k, w, h, hk => by
    rw [List.length_cons] at hk
    have h5 := h.set5 (k := k) (by omega) e
    obtain ⟨h1, h2⟩ := CBox.putAll m (l.set k e) (k + 1) (Go.Proofs.YtkejoknphnkhnaaDoor.set5 w g (k * 5) e) h5 (by rw [List.length_set]; omega)
    have hw : w.setCells g (k * 5) (cflat (e :: m)) = (Go.Proofs.YtkejoknphnkhnaaDoor.set5 w g (k * 5) e).setCells g ((k + 1) * 5) (cflat m) := by
      unfold Go.Proofs.YtkejoknphnkhnaaDoor.set5
      simp only [cflat, Ce.cells, List.cons_append, List.nil_append, World.setCells]
      rw [show (k + 1) * 5 = k * 5 + 1 + 1 + 1 + 1 + 1 by omega]
    rw [hw]
    exact ⟨h1, (Only.set5 (Only.refl g w) e).trans h2⟩
theorem CBox.flat {W : World} {g cap : Nat} {l : List Ce} (h : CBox W g l cap) {k : Nat} {m : List Ce} (hm : ∀ j e, m[j]? = some e → l[k + j]? = some e) : ∀ j u, (cflat m)[j]? = some u → W.cell? ⟨g, k * 5 + j, none⟩ = some u := by
  intro j u hu
  obtain ⟨e, h1, h2⟩ := cflat_inv m j u hu
  have := h.cell (hm _ e h1) h2
  rwa [show (k + j / 5) * 5 + j % 5 = k * 5 + j by omega] at this
theorem CBox.some_ {W : World} {g cap : Nat} {l : List Ce} (h : CBox W g l cap) {j : Nat} (hj : j < l.length * 5) : (W.cell? ⟨g, j, none⟩).isSome = true := by
  have hx := List.getElem?_eq_getElem (l := l) (i := j / 5) (by omega)
  have hi : (l[j / 5]).cells[j % 5]? = some ((l[j / 5]).cells[j % 5]'(by simp [Ce.cells]; omega)) := Array.getElem?_eq_getElem _
  have := h.cell hx hi
  rw [show j / 5 * 5 + j % 5 = j by omega] at this
  rw [this]
  rfl
/-- A copy within a block: the cells from a place on, so many, to another place. -/
theorem copy_ce (w : World) (ty : TypeId) {g cap : Nat} {l : List Ce} (h : CBox w g l cap) (d s n dLen dCap sLen sCap : Nat) (hn : n = Nat.min sLen dLen) (hd : d + n ≤ l.length) (hs : s + n ≤ l.length) :
    ∃ w', (Builtin.copy_ #[52, 52] ty #[.slice (some ⟨g, d * 5, none⟩) dLen dCap, .slice (some ⟨g, s * 5, none⟩) sLen sCap]).run Tryd.prog w = .ok (goInt n) w' ∧ CBox w' g (putAll l d ((l.drop s).take n)) cap ∧ Only g w w' := by
  have hl : ((l.drop s).take n).length = n := by rw [List.length_take, List.length_drop]; omega
  have hr := run_copy_ce w ty g (d * 5) dLen dCap (s * 5) sLen sCap ((l.drop s).take n) (by rw [hl, hn]) (h.flat (k := s) (fun j e hj => by
    rw [List.getElem?_take] at hj
    split at hj
    · rwa [List.getElem?_drop] at hj
    · cases hj)) (fun j hj => h.some_ (by rw [hl] at hj; omega)) (fun j _ => h.free _)
  rw [hl] at hr
  obtain ⟨h1, h2⟩ := CBox.putAll ((l.drop s).take n) l d w h (by rw [hl]; exact hd)
  exact ⟨_, hr, h1, h2⟩
/-- What is inserted into a row of cells, and what is deleted. -/
def insL (l : List Ce) (k n : Nat) (a : At) : List Ce := eraseL (putAll l (k + n) ((l.drop k).take (l.length - k - n))) k n a
def delL (l : List Ce) (k n : Nat) (a : At) : List Ce := eraseL (putAll l k ((l.drop (k + n)).take (l.length - k - n))) (l.length - n) n a
end Go.Proofs.YtkejoknphnkhnaaDoor

namespace Go.Proofs.YtkejoknphnkhnaaDoor
open Go.RowKit

def insOne (q : Nat) (a : At) (l : List Ce) : List Ce := l.take q ++ [blkC a] ++ (l.drop q).take (l.length - 1 - q)
def delOne (q : Nat) (a : At) (l : List Ce) : List Ce := l.take q ++ l.drop (q + 1) ++ [blkC a]
def iterL (f : List Ce → List Ce) : Nat → List Ce → List Ce
  | 0, l => l
  | k + 1, l => f (iterL f k l)
theorem insOne_length {q : Nat} {a : At} {l : List Ce} (hq : q < l.length) : (insOne q a l).length = l.length := by
  unfold insOne
  simp only [List.length_append, List.length_take, List.length_drop, List.length_singleton]
  omega
theorem delOne_length {q : Nat} {a : At} {l : List Ce} (hq : q < l.length) : (delOne q a l).length = l.length := by
  unfold delOne
  simp only [List.length_append, List.length_take, List.length_drop, List.length_singleton]
  omega
theorem iterIns_length {q : Nat} {a : At} {l : List Ce} (hq : q < l.length) : ∀ k, (iterL (insOne q a) k l).length = l.length
  | 0 => rfl
  | k + 1 => by rw [iterL, insOne_length (by rw [iterIns_length hq k]; exact hq), iterIns_length hq k]
theorem iterDel_length {q : Nat} {a : At} {l : List Ce} (hq : q < l.length) : ∀ k, (iterL (delOne q a) k l).length = l.length
  | 0 => rfl
  | k + 1 => by rw [iterL, delOne_length (by rw [iterDel_length hq k]; exact hq), iterDel_length hq k]
theorem insOne_at {q j : Nat} {a : At} {l : List Ce} (hq : q < l.length) (hj : j < l.length) : (insOne q a l)[j]? = if j < q then l[j]? else if j = q then some (blkC a) else l[j - 1]? := by
  unfold insOne
  have h1 : (l.take q).length = q := by rw [List.length_take]; omega
  by_cases a1 : j < q
  · rw [if_pos a1, List.getElem?_append_left (by rw [List.length_append, h1]; omega), List.getElem?_append_left (by omega), List.getElem?_take, if_pos a1]
  · rw [if_neg a1]
    by_cases a2 : j = q
    · subst a2
      rw [if_pos rfl, List.getElem?_append_left (by rw [List.length_append, h1, List.length_singleton]; omega), List.getElem?_append_right (by omega), h1, Nat.sub_self]
      rfl
    · rw [if_neg a2, List.getElem?_append_right (by rw [List.length_append, h1, List.length_singleton]; omega), List.length_append, h1, List.length_singleton, List.getElem?_take, if_pos (by omega), List.getElem?_drop]
      congr 1
      omega
theorem delOne_at {q j : Nat} {a : At} {l : List Ce} (hq : q < l.length) (hj : j < l.length) : (delOne q a l)[j]? = if j < q then l[j]? else if j + 1 < l.length then l[j + 1]? else some (blkC a) := by
  unfold delOne
  have h1 : (l.take q).length = q := by rw [List.length_take]; omega
  have h2 : (l.drop (q + 1)).length = l.length - (q + 1) := List.length_drop
  by_cases a1 : j < q
  · rw [if_pos a1, List.getElem?_append_left (by rw [List.length_append, h1]; omega), List.getElem?_append_left (by omega), List.getElem?_take, if_pos a1]
  · rw [if_neg a1]
    by_cases a2 : j + 1 < l.length
    · rw [if_pos a2, List.getElem?_append_left (by rw [List.length_append, h1, h2]; omega), List.getElem?_append_right (by omega), h1, List.getElem?_drop]
      congr 1
      omega
    · rw [if_neg a2, List.getElem?_append_right (by rw [List.length_append, h1, h2]; omega), List.length_append, h1, h2, show j - (q + (l.length - (q + 1))) = 0 by omega]
      rfl
theorem iterIns_at {q : Nat} {a : At} {l : List Ce} (hq : q < l.length) : ∀ k j, j < l.length → (iterL (insOne q a) k l)[j]? = if j < q then l[j]? else if j < q + k then some (blkC a) else l[j - k]?
  | 0, j, _ => by
    rw [iterL]
    by_cases a1 : j < q
    · rw [if_pos a1]
    · rw [if_neg a1, if_neg (by omega)]; rfl
  | k + 1, j, hj => by
    rw [iterL, insOne_at (by rw [iterIns_length hq]; exact hq) (by rw [iterIns_length hq]; exact hj)]
    by_cases a1 : j < q
    · rw [if_pos a1, if_pos a1, iterIns_at hq k j hj, if_pos a1]
    · rw [if_neg a1, if_neg a1]
      by_cases a2 : j = q
      · rw [if_pos a2, if_pos (by omega)]
      · rw [if_neg a2, iterIns_at hq k (j - 1) (by omega), if_neg (by omega)]
        by_cases a3 : j < q + (k + 1)
        · rw [if_pos (by omega), if_pos a3]
        · rw [if_neg (by omega), if_neg a3]
          congr 1
          omega
theorem iterDel_at {q : Nat} {a : At} {l : List Ce} (hq : q < l.length) : ∀ k j, j < l.length → (iterL (delOne q a) k l)[j]? = if j < q then l[j]? else if j + k < l.length then l[j + k]? else some (blkC a)
  | 0, j, hj => by
    rw [iterL]
    by_cases a1 : j < q
    · rw [if_pos a1]
    · rw [if_neg a1, if_pos (by omega)]; rfl
  | k + 1, j, hj => by
    rw [iterL, delOne_at (by rw [iterDel_length hq]; exact hq) (by rw [iterDel_length hq]; exact hj), iterDel_length hq]
    by_cases a1 : j < q
    · rw [if_pos a1, if_pos a1, iterDel_at hq k j hj, if_pos a1]
    · rw [if_neg a1, if_neg a1]
      by_cases a2 : j + 1 < l.length
      · rw [if_pos a2, iterDel_at hq k (j + 1) a2, if_neg (by omega)]
        by_cases a3 : j + (k + 1) < l.length
        · rw [if_pos (by omega), if_pos a3]
          congr 1
          omega
        · rw [if_neg (by omega), if_neg a3]
      · rw [if_neg a2, if_neg (by omega)]
theorem iterIns_eq {q : Nat} {a : At} {l : List Ce} (hq : q < l.length) (K : Nat) : iterL (insOne q a) K l = insL l q (min K (l.length - q)) a := by
  obtain ⟨m, hm⟩ : ∃ m, min K (l.length - q) = m := ⟨_, rfl⟩
  rw [hm]
  have hml : q + m ≤ l.length := by omega
  have hp : ∀ j, (putAll l (q + m) ((l.drop q).take (l.length - q - m)))[j]? = if q + m ≤ j ∧ j < l.length then l[j - m]? else l[j]? := fun j => by
    rw [putAll_at _ _ _ _ (by rw [List.length_take, List.length_drop]; omega)]
    have hl : ((l.drop q).take (l.length - q - m)).length = l.length - q - m := by rw [List.length_take, List.length_drop]; omega
    rw [hl]
    by_cases a1 : q + m ≤ j ∧ j < l.length
    · rw [if_pos (by omega), if_pos a1, List.getElem?_take, if_pos (by omega), List.getElem?_drop]
      congr 1
      omega
    · rw [if_neg (by omega), if_neg a1]
  apply List.ext_getElem?
  intro j
  by_cases hj : j < l.length
  · rw [iterIns_at hq K j hj]
    unfold insL
    rw [eraseL_at _ (by rw [putAll_length]; exact hml), hp]
    by_cases a1 : j < q
    · rw [if_pos a1, if_neg (by omega), if_neg (by omega)]
    · rw [if_neg a1]
      by_cases a2 : j < q + K
      · rw [if_pos a2, if_pos (by omega)]
      · rw [if_neg a2, if_neg (by omega), if_pos (by omega)]
        congr 1
        omega
  · rw [List.getElem?_eq_none (by rw [iterIns_length hq]; omega), List.getElem?_eq_none (by unfold insL; rw [eraseL_length _ (by rw [putAll_length]; exact hml), putAll_length]; omega)]
theorem iterDel_eq {q : Nat} {a : At} {l : List Ce} (hq : q < l.length) (K : Nat) : iterL (delOne q a) K l = delL l q (min K (l.length - q)) a := by
  obtain ⟨m, hm⟩ : ∃ m, min K (l.length - q) = m := ⟨_, rfl⟩
  rw [hm]
  have hml : m ≤ l.length - q := by omega
  have hp : ∀ j, (putAll l q ((l.drop (q + m)).take (l.length - q - m)))[j]? = if q ≤ j ∧ j < l.length - m then l[j + m]? else l[j]? := fun j => by
    rw [putAll_at _ _ _ _ (by rw [List.length_take, List.length_drop]; omega)]
    have hl : ((l.drop (q + m)).take (l.length - q - m)).length = l.length - q - m := by rw [List.length_take, List.length_drop]; omega
    rw [hl]
    by_cases a1 : q ≤ j ∧ j < l.length - m
    · rw [if_pos (by omega), if_pos a1, List.getElem?_take, if_pos (by omega), List.getElem?_drop]
      congr 1
      omega
    · rw [if_neg (by omega), if_neg a1]
  apply List.ext_getElem?
  intro j
  by_cases hj : j < l.length
  · rw [iterDel_at hq K j hj]
    unfold delL
    rw [eraseL_at _ (by rw [putAll_length]; omega), hp]
    by_cases a1 : j < q
    · rw [if_pos a1, if_neg (by omega), if_neg (by omega)]
    · rw [if_neg a1]
      by_cases a2 : j + K < l.length
      · rw [if_pos a2, if_neg (by omega), if_pos (by omega)]
        congr 1
        omega
      · rw [if_neg a2, if_pos (by omega)]
  · rw [List.getElem?_eq_none (by rw [iterDel_length hq]; omega), List.getElem?_eq_none (by unfold delL; rw [eraseL_length _ (by rw [putAll_length]; omega), putAll_length]; omega)]
end Go.Proofs.YtkejoknphnkhnaaDoor

namespace Go.Proofs.YtkejoknphnkhnaaDoor
open Go.RowKit

theorem wpList_copy_runC {ops : Array Oper} {rest : List Oper} {o : Oper} {a : Act} {w : World} {Q : Exit → Act → World → Prop} (hw : Region.wanted o (yielded ops a.tmps) = true) (d s : Operand)
    (ho : o.op = .call { callee := .builtin .copy, args := #[d, s], argTypes := #[52, 52] }) (v u : Value) (hd : a.eval d = v) (hs : a.eval s = u) {v' : Value} {w' : World}
    (hr : ∀ ty, (Builtin.copy_ #[52, 52] ty #[v, u]).run Tryd.prog w = .ok v' w') (h : wpList Tryd.prog ops Q rest (a.put o.dst v') w') : wpList Tryd.prog ops Q (o :: rest) a w := by
  simp only [wpList, hw, if_true]
  left
  unfold Oper.wp
  simp [execOp, ho, resolve, invoke, builtin, hd, hs, hr o.type, Result.andThen]
  exact h
theorem run_copy_zero (w : World) (ty : TypeId) (A B : Option Addr) (dCap sLen sCap : Nat) :
    (Builtin.copy_ #[52, 52] ty #[.slice A 0 dCap, .slice B sLen sCap]).run Tryd.prog w = .ok (goInt 0) w := by
  have hl : ∀ (x : Addr), (loadCells x 0).run Tryd.prog w = .ok #[] w := fun x => by simpa using run_loadCells_list (P := Tryd.prog) w x [] (by simp)
  cases A <;> cases B <;> simp [Builtin.copy_, run_underlying Tryd.underlying52, Builtin.lenOf, Builtin.firstCells, storeCells, hl]
/-- A copy within a block, of none too. -/
theorem copy_any (w : World) {g cap : Nat} {l : List Ce} (h : CBox w g l cap) (d s n dCap sLen sCap : Nat) (A : Option Addr) (hn : n ≤ sLen) (hA : 0 < n → A = some ⟨g, d * 5, none⟩) (hd : d + n ≤ l.length) (hs : s + n ≤ l.length) :
    ∃ w', (∀ ty, (Builtin.copy_ #[52, 52] ty #[.slice A n dCap, .slice (some ⟨g, s * 5, none⟩) sLen sCap]).run Tryd.prog w = .ok (goInt n) w') ∧ CBox w' g (putAll l d ((l.drop s).take n)) cap ∧ Only g w w' := by
  rcases Nat.eq_zero_or_pos n with rfl | hp
  · exact ⟨w, fun ty => run_copy_zero w ty A _ dCap sLen sCap, by rw [List.take_zero]; exact h, Only.refl g w⟩
  · rw [hA hp]
    have hl : ((l.drop s).take n).length = n := by rw [List.length_take, List.length_drop]; omega
    obtain ⟨h1, h2⟩ := CBox.putAll ((l.drop s).take n) l d w h (by rw [hl]; exact hd)
    refine ⟨_, fun ty => ?_, h1, h2⟩
    have hr := run_copy_ce w ty g (d * 5) n dCap (s * 5) sLen sCap ((l.drop s).take n) (by rw [hl]; simp only [Nat.min_def]; split <;> omega) (h.flat (k := s) (fun j e hj => by
      rw [List.getElem?_take] at hj
      split at hj
      · rwa [List.getElem?_drop] at hj
      · cases hj)) (fun j hj => h.some_ (by rw [hl] at hj; omega)) (fun j _ => h.free _)
    rw [hl] at hr
    exact hr

set_option maxRecDepth 100000 in
set_option maxHeartbeats 1000000 in
theorem insert_chg (B : Nat) (w : World) (cs : List Ce) (soft : Bool) (q n : Nat) (n0 : Int) (a : At) (bq bn ba : Nat) (h1 : bq < B) (h2 : bn < B) (h3 : ba < B) (hbq : Box w bq 3 #[.int .i64 q]) (hbn : Box w bn 3 #[.int .i64 n0]) (hba : Box w ba 26 a.cells)
    (hq : q < cs.length) (hc : cs.length ≤ 1000) (hn0 : 0 ≤ n0) (hn : (n0 ≤ ((cs.length - q : Nat) : Int) ∧ n0 = n) ∨ (((cs.length - q : Nat) : Int) < n0 ∧ n = cs.length - q)) :
    Chg 43 #[.pointer (some ⟨bq, 0, none⟩), .pointer (some ⟨bn, 0, none⟩), .pointer (some ⟨ba, 0, none⟩)] B w cs (insL cs q n a) soft soft := by
  refine ⟨fun _ _ => by kernel_rfl, fun W b v hbel hB hbox hcs => ?_⟩
  have kq := (hbq.below hbel h1).cell 0
  have kn := (hbn.below hbel h2).cell 0
  have ka := hba.below hbel h3
  obtain ⟨fg, bg, fl⟩ := a
  unfold At.cells at ka
  simp only at ka
  obtain ⟨⟨a0, a1, a2⟩, _⟩ := ka.three
  obtain ⟨⟨c0, c1⟩, d0, d1⟩ := hbox.two
  show Calls _ _ #[.pointer (some ⟨b, 0, none⟩), .pointer (some ⟨bq, 0, none⟩), .pointer (some ⟨bn, 0, none⟩), .pointer (some ⟨ba, 0, none⟩)] _ _
  have HX := hid hbox
  have hlt := hbox.lt
  obtain ⟨g, cap, rfl, hg, hcb⟩ := hcs.some (by intro e; rw [e] at hq; simp at hq)
  have hcap : cs.length ≤ cap := by obtain ⟨_, _, _, h, _⟩ := hcb; exact h
  have hle : n ≤ cs.length - q := by omega
  have hgb : ¬ g = b := by omega
  have hne : ¬ cap = q := by omega
  obtain ⟨m, hm⟩ : ∃ m, cs.length = m := ⟨_, rfl⟩
  rw [hm] at c0 hq hc hn hcap hle
  have HM := hid hm
  have HCB := hid hcb
  have hqi : (q : Int) ≤ m := by omega
  have hqi2 : (q : Int) ≤ cap := by omega
  clear hcs hbox hm hcb
  have hcopy : ∀ W', CBox W' g cs cap → ∃ w', (∀ ty, (Builtin.copy_ #[52, 52] ty #[.slice (if cap - q = n then some ⟨g, q * 5, none⟩ else some ⟨g, q * 5 + n * 5, none⟩) (m - q - n) (cap - q - n), .slice (some ⟨g, q * 5, none⟩) (m - q) (cap - q)]).run Tryd.prog W' = .ok (goInt ((m - q - n : Nat) : Int)) w') ∧ CBox w' g (putAll cs (q + n) ((cs.drop q).take (m - q - n))) cap ∧ Only g W' w' := fun W' h =>
    copy_any W' h (q + n) q (m - q - n) (cap - q - n) (m - q) (cap - q) (if cap - q = n then some ⟨g, q * 5, none⟩ else some ⟨g, q * 5 + n * 5, none⟩) (by omega) (fun h => by rw [if_neg (by omega), Nat.add_mul]) (by rw [HM.out]; omega) (by rw [HM.out]; omega)
  rcases hn with ⟨hn1, rfl⟩ | ⟨hn1, hn2⟩
  · have hn2 : (n : Int) ≤ ((cap - q : Nat) : Int) := by omega
    by_cases hcn : cap - q = n
    · have hcopy' : ∀ W', CBox W' g cs cap → ∃ w', (∀ ty, (Builtin.copy_ #[52, 52] ty #[.slice (some ⟨g, q * 5, none⟩) (m - q - n) (cap - q - n), .slice (some ⟨g, q * 5, none⟩) (m - q) (cap - q)]).run Tryd.prog W' = .ok (goInt ((m - q - n : Nat) : Int)) w') ∧ CBox w' g (putAll cs (q + n) ((cs.drop q).take (m - q - n))) cap ∧ Only g W' w' := fun W' h => by
        have := hcopy W' h
        rwa [if_pos hcn] at this
      have HCOPY := hid hcopy'
      clear hcopy' hcopy
      go_enter Tryd.func43, Tryd.ntmps43
      go_wp2_with fail
      go_quiet (fail)
      obtain ⟨w1, hr1, hc1, ho1⟩ := HCOPY.out (W.drewN nq) HCB.out.drewN
      have hx1 := (HX.out.drewN (n := nq)).only ho1 (by omega)
      have hn1' := ho1.below (B := b) (by show b ≤ W.heap.size; omega) (by omega)
      have HC1 := hid hc1
      have HX1 := hid hx1
      have HO1 := hid ((below_drew W nq).mono (Nat.le_of_lt hlt) |>.trans hn1')
      have HR1 := hid hr1
      have ka1 := hba.below hbel h3
      have ka2 := (ka1.drewN (n := nq)).only ho1 (by omega)
      clear hr1 hc1 ho1 hx1 hn1' ka1 a0 a1 a2
      unfold At.cells at ka2
      simp only at ka2
      go_upto_region 3 with (refine wpList_copy_runC rfl (.tmp 19) (.tmp 20) rfl _ _ rfl rfl HR1.out ?_)
      obtain ⟨⟨a0, a1, a2⟩, _⟩ := ka2.three
      have her := fun c => erase_some g q n c cap (putAll cs (q + n) ((cs.drop q).take (m - q - n))) ⟨fg, bg, fl⟩ w1.drew HC1.out.drew (by rw [putAll_length, HM.out]; omega) (by rw [putAll_length, HM.out]; omega)
      unfold At.agg at her
      simp only at her
      have HER := hid her
      clear her
      go_wp2_with fail
      go_still_tail 4, (by kernel_rfl)
      change wpList _ _ _ _ _ w1.drew
      go_wp2_with fail
      with_reducible refine (HER.out _).mono ?_
      rintro e w2 ⟨rfl, h2, h3'⟩
      dsimp only
      have H2 := hid h2
      clear h2
      go_wp2
      go_end0
      have hle2 : b ≤ w1.heap.size := Nat.le_of_lt HX1.out.lt
      refine ⟨rfl, ⟨_, HX1.out.drew.only h3' (by omega), .inr ⟨g, cap, ?_, hg, ?_⟩⟩, HO1.out.trans ((Below.refl b w1).drew.trans (h3'.below hle2 (by omega)))⟩
      · unfold insL
        rw [eraseL_length _ (by rw [putAll_length, HM.out]; omega), putAll_length, HM.out]
      · unfold insL
        rw [HM.out]
        exact H2.out
    · have hcopy' : ∀ W', CBox W' g cs cap → ∃ w', (∀ ty, (Builtin.copy_ #[52, 52] ty #[.slice (some ⟨g, q * 5 + n * 5, none⟩) (m - q - n) (cap - q - n), .slice (some ⟨g, q * 5, none⟩) (m - q) (cap - q)]).run Tryd.prog W' = .ok (goInt ((m - q - n : Nat) : Int)) w') ∧ CBox w' g (putAll cs (q + n) ((cs.drop q).take (m - q - n))) cap ∧ Only g W' w' := fun W' h => by
        have := hcopy W' h
        rwa [if_neg hcn] at this
      have HCOPY := hid hcopy'
      clear hcopy' hcopy
      go_enter Tryd.func43, Tryd.ntmps43
      go_wp2_with fail
      go_quiet (fail)
      obtain ⟨w1, hr1, hc1, ho1⟩ := HCOPY.out (W.drewN nq) HCB.out.drewN
      have hx1 := (HX.out.drewN (n := nq)).only ho1 (by omega)
      have hn1' := ho1.below (B := b) (by show b ≤ W.heap.size; omega) (by omega)
      have HC1 := hid hc1
      have HX1 := hid hx1
      have HO1 := hid ((below_drew W nq).mono (Nat.le_of_lt hlt) |>.trans hn1')
      have HR1 := hid hr1
      have ka1 := hba.below hbel h3
      have ka2 := (ka1.drewN (n := nq)).only ho1 (by omega)
      clear hr1 hc1 ho1 hx1 hn1' ka1 a0 a1 a2
      unfold At.cells at ka2
      simp only at ka2
      go_upto_region 3 with (refine wpList_copy_runC rfl (.tmp 19) (.tmp 20) rfl _ _ rfl rfl HR1.out ?_)
      obtain ⟨⟨a0, a1, a2⟩, _⟩ := ka2.three
      have her := fun c => erase_some g q n c cap (putAll cs (q + n) ((cs.drop q).take (m - q - n))) ⟨fg, bg, fl⟩ w1.drew HC1.out.drew (by rw [putAll_length, HM.out]; omega) (by rw [putAll_length, HM.out]; omega)
      unfold At.agg at her
      simp only at her
      have HER := hid her
      clear her
      go_wp2_with fail
      go_still_tail 4, (by kernel_rfl)
      change wpList _ _ _ _ _ w1.drew
      go_wp2_with fail
      with_reducible refine (HER.out _).mono ?_
      rintro e w2 ⟨rfl, h2, h3'⟩
      dsimp only
      have H2 := hid h2
      clear h2
      go_wp2
      go_end0
      have hle2 : b ≤ w1.heap.size := Nat.le_of_lt HX1.out.lt
      refine ⟨rfl, ⟨_, HX1.out.drew.only h3' (by omega), .inr ⟨g, cap, ?_, hg, ?_⟩⟩, HO1.out.trans ((Below.refl b w1).drew.trans (h3'.below hle2 (by omega)))⟩
      · unfold insL
        rw [eraseL_length _ (by rw [putAll_length, HM.out]; omega), putAll_length, HM.out]
      · unfold insL
        rw [HM.out]
        exact H2.out
  · clear hcopy
    have hn3 : ((m - q : Nat) : Int) ≤ ((cap - q : Nat) : Int) := by omega
    rw [hn2]
    clear hn2
    by_cases hcn : cap - q = m - q
    all_goals
      go_enter Tryd.func43, Tryd.ntmps43
      go_wp2_with fail
      go_quiet (fail)
      have HC1 := hid (HCB.out.drewN (n := nq))
      have HX1 := hid (HX.out.drewN (n := nq))
      have HO1 := hid ((below_drew W nq).mono (Nat.le_of_lt hlt))
      have ka2 := hid ((hba.below hbel h3).drewN (n := nq))
      clear a0 a1 a2
      go_upto_region 3 with (refine wpList_copy_runC rfl (.tmp 19) (.tmp 20) rfl _ _ rfl rfl (fun ty => run_copy_zero _ ty _ _ _ _ _) ?_)
      generalize W.drewN nq = w1 at *
      have ka3 := ka2.out
      unfold At.cells at ka3
      simp only at ka3
      obtain ⟨⟨a0, a1, a2⟩, _⟩ := ka3.three
      have her := fun c => erase_some g q (m - q) c cap cs ⟨fg, bg, fl⟩ w1.drew HC1.out.drew (by rw [HM.out]; omega) (by rw [HM.out]; omega)
      unfold At.agg at her
      simp only at her
      have HER := hid her
      clear her
      go_wp2_with fail
      go_still_tail 4, (by kernel_rfl)
      change wpList _ _ _ _ _ w1.drew
      go_wp2_with fail
      with_reducible refine (HER.out _).mono ?_
      rintro e w2 ⟨rfl, h2, h3'⟩
      dsimp only
      have H2 := hid h2
      clear h2
      go_wp2
      go_end0
      have hle2 : b ≤ w1.heap.size := Nat.le_of_lt HX1.out.lt
      have hins : insL cs q (m - q) ⟨fg, bg, fl⟩ = eraseL cs q (m - q) ⟨fg, bg, fl⟩ := by
        unfold insL
        rw [HM.out, Nat.sub_self, List.take_zero, putAll]
      refine ⟨rfl, ⟨_, HX1.out.drew.only h3' (by omega), .inr ⟨g, cap, ?_, hg, ?_⟩⟩, HO1.out.trans ((Below.refl b w1).drew.trans (h3'.below hle2 (by omega)))⟩
      · rw [hins, eraseL_length _ (by rw [HM.out]; omega), HM.out]
      · rw [hins]
        exact H2.out
end Go.Proofs.YtkejoknphnkhnaaDoor

namespace Go.Proofs.YtkejoknphnkhnaaDoor
open Go.RowKit

theorem run_copy_zero2 (w : World) (ty : TypeId) (A B : Option Addr) (dLen dCap sCap : Nat) :
    (Builtin.copy_ #[52, 52] ty #[.slice A dLen dCap, .slice B 0 sCap]).run Tryd.prog w = .ok (goInt 0) w := by
  have hl : ∀ (x : Addr), (loadCells x 0).run Tryd.prog w = .ok #[] w := fun x => by simpa using run_loadCells_list (P := Tryd.prog) w x [] (by simp)
  cases A <;> cases B <;> simp [Builtin.copy_, run_underlying Tryd.underlying52, Builtin.lenOf, Builtin.firstCells, storeCells, hl]
theorem run_copy_z (w : World) (ty : TypeId) (A B : Option Addr) (dLen dCap n sCap : Nat) (hn : n = 0) :
    (Builtin.copy_ #[52, 52] ty #[.slice A dLen dCap, .slice B n sCap]).run Tryd.prog w = .ok (goInt 0) w := by
  subst hn
  exact run_copy_zero2 w ty A B dLen dCap sCap
/-- A copy within a block, to the front, of none too. -/
theorem copy_back (w : World) {g cap : Nat} {l : List Ce} (h : CBox w g l cap) (d s n dLen dCap sCap : Nat) (A : Option Addr) (hn : n ≤ dLen) (hA : 0 < n → A = some ⟨g, s * 5, none⟩) (hd : d + n ≤ l.length) (hs : s + n ≤ l.length) :
    ∃ w', (∀ ty, (Builtin.copy_ #[52, 52] ty #[.slice (some ⟨g, d * 5, none⟩) dLen dCap, .slice A n sCap]).run Tryd.prog w = .ok (goInt n) w') ∧ CBox w' g (putAll l d ((l.drop s).take n)) cap ∧ Only g w w' := by
  rcases Nat.eq_zero_or_pos n with rfl | hp
  · exact ⟨w, fun ty => run_copy_zero2 w ty _ A dLen dCap sCap, by rw [List.take_zero]; exact h, Only.refl g w⟩
  · rw [hA hp]
    have hl : ((l.drop s).take n).length = n := by rw [List.length_take, List.length_drop]; omega
    obtain ⟨h1, h2⟩ := CBox.putAll ((l.drop s).take n) l d w h (by rw [hl]; exact hd)
    refine ⟨_, fun ty => ?_, h1, h2⟩
    have hr := run_copy_ce w ty g (d * 5) dLen dCap (s * 5) n sCap ((l.drop s).take n) (by rw [hl]; simp only [Nat.min_def]; split <;> omega) (h.flat (k := s) (fun j e hj => by
      rw [List.getElem?_take] at hj
      split at hj
      · rwa [List.getElem?_drop] at hj
      · cases hj)) (fun j hj => h.some_ (by rw [hl] at hj; omega)) (fun j _ => h.free _)
    rw [hl] at hr
    exact hr

set_option maxRecDepth 100000 in
set_option maxHeartbeats 8000000 in
theorem delete_chg (B : Nat) (w : World) (cs : List Ce) (soft : Bool) (q n : Nat) (n0 : Int) (a : At) (bq bn ba : Nat) (h1 : bq < B) (h2 : bn < B) (h3 : ba < B) (hbq : Box w bq 3 #[.int .i64 q]) (hbn : Box w bn 3 #[.int .i64 n0]) (hba : Box w ba 26 a.cells)
    (hq : q < cs.length) (hc : cs.length ≤ 1000) (hn0 : 0 ≤ n0) (hn : (n0 ≤ ((cs.length - q : Nat) : Int) ∧ n0 = n) ∨ (((cs.length - q : Nat) : Int) < n0 ∧ n = cs.length - q)) :
    Chg 45 #[.pointer (some ⟨bq, 0, none⟩), .pointer (some ⟨bn, 0, none⟩), .pointer (some ⟨ba, 0, none⟩)] B w cs (delL cs q n a) soft soft := by
  refine ⟨fun _ _ => by kernel_rfl, fun W b v hbel hB hbox hcs => ?_⟩
  have kq := (hbq.below hbel h1).cell 0
  have kn := (hbn.below hbel h2).cell 0
  have ka := hba.below hbel h3
  obtain ⟨fg, bg, fl⟩ := a
  unfold At.cells at ka
  simp only at ka
  obtain ⟨⟨a0, a1, a2⟩, _⟩ := ka.three
  obtain ⟨⟨c0, c1⟩, d0, d1⟩ := hbox.two
  show Calls _ _ #[.pointer (some ⟨b, 0, none⟩), .pointer (some ⟨bq, 0, none⟩), .pointer (some ⟨bn, 0, none⟩), .pointer (some ⟨ba, 0, none⟩)] _ _
  have HX := hid hbox
  have hlt := hbox.lt
  obtain ⟨g, cap, rfl, hg, hcb⟩ := hcs.some (by intro e; rw [e] at hq; simp at hq)
  have hcap : cs.length ≤ cap := by obtain ⟨_, _, _, h, _⟩ := hcb; exact h
  have hle : n ≤ cs.length - q := by omega
  have hgb : ¬ g = b := by omega
  have hne : ¬ cap = q := by omega
  obtain ⟨m, hm⟩ : ∃ m, cs.length = m := ⟨_, rfl⟩
  rw [hm] at c0 hq hc hn hcap hle
  have HM := hid hm
  have HCB := hid hcb
  have hqi : (q : Int) ≤ m := by omega
  have hqi2 : (q : Int) ≤ cap := by omega
  clear hcs hbox hm hcb
  have hcopy : ∀ W', CBox W' g cs cap → ∃ w', (∀ ty, (Builtin.copy_ #[52, 52] ty #[.slice (some ⟨g, q * 5, none⟩) (m - q) (cap - q), .slice (if cap - q = n then some ⟨g, q * 5, none⟩ else some ⟨g, q * 5 + n * 5, none⟩) (m - q - n) (cap - q - n)]).run Tryd.prog W' = .ok (goInt ((m - q - n : Nat) : Int)) w') ∧ CBox w' g (putAll cs q ((cs.drop (q + n)).take (m - q - n))) cap ∧ Only g W' w' := fun W' h =>
    copy_back W' h q (q + n) (m - q - n) (m - q) (cap - q) (cap - q - n) (if cap - q = n then some ⟨g, q * 5, none⟩ else some ⟨g, q * 5 + n * 5, none⟩) (by omega) (fun h => by rw [if_neg (by omega), Nat.add_mul]) (by rw [HM.out]; omega) (by rw [HM.out]; omega)
  have hera : ∀ w1, CBox w1 g (putAll cs q ((cs.drop (q + n)).take (m - q - n))) cap → ∀ c, Calls Tryd.prog 44 #[.slice (if cap - q = m - q - n then some ⟨g, q * 5, none⟩ else some ⟨g, q * 5 + (m - q - n) * 5, none⟩) (m - q - (m - q - n)) c, At.agg ⟨fg, bg, fl⟩] w1 (ErPost w1 g cap (delL cs q n ⟨fg, bg, fl⟩)) := by
    intro w1 h c
    have hd : delL cs q n ⟨fg, bg, fl⟩ = eraseL (putAll cs q ((cs.drop (q + n)).take (m - q - n))) (m - n) n ⟨fg, bg, fl⟩ := by
      unfold delL
      rw [HM.out]
    rw [hd, show m - q - (m - q - n) = n by omega]
    by_cases hn0 : n = 0
    · subst hn0
      rw [eraseL_0]
      exact (erase_none _ c ⟨fg, bg, fl⟩ w1).mono fun _ _ ⟨he, hb⟩ => ⟨he, h.below hb h.lt, Only.of_below hb⟩
    · rw [if_neg (by omega), show q * 5 + (m - q - n) * 5 = (m - n) * 5 by omega]
      exact erase_some g (m - n) n c cap _ ⟨fg, bg, fl⟩ w1 h (by rw [putAll_length, HM.out]; omega) (by rw [putAll_length, HM.out]; omega)
  unfold At.agg at hera
  simp only at hera
  have hlen : (delL cs q n ⟨fg, bg, fl⟩).length = m := by
    unfold delL
    rw [eraseL_length _ (by rw [putAll_length, HM.out]; omega), putAll_length, HM.out]
  have HLEN := hid hlen
  clear hlen
  rcases hn with ⟨hn1, rfl⟩ | ⟨hn1, hn2⟩
  · have hn2 : (n : Int) ≤ ((cap - q : Nat) : Int) := by omega
    have hn4 : (n : Int) ≤ ((m - q : Nat) : Int) := by omega
    have hn5 : ((m - q - n : Nat) : Int) ≤ ((m - q : Nat) : Int) := by omega
    have hcn3 : ¬ (cap - q = n ∧ cap - q = m - q - n) := by omega
    by_cases hcn : cap - q = n
    · have hcn2 : ¬ cap - q = m - q - n := fun h => hcn3 ⟨hcn, h⟩
      have hcn2' : ¬ n = m - q - n := by omega
      clear hcn3
      simp only [if_pos hcn] at hcopy
      simp only [if_neg hcn2] at hera
      have HCOPY := hid hcopy
      have HERA := hid hera
      clear hcopy hera
      go_enter Tryd.func45, Tryd.ntmps45
      go_wp2_with fail
      go_quiet (fail)
      obtain ⟨w1, hr1, hc1, ho1⟩ := HCOPY.out (W.drewN nq) HCB.out.drewN
      have hx1 := (HX.out.drewN (n := nq)).only ho1 (by omega)
      have hn1' := ho1.below (B := b) (by show b ≤ W.heap.size; omega) (by omega)
      have HC1 := hid hc1
      have HX1 := hid hx1
      have HO1 := hid ((below_drew W nq).mono (Nat.le_of_lt hlt) |>.trans hn1')
      have HR1 := hid hr1
      have ka1 := hba.below hbel h3
      have ka2 := (ka1.drewN (n := nq)).only ho1 (by omega)
      clear hr1 hc1 ho1 hx1 hn1' ka1 a0 a1 a2
      unfold At.cells at ka2
      simp only at ka2
      go_upto_region 2 with (refine wpList_copy_runC rfl (.tmp 13) (.tmp 19) rfl _ _ rfl rfl HR1.out ?_)
      obtain ⟨⟨a0, a1, a2⟩, _⟩ := ka2.three
      have HER := hid (HERA.out w1.drew HC1.out.drew)
      go_wp2_with fail
      go_still_tail 4, (by kernel_rfl)
      change wpList _ _ _ _ _ w1.drew
      go_wp2_with fail
      with_reducible refine (HER.out _).mono ?_
      rintro e w2 ⟨rfl, h2, h3'⟩
      dsimp only
      have H2 := hid h2
      clear h2
      go_wp2
      go_end0
      have hle2 : b ≤ w1.heap.size := Nat.le_of_lt HX1.out.lt
      exact ⟨rfl, ⟨_, HX1.out.drew.only h3' (by omega), .inr ⟨g, cap, by rw [HLEN.out, HM.out], hg, H2.out⟩⟩, HO1.out.trans ((Below.refl b w1).drew.trans (h3'.below hle2 (by omega)))⟩
    by_cases hcn2 : cap - q = m - q - n
    · clear hcn3
      simp only [if_neg hcn] at hcopy
      simp only [if_pos hcn2] at hera
      have HCOPY := hid hcopy
      have HERA := hid hera
      clear hcopy hera
      go_enter Tryd.func45, Tryd.ntmps45
      go_wp2_with fail
      go_quiet (fail)
      obtain ⟨w1, hr1, hc1, ho1⟩ := HCOPY.out (W.drewN nq) HCB.out.drewN
      have hx1 := (HX.out.drewN (n := nq)).only ho1 (by omega)
      have hn1' := ho1.below (B := b) (by show b ≤ W.heap.size; omega) (by omega)
      have HC1 := hid hc1
      have HX1 := hid hx1
      have HO1 := hid ((below_drew W nq).mono (Nat.le_of_lt hlt) |>.trans hn1')
      have HR1 := hid hr1
      have ka1 := hba.below hbel h3
      have ka2 := (ka1.drewN (n := nq)).only ho1 (by omega)
      clear hr1 hc1 ho1 hx1 hn1' ka1 a0 a1 a2
      unfold At.cells at ka2
      simp only at ka2
      go_upto_region 2 with (refine wpList_copy_runC rfl (.tmp 13) (.tmp 19) rfl _ _ rfl rfl HR1.out ?_)
      obtain ⟨⟨a0, a1, a2⟩, _⟩ := ka2.three
      have HER := hid (HERA.out w1.drew HC1.out.drew)
      go_wp2_with fail
      go_still_tail 4, (by kernel_rfl)
      change wpList _ _ _ _ _ w1.drew
      go_wp2_with fail
      with_reducible refine (HER.out _).mono ?_
      rintro e w2 ⟨rfl, h2, h3'⟩
      dsimp only
      have H2 := hid h2
      clear h2
      go_wp2
      go_end0
      have hle2 : b ≤ w1.heap.size := Nat.le_of_lt HX1.out.lt
      exact ⟨rfl, ⟨_, HX1.out.drew.only h3' (by omega), .inr ⟨g, cap, by rw [HLEN.out, HM.out], hg, H2.out⟩⟩, HO1.out.trans ((Below.refl b w1).drew.trans (h3'.below hle2 (by omega)))⟩
    · clear hcn3
      simp only [if_neg hcn] at hcopy
      simp only [if_neg hcn2] at hera
      have HCOPY := hid hcopy
      have HERA := hid hera
      clear hcopy hera
      go_enter Tryd.func45, Tryd.ntmps45
      go_wp2_with fail
      go_quiet (fail)
      obtain ⟨w1, hr1, hc1, ho1⟩ := HCOPY.out (W.drewN nq) HCB.out.drewN
      have hx1 := (HX.out.drewN (n := nq)).only ho1 (by omega)
      have hn1' := ho1.below (B := b) (by show b ≤ W.heap.size; omega) (by omega)
      have HC1 := hid hc1
      have HX1 := hid hx1
      have HO1 := hid ((below_drew W nq).mono (Nat.le_of_lt hlt) |>.trans hn1')
      have HR1 := hid hr1
      have ka1 := hba.below hbel h3
      have ka2 := (ka1.drewN (n := nq)).only ho1 (by omega)
      clear hr1 hc1 ho1 hx1 hn1' ka1 a0 a1 a2
      unfold At.cells at ka2
      simp only at ka2
      go_upto_region 2 with (refine wpList_copy_runC rfl (.tmp 13) (.tmp 19) rfl _ _ rfl rfl HR1.out ?_)
      obtain ⟨⟨a0, a1, a2⟩, _⟩ := ka2.three
      have HER := hid (HERA.out w1.drew HC1.out.drew)
      go_wp2_with fail
      go_still_tail 4, (by kernel_rfl)
      change wpList _ _ _ _ _ w1.drew
      go_wp2_with fail
      with_reducible refine (HER.out _).mono ?_
      rintro e w2 ⟨rfl, h2, h3'⟩
      dsimp only
      have H2 := hid h2
      clear h2
      go_wp2
      go_end0
      have hle2 : b ≤ w1.heap.size := Nat.le_of_lt HX1.out.lt
      exact ⟨rfl, ⟨_, HX1.out.drew.only h3' (by omega), .inr ⟨g, cap, by rw [HLEN.out, HM.out], hg, H2.out⟩⟩, HO1.out.trans ((Below.refl b w1).drew.trans (h3'.below hle2 (by omega)))⟩
  · clear hcopy hera HLEN
    have hn3 : ((m - q : Nat) : Int) ≤ ((cap - q : Nat) : Int) := by omega
    rw [hn2]
    clear hn2
    have hnz : ¬ cap - q = 0 := by omega
    by_cases hcn : cap - q = m - q
    all_goals
      go_enter Tryd.func45, Tryd.ntmps45
      go_wp2_with fail
      go_quiet (fail)
      have HC1 := hid (HCB.out.drewN (n := nq))
      have HX1 := hid (HX.out.drewN (n := nq))
      have HO1 := hid ((below_drew W nq).mono (Nat.le_of_lt hlt))
      have ka2 := hid ((hba.below hbel h3).drewN (n := nq))
      clear a0 a1 a2
      go_upto_region 2 with (refine wpList_copy_runC rfl (.tmp 13) (.tmp 19) rfl _ _ rfl rfl (fun ty => run_copy_z _ ty _ _ _ _ _ _ (by first | rfl | omega)) ?_)
      generalize W.drewN nq = w1 at *
      have ka3 := ka2.out
      unfold At.cells at ka3
      simp only at ka3
      obtain ⟨⟨a0, a1, a2⟩, _⟩ := ka3.three
      have her := fun c => erase_some g q (m - q) c cap cs ⟨fg, bg, fl⟩ w1.drew HC1.out.drew (by rw [HM.out]; omega) (by rw [HM.out]; omega)
      unfold At.agg at her
      simp only at her
      have HER := hid her
      clear her
      go_wp2_with fail
      go_still_tail 4, (by kernel_rfl)
      change wpList _ _ _ _ _ w1.drew
      go_wp2_with fail
      with_reducible refine (HER.out _).mono ?_
      rintro e w2 ⟨rfl, h2, h3'⟩
      dsimp only
      have H2 := hid h2
      clear h2
      go_wp2
      go_end0
      have hle2 : b ≤ w1.heap.size := Nat.le_of_lt HX1.out.lt
      have hins : delL cs q (m - q) ⟨fg, bg, fl⟩ = eraseL cs q (m - q) ⟨fg, bg, fl⟩ := by
        unfold delL
        rw [HM.out, Nat.sub_self, List.take_zero, putAll, show m - (m - q) = q by omega]
      refine ⟨rfl, ⟨_, HX1.out.drew.only h3' (by omega), .inr ⟨g, cap, ?_, hg, ?_⟩⟩, HO1.out.trans ((Below.refl b w1).drew.trans (h3'.below hle2 (by omega)))⟩
      · rw [hins, eraseL_length _ (by rw [HM.out]; omega), HM.out]
      · rw [hins]
        exact H2.out
end Go.Proofs.YtkejoknphnkhnaaDoor
