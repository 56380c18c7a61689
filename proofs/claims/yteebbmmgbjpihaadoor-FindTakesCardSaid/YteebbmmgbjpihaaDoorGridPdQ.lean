/- Layer 6, the package: cells copied within a block. -/
/- Layer 6, plain: cells inserted one by one, and deleted one by one. -/
/- Layer 6, the package: what is done with a line: cells come. -/
/- Layer 6, the package: what is done with a line: cells go. Made by wip/gen/gridDel.py. -/
import Derived.Test.YteebbmmgbjpihaaDoorGridEraseQ
import Derived.Laws.IdiomCopy
import Derived.StillTailTactics
import Derived.Deep.QuietTactic
import Derived.BigQuiet
import Derived.IntWalk
namespace Go.Proofs.YteebbmmgbjpihaaDoor
open Go.RowKit

theorem run_copy_ce (w : World) (ty : TypeId) (g o dLen dCap so sLen sCap : Nat) (cs : List Ce) (hn : cs.length = Nat.min sLen dLen)
    (hsrc : ∀ j u, (cflat cs)[j]? = some u → w.cell? ⟨g, so + j, none⟩ = some u) (hc : ∀ j, j < cs.length * 5 → (w.cell? ⟨g, o + j, none⟩).isSome = true) (hf : ∀ j, j < cs.length * 5 → w.frozen? ⟨g, o + j, none⟩ = false) :
    (Builtin.copy_ #[37, 37] ty #[.slice (some ⟨g, o, none⟩) dLen dCap, .slice (some ⟨g, so, none⟩) sLen sCap]).run Tryd.prog w = .ok (goInt cs.length) (w.setCells g o (cflat cs)) := by
  obtain ⟨i0, hi, hz0, hz1, hz2⟩ := info_parts ce_info
  have hl := run_loadCells_list (P := Tryd.prog) w ⟨g, so, none⟩ (cflat cs) (fun j u hj => by rw [addr_add]; exact hsrc j u hj)
  rw [cflat_length] at hl
  have hst := run_storeCells_cells (P := Tryd.prog) g o (cflat cs) 0 w (by rw [cflat_length]; simpa using hc) (by rw [cflat_length]; simpa using hf) cflat_one
  have hn' : Nat.min sLen dLen = cs.length := hn.symm
  simp only [Nat.add_zero] at hst
  simp [Builtin.copy_, run_underlying Tryd.underlying37, Builtin.lenOf, Builtin.firstCells, hn', hl, hst]
/-- Cells written from a place on. -/
def putAll : List Ce → Nat → List Ce → List Ce
  | l, _, [] => l
  | l, k, e :: m => putAll (l.set k e) (k + 1) m
theorem putAll_length : ∀ (m l : List Ce) (k : Nat), (putAll l k m).length = l.length
  | [], _, _ => rfl
  | e :: m, l, k => by rw [putAll, putAll_length m, List.length_set]
theorem putAll_at : ∀ (m l : List Ce) (k j : Nat), k + m.length ≤ l.length → (putAll l k m)[j]? = if k ≤ j ∧ j < k + m.length then m[j - k]? else l[j]?
  | [], l, k, j, _ => by rw [putAll, if_neg (by rw [List.length_nil]; omega)]
  | e :: m, l, k, j, h => by
    rw [List.length_cons] at h
    rw [putAll, putAll_at m _ _ _ (by rw [List.length_set]; omega)]
    by_cases h1 : k + 1 ≤ j ∧ j < k + 1 + m.length
    · rw [if_pos h1, if_pos (by rw [List.length_cons]; omega), show j - k = (j - (k + 1)) + 1 by omega, List.getElem?_cons_succ]
    · rw [if_neg h1]
      by_cases h2 : j = k
      · subst h2
        rw [List.getElem?_set_self (by omega), if_pos (by rw [List.length_cons]; omega), Nat.sub_self]
        rfl
      · rw [List.getElem?_set_ne (Ne.symm h2), if_neg (by rw [List.length_cons]; omega)]
theorem CBox.putAll {g cap : Nat} : ∀ (m l : List Ce) (k : Nat) (w : World), CBox w g l cap → k + m.length ≤ l.length → CBox (w.setCells g (k * 5) (cflat m)) g (putAll l k m) cap ∧ Only g w (w.setCells g (k * 5) (cflat m))
  | [], l, k, w, h, _ => ⟨h, Only.refl g w⟩
  | e :: m, l, k, w, h, hk => by
    rw [List.length_cons] at hk
    have h5 := h.set5 (k := k) (by omega) e
    obtain ⟨h1, h2⟩ := CBox.putAll m (l.set k e) (k + 1) (Go.Proofs.YteebbmmgbjpihaaDoor.set5 w g (k * 5) e) h5 (by rw [List.length_set]; omega)
    have hw : w.setCells g (k * 5) (cflat (e :: m)) = (Go.Proofs.YteebbmmgbjpihaaDoor.set5 w g (k * 5) e).setCells g ((k + 1) * 5) (cflat m) := by
      unfold Go.Proofs.YteebbmmgbjpihaaDoor.set5
      simp only [cflat, Ce.cells, List.cons_append, List.nil_append, World.setCells]
      rw [show (k + 1) * 5 = k * 5 + 1 + 1 + 1 + 1 + 1 by omega]
    rw [hw]
    exact ⟨h1, (Only.set5 (Only.refl g w) e).trans h2⟩
theorem CBox.flat {W : World} {g cap : Nat} {l : List Ce} (h : CBox W g l cap) {k : Nat} {m : List Ce} (hm : ∀ j e, m[j]? = some e → l[k + j]? = some e) : ∀ j u, (cflat m)[j]? = some u → W.cell? ⟨g, k * 5 + j, none⟩ = some u := by
  intro j u hu
  obtain ⟨e, h1, h2⟩ := cflat_inv m j u hu
  have := h.cell (hm _ e h1) h2
  rwa [show (k + j / 5) * 5 + j % 5 = k * 5 + j by omega] at this
theorem CBox.some_ {W : World} {g cap : Nat} {l : List Ce} (h : CBox W g l cap) {j : Nat} (hj : j < l.length * 5) : (W.cell? ⟨g, j, none⟩).isSome = true := by
  have hx := List.getElem?_eq_getElem (l := l) (i := j / 5) (by omega)
  have hi : (l[j / 5]).cells[j % 5]? = some ((l[j / 5]).cells[j % 5]'(by simp [Ce.cells]; omega)) := Array.getElem?_eq_getElem _
  have := h.cell hx hi
  rw [show j / 5 * 5 + j % 5 = j by omega] at this
  rw [this]
  rfl
/-- A copy within a block: the cells from a place on, so many, to another place. -/
theorem copy_ce (w : World) (ty : TypeId) {g cap : Nat} {l : List Ce} (h : CBox w g l cap) (d s n dLen dCap sLen sCap : Nat) (hn : n = Nat.min sLen dLen) (hd : d + n ≤ l.length) (hs : s + n ≤ l.length) :
    ∃ w', (Builtin.copy_ #[37, 37] ty #[.slice (some ⟨g, d * 5, none⟩) dLen dCap, .slice (some ⟨g, s * 5, none⟩) sLen sCap]).run Tryd.prog w = .ok (goInt n) w' ∧ CBox w' g (putAll l d ((l.drop s).take n)) cap ∧ Only g w w' := by
  have hl : ((l.drop s).take n).length = n := by rw [List.length_take, List.length_drop]; omega
  have hr := run_copy_ce w ty g (d * 5) dLen dCap (s * 5) sLen sCap ((l.drop s).take n) (by rw [hl, hn]) (h.flat (k := s) (fun j e hj => by
    rw [List.getElem?_take] at hj
    split at hj
    · rwa [List.getElem?_drop] at hj
    · cases hj)) (fun j hj => h.some_ (by rw [hl] at hj; omega)) (fun j _ => h.free _)
  rw [hl] at hr
  obtain ⟨h1, h2⟩ := CBox.putAll ((l.drop s).take n) l d w h (by rw [hl]; exact hd)
  exact ⟨_, hr, h1, h2⟩
/-- What is inserted into a row of cells, and what is deleted. -/
def insL (l : List Ce) (k n : Nat) (a : At) : List Ce := eraseL (putAll l (k + n) ((l.drop k).take (l.length - k - n))) k n a
def delL (l : List Ce) (k n : Nat) (a : At) : List Ce := eraseL (putAll l k ((l.drop (k + n)).take (l.length - k - n))) (l.length - n) n a
end Go.Proofs.YteebbmmgbjpihaaDoor

namespace Go.Proofs.YteebbmmgbjpihaaDoor
open Go.RowKit

def insOne (q : Nat) (a : At) (l : List Ce) : List Ce := l.take q ++ [blkC a] ++ (l.drop q).take (l.length - 1 - q)
def delOne (q : Nat) (a : At) (l : List Ce) : List Ce := l.take q ++ l.drop (q + 1) ++ [blkC a]
def iterL (f : List Ce → List Ce) : Nat → List Ce → List Ce
  | 0, l => l
  | k + 1, l => f (iterL f k l)
theorem insOne_length {q : Nat} {a : At} {l : List Ce} (hq : q < l.length) : (insOne q a l).length = l.length := by
  unfold insOne
  simp only [List.length_append, List.length_take, List.length_drop, List.length_singleton]
  omega
theorem delOne_length {q : Nat} {a : At} {l : List Ce} (hq : q < l.length) : (delOne q a l).length = l.length := by
  unfold delOne
  simp only [List.length_append, List.length_take, List.length_drop, List.length_singleton]
  omega
theorem iterIns_length {q : Nat} {a : At} {l : List Ce} (hq : q < l.length) : ∀ k, (iterL (insOne q a) k l).length = l.length
  | 0 => rfl
  | k + 1 => by rw [iterL, insOne_length (by rw [iterIns_length hq k]; exact hq), iterIns_length hq k]
theorem iterDel_length {q : Nat} {a : At} {l : List Ce} (hq : q < l.length) : ∀ k, (iterL (delOne q a) k l).length = l.length
  | 0 => rfl
  | k + 1 => by rw [iterL, delOne_length (by rw [iterDel_length hq k]; exact hq), iterDel_length hq k]
theorem insOne_at {q j : Nat} {a : At} {l : List Ce} (hq : q < l.length) (hj : j < l.length) : (insOne q a l)[j]? = if j < q then l[j]? else if j = q then some (blkC a) else l[j - 1]? := by
  unfold insOne
  have h1 : (l.take q).length = q := by rw [List.length_take]; omega
  by_cases a1 : j < q
  · rw [if_pos a1, List.getElem?_append_left (by rw [List.length_append, h1]; omega), List.getElem?_append_left (by omega), List.getElem?_take, if_pos a1]
  · rw [if_neg a1]
    by_cases a2 : j = q
    · subst a2
      rw [if_pos rfl, List.getElem?_append_left (by rw [List.length_append, h1, List.length_singleton]; omega), List.getElem?_append_right (by omega), h1, Nat.sub_self]
      rfl
    · rw [if_neg a2, List.getElem?_append_right (by rw [List.length_append, h1, List.length_singleton]; omega), List.length_append, h1, List.length_singleton, List.getElem?_take, if_pos (by omega), List.getElem?_drop]
      congr 1
      omega
theorem delOne_at {q j : Nat} {a : At} {l : List Ce} (hq : q < l.length) (hj : j < l.length) : (delOne q a l)[j]? = if j < q then l[j]? else if j + 1 < l.length then l[j + 1]? else some (blkC a) := by
  unfold delOne
  have h1 : (l.take q).length = q := by rw [List.length_take]; omega
  have h2 : (l.drop (q + 1)).length = l.length - (q + 1) := List.length_drop
  by_cases a1 : j < q
  · rw [if_pos a1, List.getElem?_append_left (by rw [List.length_append, h1]; omega), List.getElem?_append_left (by omega), List.getElem?_take, if_pos a1]
  · rw [if_neg a1]
    by_cases a2 : j + 1 < l.length
    · rw [if_pos a2, List.getElem?_append_left (by rw [List.length_append, h1, h2]; omega), List.getElem?_append_right (by omega), h1, List.getElem?_drop]
      congr 1
      omega
    · rw [if_neg a2, List.getElem?_append_right (by rw [List.length_append, h1, h2]; omega), List.length_append, h1, h2, show j - (q + (l.length - (q + 1))) = 0 by omega]
      rfl
theorem iterIns_at {q : Nat} {a : At} {l : List Ce} (hq : q < l.length) : ∀ k j, j < l.length → (iterL (insOne q a) k l)[j]? = if j < q then l[j]? else if j < q + k then some (blkC a) else l[j - k]?
  | 0, j, _ => by
    rw [iterL]
    by_cases a1 : j < q
    · rw [if_pos a1]
    · rw [if_neg a1, if_neg (by omega)]; rfl
  | k + 1, j, hj => by
    rw [iterL, insOne_at (by rw [iterIns_length hq]; exact hq) (by rw [iterIns_length hq]; exact hj)]
    by_cases a1 : j < q
    · rw [if_pos a1, if_pos a1, iterIns_at hq k j hj, if_pos a1]
    · rw [if_neg a1, if_neg a1]
      by_cases a2 : j = q
      · rw [if_pos a2, if_pos (by omega)]
      · rw [if_neg a2, iterIns_at hq k (j - 1) (by omega), if_neg (by omega)]
        by_cases a3 : j < q + (k + 1)
        · rw [if_pos (by omega), if_pos a3]
        · rw [if_neg (by omega), if_neg a3]
          congr 1
          omega
theorem iterDel_at {q : Nat} {a : At} {l : List Ce} (hq : q < l.length) : ∀ k j, j < l.length → (iterL (delOne q a) k l)[j]? = if j < q then l[j]? else if j + k < l.length then l[j + k]? else some (blkC a)
  | 0, j, hj => by
    rw [iterL]
    by_cases a1 : j < q
    · rw [if_pos a1]
    · rw [if_neg a1, if_pos (by omega)]; rfl
  | k + 1, j, hj => by
    rw [iterL, delOne_at (by rw [iterDel_length hq]; exact hq) (by rw [iterDel_length hq]; exact hj), iterDel_length hq]
    by_cases a1 : j < q
    · rw [if_pos a1, if_pos a1, iterDel_at hq k j hj, if_pos a1]
    · rw [if_neg a1, if_neg a1]
      by_cases a2 : j + 1 < l.length
      · rw [if_pos a2, iterDel_at hq k (j + 1) a2, if_neg (by omega)]
        by_cases a3 : j + (k + 1) < l.length
        · rw [if_pos (by omega), if_pos a3]
          congr 1
          omega
        · rw [if_neg (by omega), if_neg a3]
      · rw [if_neg a2, if_neg (by omega)]
theorem iterIns_eq {q : Nat} {a : At} {l : List Ce} (hq : q < l.length) (K : Nat) : iterL (insOne q a) K l = insL l q (min K (l.length - q)) a := by
  obtain ⟨m, hm⟩ : ∃ m, min K (l.length - q) = m := ⟨_, rfl⟩
  rw [hm]
  have hml : q + m ≤ l.length := by omega
  have hp : ∀ j, (putAll l (q + m) ((l.drop q).take (l.length - q - m)))[j]? = if q + m ≤ j ∧ j < l.length then l[j - m]? else l[j]? := fun j => by
    rw [putAll_at _ _ _ _ (by rw [List.length_take, List.length_drop]; omega)]
    have hl : ((l.drop q).take (l.length - q - m)).length = l.length - q - m := by rw [List.length_take, List.length_drop]; omega
    rw [hl]
    by_cases a1 : q + m ≤ j ∧ j < l.length
    · rw [if_pos (by omega), if_pos a1, List.getElem?_take, if_pos (by omega), List.getElem?_drop]
      congr 1
      omega
    · rw [if_neg (by omega), if_neg a1]
  apply List.ext_getElem?
  intro j
  by_cases hj : j < l.length
  · rw [iterIns_at hq K j hj]
    unfold insL
    rw [eraseL_at _ (by rw [putAll_length]; exact hml), hp]
    by_cases a1 : j < q
    · rw [if_pos a1, if_neg (by omega), if_neg (by omega)]
    · rw [if_neg a1]
      by_cases a2 : j < q + K
      · rw [if_pos a2, if_pos (by omega)]
      · rw [if_neg a2, if_neg (by omega), if_pos (by omega)]
        congr 1
        omega
  · rw [List.getElem?_eq_none (by rw [iterIns_length hq]; omega), List.getElem?_eq_none (by unfold insL; rw [eraseL_length _ (by rw [putAll_length]; exact hml), putAll_length]; omega)]
theorem iterDel_eq {q : Nat} {a : At} {l : List Ce} (hq : q < l.length) (K : Nat) : iterL (delOne q a) K l = delL l q (min K (l.length - q)) a := by
  obtain ⟨m, hm⟩ : ∃ m, min K (l.length - q) = m := ⟨_, rfl⟩
  rw [hm]
  have hml : m ≤ l.length - q := by omega
  have hp : ∀ j, (putAll l q ((l.drop (q + m)).take (l.length - q - m)))[j]? = if q ≤ j ∧ j < l.length - m then l[j + m]? else l[j]? := fun j => by
    rw [putAll_at _ _ _ _ (by rw [List.length_take, List.length_drop]; omega)]
    have hl : ((l.drop (q + m)).take (l.length - q - m)).length = l.length - q - m := by rw [List.length_take, List.length_drop]; omega
    rw [hl]
    by_cases a1 : q ≤ j ∧ j < l.length - m
    · rw [if_pos (by omega), if_pos a1, List.getElem?_take, if_pos (by omega), List.getElem?_drop]
      congr 1
      omega
    · rw [if_neg (by omega), if_neg a1]
  apply List.ext_getElem?
  intro j
  by_cases hj : j < l.length
  · rw [iterDel_at hq K j hj]
    unfold delL
    rw [eraseL_at _ (by rw [putAll_length]; omega), hp]
    by_cases a1 : j < q
    · rw [if_pos a1, if_neg (by omega), if_neg (by omega)]
    · rw [if_neg a1]
      by_cases a2 : j + K < l.length
      · rw [if_pos a2, if_neg (by omega), if_pos (by omega)]
        congr 1
        omega
      · rw [if_neg a2, if_pos (by omega)]
  · rw [List.getElem?_eq_none (by rw [iterDel_length hq]; omega), List.getElem?_eq_none (by unfold delL; rw [eraseL_length _ (by rw [putAll_length]; omega), putAll_length]; omega)]
end Go.Proofs.YteebbmmgbjpihaaDoor

namespace Go.Proofs.YteebbmmgbjpihaaDoor
open Go.RowKit

theorem wpList_copy_runC {ops : Array Oper} {rest : List Oper} {o : Oper} {a : Act} {w : World} {Q : Exit → Act → World → Prop} (hw : Region.wanted o (yielded ops a.tmps) = true) (d s : Operand)
    (ho : o.op = .call { callee := .builtin .copy, args := #[d, s], argTypes := #[37, 37] }) (v u : Value) (hd : a.eval d = v) (hs : a.eval s = u) {v' : Value} {w' : World}
    (hr : ∀ ty, (Builtin.copy_ #[37, 37] ty #[v, u]).run Tryd.prog w = .ok v' w') (h : wpList Tryd.prog ops Q rest (a.put o.dst v') w') : wpList Tryd.prog ops Q (o :: rest) a w := by
  simp only [wpList, hw, if_true]
  left
  unfold Oper.wp
  simp [execOp, ho, resolve, invoke, builtin, hd, hs, hr o.type, Result.andThen]
  exact h
theorem run_copy_zero (w : World) (ty : TypeId) (A B : Option Addr) (dCap sLen sCap : Nat) :
    (Builtin.copy_ #[37, 37] ty #[.slice A 0 dCap, .slice B sLen sCap]).run Tryd.prog w = .ok (goInt 0) w := by
  have hl : ∀ (x : Addr), (loadCells x 0).run Tryd.prog w = .ok #[] w := fun x => by simpa using run_loadCells_list (P := Tryd.prog) w x [] (by simp)
  cases A <;> cases B <;> simp [Builtin.copy_, run_underlying Tryd.underlying37, Builtin.lenOf, Builtin.firstCells, storeCells, hl]
/-- A copy within a block, of none too. -/
theorem copy_any (w : World) {g cap : Nat} {l : List Ce} (h : CBox w g l cap) (d s n dCap sLen sCap : Nat) (A : Option Addr) (hn : n ≤ sLen) (hA : 0 < n → A = some ⟨g, d * 5, none⟩) (hd : d + n ≤ l.length) (hs : s + n ≤ l.length) :
    ∃ w', (∀ ty, (Builtin.copy_ #[37, 37] ty #[.slice A n dCap, .slice (some ⟨g, s * 5, none⟩) sLen sCap]).run Tryd.prog w = .ok (goInt n) w') ∧ CBox w' g (putAll l d ((l.drop s).take n)) cap ∧ Only g w w' := by
  rcases Nat.eq_zero_or_pos n with rfl | hp
  · exact ⟨w, fun ty => run_copy_zero w ty A _ dCap sLen sCap, by rw [List.take_zero]; exact h, Only.refl g w⟩
  · rw [hA hp]
    have hl : ((l.drop s).take n).length = n := by rw [List.length_take, List.length_drop]; omega
    obtain ⟨h1, h2⟩ := CBox.putAll ((l.drop s).take n) l d w h (by rw [hl]; exact hd)
    refine ⟨_, fun ty => ?_, h1, h2⟩
    have hr := run_copy_ce w ty g (d * 5) n dCap (s * 5) sLen sCap ((l.drop s).take n) (by rw [hl]; simp only [Nat.min_def]; split <;> omega) (h.flat (k := s) (fun j e hj => by
      rw [List.getElem?_take] at hj
      split at hj
      · rwa [List.getElem?_drop] at hj
      · cases hj)) (fun j hj => h.some_ (by rw [hl] at hj; omega)) (fun j _ => h.free _)
    rw [hl] at hr
    exact hr

end Go.Proofs.YteebbmmgbjpihaaDoor

namespace Go.Proofs.YteebbmmgbjpihaaDoor
open Go.RowKit

theorem run_copy_zero2 (w : World) (ty : TypeId) (A B : Option Addr) (dLen dCap sCap : Nat) :
    (Builtin.copy_ #[37, 37] ty #[.slice A dLen dCap, .slice B 0 sCap]).run Tryd.prog w = .ok (goInt 0) w := by
  have hl : ∀ (x : Addr), (loadCells x 0).run Tryd.prog w = .ok #[] w := fun x => by simpa using run_loadCells_list (P := Tryd.prog) w x [] (by simp)
  cases A <;> cases B <;> simp [Builtin.copy_, run_underlying Tryd.underlying37, Builtin.lenOf, Builtin.firstCells, storeCells, hl]
theorem run_copy_z (w : World) (ty : TypeId) (A B : Option Addr) (dLen dCap n sCap : Nat) (hn : n = 0) :
    (Builtin.copy_ #[37, 37] ty #[.slice A dLen dCap, .slice B n sCap]).run Tryd.prog w = .ok (goInt 0) w := by
  subst hn
  exact run_copy_zero2 w ty A B dLen dCap sCap
/-- A copy within a block, to the front, of none too. -/
theorem copy_back (w : World) {g cap : Nat} {l : List Ce} (h : CBox w g l cap) (d s n dLen dCap sCap : Nat) (A : Option Addr) (hn : n ≤ dLen) (hA : 0 < n → A = some ⟨g, s * 5, none⟩) (hd : d + n ≤ l.length) (hs : s + n ≤ l.length) :
    ∃ w', (∀ ty, (Builtin.copy_ #[37, 37] ty #[.slice (some ⟨g, d * 5, none⟩) dLen dCap, .slice A n sCap]).run Tryd.prog w = .ok (goInt n) w') ∧ CBox w' g (putAll l d ((l.drop s).take n)) cap ∧ Only g w w' := by
  rcases Nat.eq_zero_or_pos n with rfl | hp
  · exact ⟨w, fun ty => run_copy_zero2 w ty _ A dLen dCap sCap, by rw [List.take_zero]; exact h, Only.refl g w⟩
  · rw [hA hp]
    have hl : ((l.drop s).take n).length = n := by rw [List.length_take, List.length_drop]; omega
    obtain ⟨h1, h2⟩ := CBox.putAll ((l.drop s).take n) l d w h (by rw [hl]; exact hd)
    refine ⟨_, fun ty => ?_, h1, h2⟩
    have hr := run_copy_ce w ty g (d * 5) dLen dCap (s * 5) n sCap ((l.drop s).take n) (by rw [hl]; simp only [Nat.min_def]; split <;> omega) (h.flat (k := s) (fun j e hj => by
      rw [List.getElem?_take] at hj
      split at hj
      · rwa [List.getElem?_drop] at hj
      · cases hj)) (fun j hj => h.some_ (by rw [hl] at hj; omega)) (fun j _ => h.free _)
    rw [hl] at hr
    exact hr

end Go.Proofs.YteebbmmgbjpihaaDoor
