/- Layer 6, the reference: the same lines, grids that are alike. -/
/- Layer 6, the package: what Put, Erase and Soft answer, all ways in one. -/
/- Layer 6, the package: cells come, cells go. Made by wip/gen/gridOps.py. -/
import Derived.Test.YteebbmmgbjpihaaDoorGridRfQ
import Derived.StillTailTactics
import Derived.Test.YteebbmmgbjpihaaDoorGridEraseQ
import Derived.Test.YteebbmmgbjpihaaDoorGridPdQ
namespace Go.Proofs.YteebbmmgbjpihaaDoor
open Go.RowKit

/-- Few lines, of few cells. -/
def Sz (lv : List (Ln × Value)) : Prop := lv.length ≤ 1000 ∧ ∀ e ∈ lv, e.1.cs.length ≤ 1000
def SzL (ls : List Ln) : Prop := ls.length ≤ 1000 ∧ ∀ l ∈ ls, l.cs.length ≤ 1000
theorem Sz.of_map {lv : List (Ln × Value)} {ls : List Ln} (h : lv.map Prod.fst = ls) (hs : SzL ls) : Sz lv := by
  subst h
  exact ⟨by have := hs.1; rwa [List.length_map] at this, fun e he => hs.2 _ (List.mem_map.2 ⟨e, he, rfl⟩)⟩
theorem Sm.szl {lv : List (Ln × Value)} (h : Sm lv) : SzL (lv.map Prod.fst) := by
  refine ⟨by rw [List.length_map]; exact h.1, fun l hl => ?_⟩
  obtain ⟨e, he, rfl⟩ := List.mem_map.1 hl
  exact (h.2 e he).1
theorem SzL.set {ls : List Ln} (h : SzL ls) (r : Nat) {l : Ln} (hl : l.cs.length ≤ 1000) : SzL (ls.set r l) := by
  refine ⟨by rw [List.length_set]; exact h.1, fun x hx => ?_⟩
  rcases List.mem_or_eq_of_mem_set hx with hx | rfl
  · exact h.2 x hx
  · exact hl

/-- What is answered is told. -/
def IsPost (W : World) (e : Ending) (w' : World) : Prop := e = .returned (.bool true) ∧ Below W.heap.size W w'
end Go.Proofs.YteebbmmgbjpihaaDoor

namespace Go.Proofs.YteebbmmgbjpihaaDoor
open Go.RowKit

/-- A grid, or refused. -/
def GOut (W : World) (cols : Int) (lv : List (Ln × Value)) (ok : Bool) (n : Int) (tgt : List Ln) (e : Ending) (w' : World) : Prop :=
  ∃ xc A k c xn, e = .returned (.tuple #[.agg #[.int .i64 xc, .slice A k c], .int .i64 xn]) ∧ Below W.heap.size W w' ∧
    ((ok = true ∧ xc = cols ∧ xn = 0 ∧ ∃ lv', lv'.map Prod.fst = tgt ∧ LSl w' W.heap.size (.slice A k c) lv' ∧ NewOf w' W.heap.size lv lv') ∨ (ok = false ∧ xc = 0 ∧ (.slice A k c : Value) = .slice none 0 0 ∧ xn = n))
theorem GNo.out {W : World} {cols n : Int} {lv : List (Ln × Value)} {ok : Bool} {tgt : List Ln} {e : Ending} {w' : World} (h : GNo W n e w') (hk : ok = false) : GOut W cols lv ok n tgt e w' :=
  ⟨0, none, 0, 0, n, h.1, h.2, .inr ⟨hk, rfl, rfl, rfl⟩⟩
theorem GYes.out {W : World} {cols n : Int} {lv : List (Ln × Value)} {ok : Bool} {tgt : List Ln} {e : Ending} {w' : World} (h : GYes W cols lv tgt e w') (hk : ok = true) : GOut W cols lv ok n tgt e w' := by
  obtain ⟨v, lv', h1, h2, h3, h4, h5⟩ := h
  obtain ⟨A, c, rfl⟩ := h3.spell
  exact ⟨cols, A, _, c, 0, h1, h5, .inl ⟨hk, rfl, rfl, lv', h2, h3, h4⟩⟩
def rowL (ls : List Ln) (row : Int) : Ln := (ls[row.toNat]?).getD ⟨[], false⟩
theorem row_there {row : Int} {lv : List (Ln × Value)} (h : rowB row lv.length = true) : ∃ (r : Nat) (cs : List Ce) (soft : Bool) (u : Value), row = r ∧ lv[r]? = some (⟨cs, soft⟩, u) ∧ rowL (lv.map Prod.fst) row = ⟨cs, soft⟩ := by
  have h' : 0 ≤ row ∧ row < lv.length := of_decide_eq_true h
  obtain ⟨r, rfl⟩ : ∃ r : Nat, row = r := ⟨row.toNat, by omega⟩
  have hr : r < lv.length := by omega
  have hx := List.getElem?_eq_getElem hr
  refine ⟨r, lv[r].1.cs, lv[r].1.soft, lv[r].2, rfl, hx, ?_⟩
  unfold rowL
  rw [Int.toNat_natCast, List.getElem?_map, hx]
  rfl
/-- May rows and looks be told to such a grid? -/
def putOk (cols : Int) (lv : List (Ln × Value)) (row col : Int) (c : Ce) : Bool := mayB cols lv && (rowB row lv.length && (colB col cols && (rightB c && decide (c.tx.size ≠ 0))))
def roomB (cols col : Int) (c : Ce) : Bool := decide (c.wd = 2 ∧ col = cols - 1)
def putT (ls : List Ln) (row col : Int) (c : Ce) : List Ln := ls.set row.toNat ⟨mendL 1 (putL (rowL ls row).cs col.toNat c), (rowL ls row).soft⟩
theorem mayB_cols {cols : Int} {lv : List (Ln × Value)} (h : mayB cols lv = true) : (1 ≤ cols ∧ cols ≤ 80) ∧ 1 ≤ (lv.length : Int) ∧ (lv.length : Int) ≤ 50 := by
  unfold mayB sizeB at h
  rw [Bool.and_eq_true, Bool.and_eq_true, decide_eq_true_iff, decide_eq_true_iff] at h
  exact h.1
def eraseOk (cols : Int) (lv : List (Ln × Value)) (row fr tt : Int) (a : At) : Bool := (mayB cols lv && rowB row lv.length) && (decide (0 ≤ fr) && (decide (fr ≤ tt) && (decide (tt ≤ cols) && lookB a)))
def eraseT (ls : List Ln) (row fr tt : Int) (a : At) : List Ln := ls.set row.toNat ⟨mendL 1 (eraseL (rowL ls row).cs fr.toNat (tt - fr).toNat a), (rowL ls row).soft⟩
def softOk (cols : Int) (lv : List (Ln × Value)) (row : Int) : Bool := mayB cols lv && rowB row lv.length
def softT (ls : List Ln) (row : Int) (s : Bool) : List Ln := ls.set row.toNat ⟨(rowL ls row).cs, s⟩
end Go.Proofs.YteebbmmgbjpihaaDoor

namespace Go.Proofs.YteebbmmgbjpihaaDoor
open Go.RowKit

def insertT (ls : List Ln) (row col num : Int) (a : At) : List Ln := ls.set row.toNat ⟨mendL 1 (insL (rowL ls row).cs col.toNat (min num.toNat ((rowL ls row).cs.length - col.toNat)) a), (rowL ls row).soft⟩
def deleteT (ls : List Ln) (row col num : Int) (a : At) : List Ln := ls.set row.toNat ⟨mendL 1 (delL (rowL ls row).cs col.toNat (min num.toNat ((rowL ls row).cs.length - col.toNat)) a), (rowL ls row).soft⟩
end Go.Proofs.YteebbmmgbjpihaaDoor
