/- Layer 6, the package: what Put, Erase and Soft answer, all ways in one. -/
import Derived.Test.YtdpicbfpjnampaaDoorGridPutYQ
import Derived.Test.YtdpicbfpjnampaaDoorGridSoftQ
import Derived.Test.YtdpicbfpjnampaaDoorGridEraseQ
import Derived.Test.YtdpicbfpjnampaaDoorGridSmQ
namespace Go.Proofs.YtdpicbfpjnampaaDoor
open Go.RowKit

/-- A grid, or refused. -/
def GOut (W : World) (cols : Int) (lv : List (Ln × Value)) (ok : Bool) (n : Int) (tgt : List Ln) (e : Ending) (w' : World) : Prop :=
  ∃ xc A k c xn, e = .returned (.tuple #[.agg #[.int .i64 xc, .slice A k c], .int .i64 xn]) ∧ Below W.heap.size W w' ∧
    ((ok = true ∧ xc = cols ∧ xn = 0 ∧ ∃ lv', lv'.map Prod.fst = tgt ∧ LSl w' W.heap.size (.slice A k c) lv' ∧ NewOf w' W.heap.size lv lv') ∨ (ok = false ∧ xc = 0 ∧ (.slice A k c : Value) = .slice none 0 0 ∧ xn = n))
theorem GNo.out {W : World} {cols n : Int} {lv : List (Ln × Value)} {ok : Bool} {tgt : List Ln} {e : Ending} {w' : World} (h : GNo W n e w') (hk : ok = false) : GOut W cols lv ok n tgt e w' :=
  ⟨0, none, 0, 0, n, h.1, h.2, .inr ⟨hk, rfl, rfl, rfl⟩⟩
theorem GYes.out {W : World} {cols n : Int} {lv : List (Ln × Value)} {ok : Bool} {tgt : List Ln} {e : Ending} {w' : World} (h : GYes W cols lv tgt e w') (hk : ok = true) : GOut W cols lv ok n tgt e w' := by
  obtain ⟨v, lv', h1, h2, h3, h4, h5⟩ := h
  obtain ⟨A, c, rfl⟩ := h3.spell
  exact ⟨cols, A, _, c, 0, h1, h5, .inl ⟨hk, rfl, rfl, lv', h2, h3, h4⟩⟩
def rowL (ls : List Ln) (row : Int) : Ln := (ls[row.toNat]?).getD ⟨[], false⟩
theorem row_there {row : Int} {lv : List (Ln × Value)} (h : rowB row lv.length = true) : ∃ (r : Nat) (cs : List Ce) (soft : Bool) (u : Value), row = r ∧ lv[r]? = some (⟨cs, soft⟩, u) ∧ rowL (lv.map Prod.fst) row = ⟨cs, soft⟩ := by
  have h' : 0 ≤ row ∧ row < lv.length := of_decide_eq_true h
  obtain ⟨r, rfl⟩ : ∃ r : Nat, row = r := ⟨row.toNat, by omega⟩
  have hr : r < lv.length := by omega
  have hx := List.getElem?_eq_getElem hr
  refine ⟨r, lv[r].1.cs, lv[r].1.soft, lv[r].2, rfl, hx, ?_⟩
  unfold rowL
  rw [Int.toNat_natCast, List.getElem?_map, hx]
  rfl
/-- May rows and looks be told to such a grid? -/
def putOk (cols : Int) (lv : List (Ln × Value)) (row col : Int) (c : Ce) : Bool := mayB cols lv && (rowB row lv.length && (colB col cols && (rightB c && decide (c.tx.size ≠ 0))))
def roomB (cols col : Int) (c : Ce) : Bool := decide (c.wd = 2 ∧ col = cols - 1)
def putT (ls : List Ln) (row col : Int) (c : Ce) : List Ln := ls.set row.toNat ⟨mendL 1 (putL (rowL ls row).cs col.toNat c), (rowL ls row).soft⟩
theorem mayB_cols {cols : Int} {lv : List (Ln × Value)} (h : mayB cols lv = true) : (1 ≤ cols ∧ cols ≤ 80) ∧ 1 ≤ (lv.length : Int) ∧ (lv.length : Int) ≤ 50 := by
  unfold mayB sizeB at h
  rw [Bool.and_eq_true, Bool.and_eq_true, decide_eq_true_iff, decide_eq_true_iff] at h
  exact h.1
theorem put_out (cols row col : Int) (v : Value) (lv : List (Ln × Value)) (c : Ce) (W : World) (hg : GIn W v lv) (htx : c.tx.size ≤ 1000) (hT : Tab W) (hW : TabW W) :
    Calls Tryd.prog 9 #[.agg #[.int .i64 cols, v], .int .i64 row, .int .i64 col, c.agg] W (GOut W cols lv (putOk cols lv row col c && !roomB cols col c) (if putOk cols lv row col c = true then 9 else 1) (putT (lv.map Prod.fst) row col c)) := by
  have hok : putOk cols lv row col c = (mayB cols lv && (rowB row lv.length && (colB col cols && (rightB c && decide (c.tx.size ≠ 0))))) := rfl
  have no : ∀ (h : putOk cols lv row col c = false) {e w'}, GNo W 1 e w' → GOut W cols lv (putOk cols lv row col c && !roomB cols col c) (if putOk cols lv row col c = true then 9 else 1) (putT (lv.map Prod.fst) row col c) e w' := fun h e w' hn => by
    rw [h]
    exact GNo.out hn rfl
  cases a0 : mayB cols lv
  · exact (put_no0 cols row col v lv c W hg htx hT hW a0).mono fun _ _ h => no (by rw [hok, a0]; rfl) h
  cases a1 : rowB row lv.length
  · exact (put_no1 cols row col v lv c W hg htx hT hW a0 a1).mono fun _ _ h => no (by rw [hok, a0, a1]; rfl) h
  cases a2 : colB col cols
  · exact (put_no2 cols row col v lv c W hg htx hT hW a0 a1 a2).mono fun _ _ h => no (by rw [hok, a0, a1, a2]; rfl) h
  cases a3 : rightB c
  · exact (put_no3 cols row col v lv c W hg htx hT hW a0 a1 a2 a3).mono fun _ _ h => no (by rw [hok, a0, a1, a2, a3]; rfl) h
  by_cases a4 : c.tx.size = 0
  · exact (put_no4 cols row col v lv c W hg htx hT hW a0 a1 a2 a3 a4).mono fun _ _ h => no (by rw [hok, a0, a1, a2, a3, decide_eq_false (by simpa using a4)]; rfl) h
  have hyes : putOk cols lv row col c = true := by rw [hok, a0, a1, a2, a3, decide_eq_true a4]; rfl
  have hcc := mayB_cols a0
  rw [hyes]
  by_cases a5 : c.wd = 2 ∧ col = cols - 1
  · have hr : roomB cols col c = true := decide_eq_true a5
    rw [hr]
    exact (put_room cols row col v lv c W hg htx hT hW a0 a1 a2 a3 a4 a5.1 a5.2 hcc.1).mono fun _ _ h => GNo.out h rfl
  · have hr : roomB cols col c = false := decide_eq_false a5
    rw [hr]
    obtain ⟨r, cs, soft, u, rfl, hx, hrow⟩ := row_there a1
    have h2 : 0 ≤ col ∧ col < cols := of_decide_eq_true a2
    obtain ⟨q, rfl⟩ : ∃ q : Nat, col = q := ⟨col.toNat, by omega⟩
    have ht : putT (lv.map Prod.fst) r q c = (lv.map Prod.fst).set r ⟨mendL 1 (putL cs q c), soft⟩ := by
      unfold putT
      rw [hrow, Int.toNat_natCast, Int.toNat_natCast]
    rw [ht]
    by_cases hw : c.wd = 2
    · exact (put_yes2 cols r q v lv c cs soft u W hg htx hT hW hx a0 a1 a2 a3 a4 hw (fun h => a5 ⟨hw, h⟩)).mono fun _ _ h => GYes.out h rfl
    · exact (put_yes1 cols r q v lv c cs soft u W hg htx hT hW hx a0 a1 a2 a3 a4 hw).mono fun _ _ h => GYes.out h rfl

def eraseOk (cols : Int) (lv : List (Ln × Value)) (row fr tt : Int) (a : At) : Bool := (mayB cols lv && rowB row lv.length) && (decide (0 ≤ fr) && (decide (fr ≤ tt) && (decide (tt ≤ cols) && lookB a)))
def eraseT (ls : List Ln) (row fr tt : Int) (a : At) : List Ln := ls.set row.toNat ⟨mendL 1 (eraseL (rowL ls row).cs fr.toNat (tt - fr).toNat a), (rowL ls row).soft⟩
theorem erase_out (cols row fr tt : Int) (a : At) (v : Value) (lv : List (Ln × Value)) (W : World) (hg : GIn W v lv) (hT : Tab W) (hW : TabW W) :
    Calls Tryd.prog 10 #[.agg #[.int .i64 cols, v], .int .i64 row, .int .i64 fr, .int .i64 tt, a.agg] W (GOut W cols lv (eraseOk cols lv row fr tt a) 1 (eraseT (lv.map Prod.fst) row fr tt a)) := by
  have hok : eraseOk cols lv row fr tt a = ((mayB cols lv && rowB row lv.length) && (decide (0 ≤ fr) && (decide (fr ≤ tt) && (decide (tt ≤ cols) && lookB a)))) := rfl
  cases a0 : mayB cols lv
  · exact (erase_no0 cols row fr tt a v lv W hg hT hW a0).mono fun _ _ h => h.out (by rw [hok, a0]; rfl)
  cases a1 : rowB row lv.length
  · exact (erase_no1 cols row fr tt a v lv W hg hT hW a0 a1).mono fun _ _ h => h.out (by rw [hok, a0, a1]; rfl)
  by_cases a2 : fr < 0
  · exact (erase_no2 cols row fr tt a v lv W hg hT hW a0 a1 a2).mono fun _ _ h => h.out (by rw [hok, a0, a1, decide_eq_false (by omega)]; rfl)
  by_cases a3 : tt < fr
  · exact (erase_no3 cols row fr tt a v lv W hg hT hW a0 a1 a2 a3).mono fun _ _ h => h.out (by rw [hok, decide_eq_false (p := fr ≤ tt) (by omega), Bool.false_and, Bool.and_false, Bool.and_false])
  by_cases a4 : cols < tt
  · exact (erase_no4 cols row fr tt a v lv W hg hT hW a0 a1 a2 a3 a4).mono fun _ _ h => h.out (by rw [hok, decide_eq_false (p := tt ≤ cols) (by omega), Bool.false_and, Bool.and_false, Bool.and_false, Bool.and_false])
  cases a5 : lookB a
  · exact (erase_no5 cols row fr tt a v lv W hg hT hW a0 a1 a2 a3 a4 a5).mono fun _ _ h => h.out (by rw [hok, a5, Bool.and_false, Bool.and_false, Bool.and_false, Bool.and_false])
  obtain ⟨r, cs, soft, u, rfl, hx, hrow⟩ := row_there a1
  obtain ⟨o, rfl⟩ : ∃ o : Nat, fr = o := ⟨fr.toNat, by omega⟩
  obtain ⟨m, rfl⟩ : ∃ m : Nat, tt = ((o + m : Nat) : Int) := ⟨(tt - o).toNat, by omega⟩
  have ht : eraseT (lv.map Prod.fst) r o ((o + m : Nat) : Int) a = (lv.map Prod.fst).set r ⟨mendL 1 (eraseL cs o m a), soft⟩ := by
    unfold eraseT
    rw [hrow, Int.toNat_natCast, Int.toNat_natCast, show (((o + m : Nat) : Int) - (o : Int)).toNat = m by omega]
  rw [ht]
  exact (erase_yes cols r o m a v lv cs soft u W hg hT hW hx a0 a1 (by omega) a5).mono fun _ _ h => h.out (by rw [hok, a0, a1, a5, decide_eq_true (p := 0 ≤ (o : Int)) (by omega), decide_eq_true (p := (o : Int) ≤ ((o + m : Nat) : Int)) (by omega), decide_eq_true (p := ((o + m : Nat) : Int) ≤ cols) (by omega)]; rfl)

def softOk (cols : Int) (lv : List (Ln × Value)) (row : Int) : Bool := mayB cols lv && rowB row lv.length
def softT (ls : List Ln) (row : Int) (s : Bool) : List Ln := ls.set row.toNat ⟨(rowL ls row).cs, s⟩
theorem soft_out (cols row : Int) (s : Bool) (v : Value) (lv : List (Ln × Value)) (W : World) (hg : GIn W v lv) (hT : Tab W) (hW : TabW W) :
    Calls Tryd.prog 11 #[.agg #[.int .i64 cols, v], .int .i64 row, .bool s] W (GOut W cols lv (softOk cols lv row) 1 (softT (lv.map Prod.fst) row s)) := by
  have hok : softOk cols lv row = (mayB cols lv && rowB row lv.length) := rfl
  cases a0 : mayB cols lv
  · exact (soft_no0 cols row s v lv W hg hT hW a0).mono fun _ _ h => h.out (by rw [hok, a0]; rfl)
  cases a1 : rowB row lv.length
  · exact (soft_no1 cols row s v lv W hg hT hW a0 a1).mono fun _ _ h => h.out (by rw [hok, a0, a1]; rfl)
  obtain ⟨r, cs, soft, u, rfl, hx, hrow⟩ := row_there a1
  have hfit := mayB_at a0 hx
  have ht : softT (lv.map Prod.fst) r s = (lv.map Prod.fst).set r ⟨mendL 1 cs, s⟩ := by
    unfold softT
    rw [hrow, Int.toNat_natCast, mend_fits hfit]
  rw [ht]
  exact (soft_yes cols r s v lv cs soft u W hg hT hW hx a0 a1).mono fun _ _ h => h.out (by rw [hok, a0, a1]; rfl)
end Go.Proofs.YtdpicbfpjnampaaDoor
