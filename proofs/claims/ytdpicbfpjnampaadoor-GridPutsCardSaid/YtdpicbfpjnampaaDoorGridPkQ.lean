/- What the law GridPuts wants. Made by wip/gen/gridPutsLaw.py. -/
import Derived.Test.YtdpicbfpjnampaaDoorGridOutQ
import Derived.Test.YtdpicbfpjnampaaDoorGridFewQ
import Derived.Test.YtdpicbfpjnampaaDoorGridRpQ
import Derived.Deep.DeepCutAuto
import Derived.Deep.RegionWith
namespace Go.Proofs.YtdpicbfpjnampaaDoor
open Go.RowKit

/-- What was answered reads as a grid, or is refused. -/
def XF (W : World) (cols : Int) (ok : Bool) (n : Int) (tgt : List Ln) (xc : Int) (A : Option Addr) (k c : Nat) (xn : Int) : Prop :=
  (ok = true ∧ xc = cols ∧ xn = 0 ∧ ∃ lv', lv'.map Prod.fst = tgt ∧ LR W (.slice A k c) lv' ∧ CesOf W lv') ∨ (ok = false ∧ xc = 0 ∧ (.slice A k c : Value) = .slice none 0 0 ∧ xn = n)
theorem XF.below {W W' : World} {cols : Int} {ok : Bool} {n : Int} {tgt : List Ln} {xc : Int} {A : Option Addr} {k c : Nat} {xn : Int} (h : XF W cols ok n tgt xc A k c xn) (hb : Below W.heap.size W W') : XF W' cols ok n tgt xc A k c xn := by
  rcases h with ⟨h1, h2, h3, lv', h4, h5, h6⟩ | h
  · exact .inl ⟨h1, h2, h3, lv', h4, h5.below hb, h6.below hb⟩
  · exact .inr h
theorem XF.of {W w' : World} {cols : Int} {lv : List (Ln × Value)} {ok : Bool} {n : Int} {tgt : List Ln} {xc : Int} {A : Option Addr} {k c : Nat} {xn : Int} (hc : CesOf w' lv)
    (h : (ok = true ∧ xc = cols ∧ xn = 0 ∧ ∃ lv', lv'.map Prod.fst = tgt ∧ LSl w' W.heap.size (.slice A k c) lv' ∧ NewOf w' W.heap.size lv lv') ∨ (ok = false ∧ xc = 0 ∧ (.slice A k c : Value) = .slice none 0 0 ∧ xn = n)) : XF w' cols ok n tgt xc A k c xn := by
  rcases h with ⟨h1, h2, h3, lv', h4, h5, h6⟩ | h
  · exact .inl ⟨h1, h2, h3, lv', h4, h5.row, h6.ces hc⟩
  · exact .inr h
theorem there_eq (cols row : Int) (lv : List (Ln × Value)) : ((sizeB cols lv.length && allB cols lv) && (rowB row lv.length && colB 0 cols)) = softOk cols lv row := by
  unfold softOk mayB
  cases h : (sizeB cols lv.length && allB cols lv)
  · rfl
  · have := mayB_cols (cols := cols) (lv := lv) h
    have hc : colB 0 cols = true := decide_eq_true (by omega)
    rw [hc, Bool.and_true]
theorem few_in {W : World} {v : Value} {lv lv1 : List (Ln × Value)} (hm : lv1.map Prod.fst = fewG (lv.map Prod.fst)) (hr : LR W v lv1) (hc : CesOf W lv1) : GIn W v lv1 := by
  obtain ⟨h1, h2⟩ := fewG_sm hm
  exact ⟨hr, hc, by omega, fun e he => ⟨by have := (h2 e he).1; omega, fun c hc => by have := (h2 e he).2 c hc; omega⟩⟩

theorem eraseT_sz {cols row fr tt : Int} {a : At} {lv : List (Ln × Value)} (hs : Sm lv) (h : eraseOk cols lv row fr tt a = true) : SzL (eraseT (lv.map Prod.fst) row fr tt a) := by
  unfold eraseOk at h
  simp only [Bool.and_eq_true, decide_eq_true_iff] at h
  obtain ⟨⟨h0, h1⟩, h2, h3, h4, _⟩ := h
  obtain ⟨r, cs, soft, u, rfl, hx, hrow⟩ := row_there h1
  have hf := fits_iff.1 (mayB_at h0 hx)
  simp only at hf
  refine hs.szl.set _ ?_
  rw [hrow]
  show (mendL 1 (eraseL cs _ _ a)).length ≤ 1000
  rw [mendL_length, eraseL_length _ (by omega)]
  exact (hs.2 _ (List.mem_of_getElem? hx)).1
theorem refErase_out (cols row fr tt : Int) (a : At) (v : Value) (lv : List (Ln × Value)) (W : World) (hg : GIn W v lv) (h : eraseOk cols lv row fr tt a = true) :
    Calls Tryd.prog 16 #[.agg #[.int .i64 cols, v], .int .i64 row, .int .i64 fr, .int .i64 tt, a.agg] W (RPost W cols lv (eraseT (lv.map Prod.fst) row fr tt a)) := by
  unfold eraseOk at h
  simp only [Bool.and_eq_true, decide_eq_true_iff] at h
  obtain ⟨⟨h0, h1⟩, h2, h3, h4, _⟩ := h
  obtain ⟨r, cs, soft, u, rfl, hx, hrow⟩ := row_there h1
  have hf := fits_iff.1 (mayB_at h0 hx)
  simp only at hf
  obtain ⟨o, rfl⟩ : ∃ o : Nat, fr = o := ⟨fr.toNat, by omega⟩
  obtain ⟨m, rfl⟩ : ∃ m : Nat, tt = ((o + m : Nat) : Int) := ⟨(tt - o).toNat, by omega⟩
  have ht : eraseT (lv.map Prod.fst) r o ((o + m : Nat) : Int) a = (lv.map Prod.fst).set r ⟨mendL 1 (eraseL cs o m a), soft⟩ := by
    unfold eraseT
    rw [hrow, Int.toNat_natCast, Int.toNat_natCast, show (((o + m : Nat) : Int) - (o : Int)).toNat = m by omega]
  rw [ht]
  exact rErase_any cols v lv r o m a W cs soft u hg.lr hg.ces hg.sm hx (by omega)
theorem CSl.set_lt {W : World} {base b i : Nat} {v : Value} {l : List Ce} (h : CSl W base v l) (hb : b < base) (u : Value) : CSl (W.setCell ⟨b, i, none⟩ u) base v l := by
  rcases h with h | ⟨g, cap, rfl, h1, cur, hg, h2⟩
  · exact .inl h
  · exact .inr ⟨g, cap, rfl, h1, cur, hg.other (by omega) u, h2⟩
theorem LSl.set_lt {W : World} {base b i : Nat} {v : Value} {l : List (Ln × Value)} (h : LSl W base v l) (hb : b < base) (u : Value) : LSl (W.setCell ⟨b, i, none⟩ u) base v l := by
  rcases h with h | ⟨g, cap, rfl, h1, cur, hg, h2⟩
  · exact .inl h
  · exact .inr ⟨g, cap, rfl, h1, cur, hg.other (by omega) u, h2⟩

theorem refSoft_out (cols row : Int) (s : Bool) (v : Value) (lv : List (Ln × Value)) (W : World) (hg : GIn W v lv) (h : softOk cols lv row = true) :
    Calls Tryd.prog 17 #[.agg #[.int .i64 cols, v], .int .i64 row, .bool s] W (RPost W cols lv (softT (lv.map Prod.fst) row s)) := by
  unfold softOk at h
  rw [Bool.and_eq_true] at h
  obtain ⟨r, cs, soft, u, rfl, hx, hrow⟩ := row_there h.2
  have ht : softT (lv.map Prod.fst) r s = (lv.map Prod.fst).set r ⟨cs, s⟩ := by
    unfold softT
    rw [hrow, Int.toNat_natCast]
  rw [ht]
  exact rSoft_any cols v lv r W s cs soft u hg.lr hg.ces hg.sm hx
theorem softT_sz {cols row : Int} {s : Bool} {lv : List (Ln × Value)} (hs : Sm lv) (h : softOk cols lv row = true) : SzL (softT (lv.map Prod.fst) row s) := by
  unfold softOk at h
  rw [Bool.and_eq_true] at h
  obtain ⟨r, cs, soft, u, rfl, hx, hrow⟩ := row_there h.2
  refine hs.szl.set _ ?_
  rw [hrow]
  exact (hs.2 _ (List.mem_of_getElem? hx)).1
theorem put_parts {cols row col : Int} {c : Ce} {lv : List (Ln × Value)} (h : putOk cols lv row col c = true) (h2 : roomB cols col c = false) :
    ∃ (r q : Nat) (cs : List Ce) (soft : Bool) (u : Value), row = r ∧ col = q ∧ lv[r]? = some (⟨cs, soft⟩, u) ∧ rowL (lv.map Prod.fst) row = ⟨cs, soft⟩ ∧ q < cs.length ∧ (c.wd = 2 → q + 1 < cs.length) := by
  unfold putOk at h
  rw [Bool.and_eq_true, Bool.and_eq_true, Bool.and_eq_true] at h
  obtain ⟨h0, h1, hc, _⟩ := h
  obtain ⟨r, cs, soft, u, hr, hx, hrow⟩ := row_there h1
  have hf := fits_iff.1 (mayB_at h0 hx)
  simp only at hf
  have hcl : 0 ≤ col ∧ col < cols := of_decide_eq_true hc
  have hrm : ¬ (c.wd = 2 ∧ col = cols - 1) := of_decide_eq_false h2
  refine ⟨r, col.toNat, cs, soft, u, hr, by omega, hx, hrow, by omega, fun hw => ?_⟩
  have : ¬ col = cols - 1 := fun e => hrm ⟨hw, e⟩
  omega
theorem refPut_out (cols row col : Int) (c : Ce) (v : Value) (lv : List (Ln × Value)) (W : World) (hg : GIn W v lv) (h : putOk cols lv row col c = true) (h2 : roomB cols col c = false) :
    Calls Tryd.prog 20 #[.agg #[.int .i64 cols, v], .int .i64 row, .int .i64 col, c.agg] W (RPost W cols lv (putT (lv.map Prod.fst) row col c)) := by
  obtain ⟨r, q, cs, soft, u, rfl, rfl, hx, hrow, hq, hw⟩ := put_parts h h2
  have ht : putT (lv.map Prod.fst) r q c = (lv.map Prod.fst).set r ⟨mendL 1 (putL cs q c), soft⟩ := by
    unfold putT
    rw [hrow, Int.toNat_natCast, Int.toNat_natCast]
  rw [ht]
  exact rPut_any cols v lv r q c W cs soft u hg.lr hg.ces hg.sm hx hq hw
theorem putT_sz {cols row col : Int} {c : Ce} {lv : List (Ln × Value)} (hs : Sm lv) (h : putOk cols lv row col c = true) (h2 : roomB cols col c = false) : SzL (putT (lv.map Prod.fst) row col c) := by
  obtain ⟨r, q, cs, soft, u, rfl, rfl, hx, hrow, hq, hw⟩ := put_parts h h2
  refine hs.szl.set _ ?_
  rw [hrow]
  show (mendL 1 (putL cs _ c)).length ≤ 1000
  rw [mendL_length, putL_length]
  exact (hs.2 _ (List.mem_of_getElem? hx)).1
end Go.Proofs.YtdpicbfpjnampaaDoor
