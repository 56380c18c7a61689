/- Layer 5, the package: a reader's numbers: one of 0, a digit, one more. -/
import Derived.Test.YtpcpdbofbbpglaaDoorParseF
import Derived.Deep.DeepCutAuto
import Derived.IntWalk
namespace Go.Proofs.YtpcpdbofbbpglaaDoor
open Go.RowKit

/-- If any, a block of numbers from a bound on. -/
def IntRow (lo : Nat) (w : World) (row : Option Nat) : Prop := ∀ g, row = some g → lo ≤ g ∧ ∃ cur, w.heap[g]? = some (.cells cur 3 (0, 0))
theorem IntRow.box {lo b : Nat} {w : World} {row : Option Nat} {t : TypeId} {cs : Array Value} (h : IntRow lo w row) (hb : Box w b t cs) (ht : t ≠ 3) : some b ≠ row := by
  intro e
  obtain ⟨_, cur, hc⟩ := h b e.symm
  have hb' : w.heap[b]? = some (.cells cs t (0, 0)) := hb
  rw [hc] at hb'
  cases hb'
  exact ht rfl
theorem IntRow.own {lo base : Nat} {w : World} {row : Option Nat} {v : Value} {l : List (Dn × Value)} (h : IntRow lo w row) (ho : OwnD w base v l) : v.ownBlock = none ∨ v.ownBlock ≠ row := by
  cases hv : v.ownBlock with
  | none => exact .inl rfl
  | some g =>
    refine .inr (fun e => ?_)
    obtain ⟨_, cur, hc⟩ := h g e.symm
    exact ho.not_int g cur hv hc
theorem IntRow.kept {lo : Nat} {w w' : World} {row : Option Nat} (h : IntRow lo w row) (hg : w.grownBy w' row) : Kept lo w w' := Kept.grown lo hg (fun g _ e _ => (h g e).1)
theorem IntRow.own_int {lo : Nat} {w : World} {v : Value} {l : List Int} (h : OwnI w lo v l) : IntRow lo w v.ownBlock := by
  intro g e
  rcases h.2 with ⟨rfl, _⟩ | ⟨g', cap, cur, rfl, hb, hg, _⟩
  · cases e
  · simp only [Value.ownBlock, Option.some.injEq] at e
    subst e
    exact ⟨hb, cur, hg⟩

/-- A number appended to a row of numbers. -/
theorem run_append_num {lo hi : Nat} {w : World} {v : Value} {L : List Int} (hown : NumO w lo hi v L) (n : Int) (ad : Addr) (c : Nat) (ty : TypeId) (hc : w.cell? ad = some (.int .i64 n)) (hb : L.length ≤ 1000) (hbase : lo ≤ w.heap.size) :
    ∃ v' w' row, (Builtin.append_ #[22, 22] ty #[v, .slice (some ad) 1 c]).run Tryd.prog w = .ok v' w' ∧ NumO w' lo w'.heap.size v' (L ++ [n]) ∧ w.grownBy w' row ∧ IntRow lo w row := by
  obtain ⟨i0, hi', hz0, hz1, hz2⟩ := info_parts int_info
  have hnews : ∀ j u, [Value.int .i64 n][j]? = some u → w.cell? (ad.add j) = some u := by
    intro j u hu
    cases j with
    | zero =>
      have hadd : ad.add 0 = ad := by unfold Addr.add; obtain ⟨b, o, k⟩ := ad; cases k <;> rfl
      rw [hadd, hc]
      simpa using hu
    | succ j => simp at hu
  rcases hown with ⟨rfl, A, rfl⟩ | ⟨hown, _⟩
  · cases A with
    | none =>
      obtain ⟨v', w', hrun, h2, h3, _⟩ := run_append_own (P := Tryd.prog) w lo 22 ty 3 i0 (.int .i64 0) 1 8 Tryd.underlying22 hi' hz0 hz1 hz2 rfl (by decide) (.slice none 0 0) 0 [] ⟨rfl, .inl ⟨rfl, rfl⟩⟩ ad 1 c [.int .i64 n] rfl hnews (by simp [Value.oneCell']) (by unfold maxLen; omega) (by omega) hbase
      refine ⟨v', w', _, hrun, .inr ⟨h2, fun g e => (World.ownsRow.lt h2 g e).2⟩, h3, ?_⟩
      intro g e
      cases e
    | some a =>
      have hr := run_append_grow (P := Tryd.prog) w 22 ty 3 i0 (.int .i64 0) Tryd.underlying22 hi' hz0 a 0 0 [] (by simp) (by simp) ad 1 c [.int .i64 n] (by rw [hz1]; rfl) hnews (by omega) (by decide) (growslice_fits (by omega) (by rw [hz2]; decide))
      refine ⟨_, _, none, hr, .inr ⟨⟨by simp [ints], .inr ⟨w.heap.size, _, _, rfl, hbase, heap_alloc_new w.drew _, grownCap_ge w 1 0 _, grownCap_le_maxLen w 1 0 _ (by decide), ?_, ?_⟩⟩, ?_⟩, ⟨rfl, rfl, rfl, by simp, fun k hk _ => Below.heap_alloc w.drew _ k hk⟩, fun g e => by cases e⟩
      · have hge := grownCap_ge w 1 0 3
        simp only [Array.size_append, List.size_toArray, size_zeroCells, Value.cells]
        simp
        omega
      · simp [ints]
      · intro g e
        simp only [Value.ownBlock, Option.some.injEq] at e
        subst e
        simp
  · obtain ⟨v', w', hrun, h2, h3, _⟩ := run_append_own (P := Tryd.prog) w lo 22 ty 3 i0 (.int .i64 0) 1 8 Tryd.underlying22 hi' hz0 hz1 hz2 rfl (by decide) v L.length (ints L) hown ad 1 c [.int .i64 n] rfl hnews (by simp [Value.oneCell']) (by unfold maxLen; omega) (by omega) hbase
    refine ⟨v', w', _, hrun, .inr ⟨?_, fun g e => (World.ownsRow.lt h2 g e).2⟩, h3, IntRow.own_int hown⟩
    unfold OwnI
    rw [List.length_append, ints_append]
    exact h2
theorem wpList_append_num {ops : Array Oper} {rest : List Oper} {o : Oper} {a : Act} {w : World} {Q : Exit → Act → World → Prop} (hgd : o.guard = none) (s x : Operand)
    (ho : o.op = .call { callee := .builtin .append, args := #[s, x], argTypes := #[22, 22] }) (lo hi : Nat) (v : Value) (L : List Int) (hs : a.eval s = v) (hown : NumO w lo hi v L)
    (n : Int) (ad : Addr) (c : Nat) (hx : a.eval x = .slice (some ad) 1 c) (hc : w.cell? ad = some (.int .i64 n)) (hb : L.length ≤ 1000) (hbase : lo ≤ w.heap.size)
    (h : ∀ v' w' row, NumO w' lo w'.heap.size v' (L ++ [n]) → w.grownBy w' row → IntRow lo w row → wpList Tryd.prog ops Q rest (a.put o.dst v') w') : wpList Tryd.prog ops Q (o :: rest) a w := by
  obtain ⟨v', w', row, hr, h2, h3, h4⟩ := run_append_num hown n ad c o.type hc hb hbase
  refine wpList_plain hgd fun K hK => ?_
  unfold Oper.wp execOp
  simp only [ho, resolve, invoke, builtin, Sem.run_bind, Sem.run_pure, Result.andThen_ok, List.map_toArray, List.map_cons, List.map_nil, hs, hx, hr]
  exact hK _ _ (h v' w' row h2 h3 h4)

/-- A reader's numbers are others: behind new blocks, and what wrote numbers alone. -/
theorem par_end {B R P : Nat} {W W2 w7 : World} {p : Pa} {v dv v' : Value} {lv : List (Dn × Value)} {row : Option Nat} {L : List Int} (hBR : B ≤ R) (hBP : B ≤ P) (hP : P ≤ W.heap.size) (hbox : Box W R 50 (rdCells R p v dv)) (hown : OwnD W B dv lv)
    (hnum : ∀ e ∈ lv, NumO W B P e.2 e.1.params ∧ e.1.params.length ≤ 16) (h2 : Below W.heap.size W W2) (hg : W2.grownBy w7 row) (hr : IntRow P W2 row) (hv : NumO w7 P w7.heap.size v' L) :
    Rd B R (w7.setCell ⟨R, 2, none⟩ v') { p with params := L } (lv.map Prod.fst) ∧ Below B W (w7.setCell ⟨R, 2, none⟩ v') := by
  have box2 := hbox.below h2 hbox.lt
  have own2 := hown.kept h2
  have box7 := box2.grown hg (hr.box box2 (by decide))
  have own7 : OwnD w7 B dv lv := World.ownsRow.kept own2 hg (hr.own own2)
  have kp : Kept P W (w7.setCell ⟨R, 2, none⟩ v') := ((Kept.of_below P h2).trans (hr.kept hg)).trans (Kept.set P box7 (by decide) _)
  have hz : w7.heap.size = (w7.setCell ⟨R, 2, none⟩ v').heap.size := by simp [World.setCell]
  have hle : W.heap.size ≤ w7.heap.size := Nat.le_trans h2.size hg.size
  refine ⟨⟨v', lv, P, rfl, hBP, by omega, ⟨dv, hBR, box7.set v', own7.set box7 (by decide) _, fun e he => ⟨(hnum e he).1.kept kp, (hnum e he).2⟩⟩, ?_⟩, ?_⟩
  · exact (hv.kept (Kept.set _ box7 (by decide) _)).mono (Nat.le_refl _) (by omega)
  · exact ((h2.mono (by omega)).grown hg (by have := h2.size; omega) (fun k e => Nat.le_trans hBP (hr k e).1)).setCell hBR _

theorem pa_same (p : Pa) {L : List Int} (h : p.params = L) : { p with params := L } = p := by subst h; rfl

set_option maxRecDepth 100000 in
set_option maxHeartbeats 1000000 in
theorem firstParam_any {B R : Nat} {W : World} {p : Pa} {l : List Dn} (h : Rd B R W p l) (hp : p.params.length ≤ 16) :
    Calls Tryd.prog 51 #[.pointer (some ⟨R, 0, none⟩)] W (RdPost B R W { p with params := parOne p.params } l) := by
  have hrd := h
  obtain ⟨v, lv, P, rfl, h1, h2, ⟨dv, hBR, hbox, hown, hnum⟩, hv⟩ := h
  have hvO := hv
  obtain ⟨A, c, rfl⟩ := hv.spell
  have hR := hbox.lt
  have c2 : W.cell? ⟨R, 2, none⟩ = some (.slice A p.params.length c) := hbox.cell 2
  have f2 : W.frozen? ⟨R, 2, none⟩ = false := hbox.free 2
  by_cases hl : p.params = []
  · have hlen : p.params.length = 0 := by rw [hl]; rfl
    have ho : parOne p.params = [] ++ [0] := by unfold parOne; rw [if_pos hl]; rfl
    rw [hlen] at c2 hbox hv
    rw [hl] at hv
    rw [ho]
    have HB := hid hbox
    have HN := hid hnum
    have HO := hid hown
    have HV := hid hv
    clear hbox hnum hown hv hvO hrd hl hlen ho
    have hlt : W.heap.size < W.heap.size + 1 := by omega
    go_enter Tryd.func51, Tryd.ntmps51
    go_wp2_with (at_builtin; refine wpList_append_num rfl _ _ rfl P W.heap.size _ [] rfl (HV.out.kept (Kept.of_below _ (below_alloc _ _))) 0 ⟨W.heap.size, 0, none⟩ 1 rfl ?_ (by simp) (by simp; omega) ?_; (· go_simp); intro v' w7 row hv7 hg7 hr7; have HE := hid (par_end hBR h1 h2 HB.out HO.out HN.out (below_alloc _ _) hg7 hr7 hv7); have b7 := ((HB.out.alloc (.cells #[.int .i64 0] 3)).grown hg7 (hr7.box (HB.out.alloc _) (by decide))); have g2 : w7.cell? ⟨R, 2, none⟩ = some (.slice A 0 c) := b7.cell 2; have k2 : w7.frozen? ⟨R, 2, none⟩ = false := b7.free 2; obtain ⟨A', c', rfl⟩ := hv7.spell; clear hv7 hg7 hr7 b7)
    go_end0
    exact ⟨rfl, HE.out⟩
  · have ho : parOne p.params = p.params := by unfold parOne; rw [if_neg hl]
    rw [ho]
    have hpos : 0 < p.params.length := List.length_pos_iff.2 hl
    have HR := hid hrd
    clear hbox hnum hown hv hvO hrd hl ho
    obtain ⟨m, hm⟩ : ∃ m, p.params.length = m := ⟨_, rfl⟩
    rw [hm] at c2 hpos
    have hne : ((m : Int) == 0) = false := by simp; omega
    clear hm
    go_enter Tryd.func51, Tryd.ntmps51
    go_wp2
    go_end0
    exact ⟨rfl, HR.out, Below.refl _ _⟩

set_option maxRecDepth 100000 in
set_option maxHeartbeats 1000000 in
theorem nextParam_any {B R : Nat} {W : World} {p : Pa} {l : List Dn} (h : Rd B R W p l) (hp : p.params.length ≤ 16) :
    Calls Tryd.prog 48 #[.pointer (some ⟨R, 0, none⟩)] W (RdPost B R W (if (parOne p.params).length = 16 then .to 5 else { p with params := parOne p.params ++ [0] }) l) := by
  have hf := firstParam_any h hp
  have hq : ∀ w', RdPost B R W { p with params := parOne p.params } l (.returned (.tuple #[])) w' → Rd B R w' { p with params := parOne p.params } l ∧ Below B W w' := fun w' h => h.2
  have HF := hid hf
  have HQ := hid hq
  have ho : (parOne p.params).length ≤ 16 := by
    unfold parOne
    split
    · simp
    · exact hp
  clear hf hq
  by_cases h16 : (parOne p.params).length = 16
  · rw [if_pos h16]
    have H16 := hid h16
    clear h16 ho
    go_enter Tryd.func48, Tryd.ntmps48
    go_wp2_with (first | (go_at_call 51; refine HF.out.mono ?_; rintro e w1 ⟨rfl, hr1, hb1⟩; obtain ⟨A, c, dA, n, dc, hbox, _⟩ := hr1.cells; have c2 : w1.cell? ⟨R, 2, none⟩ = some (.slice A (parOne p.params).length c) := hbox.cell 2; rw [H16.out] at c2; have HE := hid (enter_rd hr1 5); clear hr1 hbox) | (go_at_call 40; refine HE.out.mono ?_; rintro e w3 ⟨rfl, h3, h4⟩; have H3 := hid h3; clear h3))
    go_end0
    exact ⟨rfl, H3.out, hb1.trans h4⟩
  · rw [if_neg h16]
    have hm : ∃ m : Nat, (parOne p.params).length = m := ⟨_, rfl⟩
    obtain ⟨m, hm⟩ := hm
    rw [hm] at h16 ho
    have hne : ((m : Int) == 16) = false := by simp; omega
    have HM := hid hm
    clear hm
    go_enter Tryd.func48, Tryd.ntmps48
    go_upto_region 1 with (go_at_call 51; refine HF.out.mono ?_; rintro e w1 ⟨rfl, hr1, hb1⟩)
    obtain ⟨v, lv, P, rfl, h1, h2, ⟨dv, hBR, hbox, hown, hnum⟩, hv⟩ := hr1
    obtain ⟨A, c, rfl⟩ := hv.spell
    have hR := hbox.lt
    simp only at hv hbox
    rw [HM.out] at hbox hv
    have c2 : w1.cell? ⟨R, 2, none⟩ = some (.slice A m c) := hbox.cell 2
    have f2 : w1.frozen? ⟨R, 2, none⟩ = false := hbox.free 2
    have hmL : (parOne p.params).length ≤ 1000 := by rw [HM.out]; omega
    have HB := hid hbox
    have HN := hid hnum
    have HO := hid hown
    have HV := hid hv
    have HML := hid hmL
    clear hbox hnum hown hv hmL
    have hlt : w1.heap.size < w1.heap.size + 1 := by omega
    go_wp2_with (at_builtin; refine wpList_append_num rfl _ _ rfl P w1.heap.size _ (parOne p.params) rfl (HV.out.kept (Kept.of_below _ (below_alloc _ _))) 0 ⟨w1.heap.size, 0, none⟩ 1 rfl ?_ HML.out (by simp; omega) ?_; (· go_simp); intro v' w7 row hv7 hg7 hr7; have HE := hid (par_end hBR h1 h2 HB.out HO.out HN.out (below_alloc _ _) hg7 hr7 hv7); have b7 := ((HB.out.alloc (.cells #[.int .i64 0] 3)).grown hg7 (hr7.box (HB.out.alloc _) (by decide))); have g2 : w7.cell? ⟨R, 2, none⟩ = some (.slice A m c) := b7.cell 2; have k2 : w7.frozen? ⟨R, 2, none⟩ = false := b7.free 2; obtain ⟨A', c', e'⟩ := hv7.spell; rw [List.length_append, List.length_singleton] at e'; subst e'; clear hv7 hg7 hr7 b7)
    go_end0
    exact ⟨rfl, HE.out.1, hb1.trans HE.out.2⟩

/-- The last number of a row is another. -/
theorem NumO.last {W : World} {lo hi : Nat} {l : List Int} {g c : Nat} (h : NumO W lo hi (.slice (some ⟨g, 0, none⟩) l.length c) l) (hl : l ≠ []) (x : Int) :
    NumO (W.setCell ⟨g, l.length - 1, none⟩ (.int .i64 x)) lo hi (.slice (some ⟨g, 0, none⟩) l.length c) (l.dropLast ++ [x]) ∧ IntRow lo W (some g) ∧ W.cell? ⟨g, l.length - 1, none⟩ = some (.int .i64 (l.getLastD 0)) ∧ W.frozen? ⟨g, l.length - 1, none⟩ = false := by
  have hpos : 0 < l.length := List.length_pos_iff.2 hl
  have hlen : (l.dropLast ++ [x]).length = l.length := by simp; omega
  rcases h with ⟨h, _⟩ | ⟨h, hlt⟩
  · exact absurd h hl
  · have h' : W.ownsRow lo 3 1 (.slice (some ⟨g, 0, none⟩) l.length c) l.length (ints l) := h
    have hr := IntRow.own_int h
    have hlast : l[l.length - 1]? = some (l.getLastD 0) := by
      rw [← List.getLast?_eq_getElem?, List.getLastD_eq_getLast?, List.getLast?_eq_some_getLast hl]
      rfl
    have hcell := h'.cellAt (l.length - 1) (by omega)
    rw [show (ints l)[l.length - 1]? = some (.int .i64 (l.getLastD 0)) by unfold ints; rw [List.getElem?_map, hlast]; rfl] at hcell
    rcases h.2 with ⟨h0, _⟩ | ⟨g', cap, cur, e, hb, hg, hc, hm, hs, ht⟩
    · cases h0
    · cases e
      have hW : (W.setCell ⟨g, l.length - 1, none⟩ (.int .i64 x)).heap[g]? = some (.cells (cur.setIfInBounds (l.length - 1) (.int .i64 x)) 3 (0, 0)) := Box.set (i := l.length - 1) hg (.int .i64 x)
      refine ⟨.inr ⟨⟨?_, .inr ⟨g, c, _, ?_, hb, hW, ?_, hm, ?_, ?_⟩⟩, hlt⟩, hr, hcell, Box.free hg _⟩
      · rw [ints_length]; omega
      · rw [hlen]
      · rw [hlen]; exact hc
      · rw [Array.size_setIfInBounds]; exact hs
      · rw [hlen, Array.toList_setIfInBounds]
        apply List.ext_getElem?
        intro j
        have ht' : ∀ j, j < l.length → cur.toList[j]? = (ints l)[j]? := by
          intro j hj
          rw [← ht, List.getElem?_take, if_pos (by omega)]
        unfold ints
        rw [List.getElem?_map, List.getElem?_take]
        by_cases hj : j < l.length
        · rw [if_pos (by omega), List.getElem?_set]
          by_cases hj2 : j = l.length - 1
          · subst hj2
            have hcs : l.length - 1 < cur.toList.length := by
              have : cur.toList.length = cur.size := Array.length_toList
              omega
            rw [if_pos rfl, if_pos hcs, List.getElem?_append_right (by simp)]
            simp
          · rw [if_neg (by omega), ht' j hj, List.getElem?_append_left (by simp; omega), List.getElem?_dropLast, if_pos (by omega)]
            unfold ints
            rw [List.getElem?_map]
        · rw [if_neg (by omega)]
          have : (l.dropLast ++ [x])[j]? = none := List.getElem?_eq_none (by omega)
          rw [this]
          rfl

theorem digit_end {B R P g : Nat} {W : World} {p : Pa} {c : Nat} {dv : Value} {lv : List (Dn × Value)} {L : List Int} (hBR : B ≤ R) (hBP : B ≤ P) (hP : P ≤ W.heap.size) (hL : L ≠ []) (hbox : Box W R 50 (rdCells R { p with params := L } (.slice (some ⟨g, 0, none⟩) L.length c) dv)) (hown : OwnD W B dv lv)
    (hnum : ∀ e ∈ lv, NumO W B P e.2 e.1.params ∧ e.1.params.length ≤ 16) (hv : NumO W P W.heap.size (.slice (some ⟨g, 0, none⟩) L.length c) L) (x : Int) :
    Rd B R (W.setCell ⟨g, L.length - 1, none⟩ (.int .i64 x)) { p with params := L.dropLast ++ [x] } (lv.map Prod.fst) ∧ Below B W (W.setCell ⟨g, L.length - 1, none⟩ (.int .i64 x)) := by
  obtain ⟨h1, h2, _, _⟩ := hv.last hL x
  obtain ⟨h5, cur, h6⟩ := h2 g rfl
  have hg : W.grownBy (W.setCell ⟨g, L.length - 1, none⟩ (.int .i64 x)) (some g) := grown_set (World.grownBy.refl W _) _
  have hz : W.heap.size = (W.setCell ⟨g, L.length - 1, none⟩ (.int .i64 x)).heap.size := by simp [World.setCell]
  refine ⟨⟨_, lv, P, rfl, hBP, by omega, ⟨dv, hBR, hbox.grown hg (h2.box hbox (by decide)), World.ownsRow.kept hown hg (h2.own hown), fun e he => ⟨(hnum e he).1.kept (h2.kept hg), (hnum e he).2⟩⟩, ?_⟩, ?_⟩
  · exact h1.mono (Nat.le_refl _) (by omega)
  · exact (Below.refl B W).setCell (show B ≤ g by omega) _
theorem getLastD_mem {l : List Int} (h : l ≠ []) : l.getLastD 0 ∈ l := by
  rw [List.getLastD_eq_getLast?, List.getLast?_eq_some_getLast h]
  exact List.getLast_mem h

set_option maxRecDepth 100000 in
set_option maxHeartbeats 1000000 in
theorem digit_any {B R : Nat} {W : World} {p : Pa} {l : List Dn} (h : Rd B R W p l) (hr : ∀ n ∈ p.params, 0 ≤ n ∧ n ≤ 9999) (hp : p.params.length ≤ 16) (d : Int) (hd : 0 ≤ d ∧ d ≤ 9) :
    Calls Tryd.prog 47 #[.pointer (some ⟨R, 0, none⟩), .int .i64 d] W (RdPost B R W { p with params := parDigit (parOne p.params) d } l) := by
  have hf := firstParam_any h hp
  obtain ⟨o1, o2, o3⟩ := parOne_ok hr hp
  have hx := o1 _ (getLastD_mem o3)
  have hpd : parDigit (parOne p.params) d = (parOne p.params).dropLast ++ [if 9999 < 10 * (parOne p.params).getLastD 0 + d then 9999 else 10 * (parOne p.params).getLastD 0 + d] := rfl
  generalize parOne p.params = L at *
  obtain ⟨k, hk⟩ : ∃ k : Nat, L.length = k + 1 := ⟨L.length - 1, by have := List.length_pos_iff.2 o3; omega⟩
  have HF := hid hf
  have HK := hid hk
  obtain ⟨x, hxx⟩ : ∃ x, L.getLastD 0 = x := ⟨_, rfl⟩
  rw [hxx] at hx hpd
  have HPD := hid hpd
  have HX := hid hxx
  obtain ⟨d0, d9⟩ := hd
  obtain ⟨x0, x9⟩ := hx
  have hk16 : k ≤ 15 := by omega
  clear hf hk hr hp o1 o2 hpd hxx
  go_enter Tryd.func47, Tryd.ntmps47
  go_upto_region 1 with (go_at_call 51; refine HF.out.mono ?_; rintro e w1 ⟨rfl, hr1, hb1⟩)
  obtain ⟨v, lv, P, rfl, h1, h2, ⟨dv, hBR, hbox, hown, hnum⟩, hv⟩ := hr1
  obtain ⟨g, c, rfl, hPg, hg1, hg2, hkc, _⟩ := hv.row o3
  obtain ⟨_, _, hcl, hfl⟩ := hv.last o3 0
  simp only at hcl hfl hkc
  rw [HK.out, HX.out] at hcl
  rw [HK.out] at hfl hkc
  rw [Nat.add_sub_cancel] at hcl hfl
  have hE := fun (n : Nat) y => digit_end (W := w1.drewN n) hBR h1 h2 o3 hbox.drewN (show OwnD (w1.drewN n) B dv lv from hown) hnum hv y
  rw [HK.out, Nat.add_sub_cancel] at hE
  have HE := hid hE
  clear hE
  rw [show ({ p with params := L } : Pa).params.length = k + 1 from HK.out] at hbox
  have c2 : w1.cell? ⟨R, 2, none⟩ = some (.slice (some ⟨g, 0, none⟩) (k + 1) c) := hbox.cell 2
  clear hbox hown hnum hv
  have s1 : IntKind.i64.wrap ((k : Int) + 1 - 1) = (k : Int) := by rw [IntWalk.i64_in _ (by omega)]; omega
  have s2 : (0 : Int) ≤ k := by omega
  go_quiet (fail)
  go_wp2
  all_goals go_end0
  · have e : parDigit L d = L.dropLast ++ [9999] := by rw [HPD.out, if_pos (by omega)]
    obtain ⟨e1, e2⟩ := HE.out nq 9999
    rw [e]
    exact ⟨rfl, e1, hb1.trans ((below_drew _ nq).mono (by omega) |>.trans e2)⟩
  · have e : parDigit L d = L.dropLast ++ [x * 10 + d] := by rw [HPD.out, if_neg (by omega), Int.mul_comm]
    obtain ⟨e1, e2⟩ := HE.out nq (x * 10 + d)
    rw [e]
    exact ⟨rfl, e1, hb1.trans ((below_drew _ nq).mono (by omega) |>.trans e2)⟩
end Go.Proofs.YtpcpdbofbbpglaaDoor
