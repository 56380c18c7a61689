/- Layer 10, the reference: There, Behind, Stands. -/
/- Layer 10, the reference: Find. -/
/- Layer 10, the statements' helpers: a letter is found. -/
import Derived.Test.YteebbmmgbjpihaaDoorFindPQ
import Derived.Test.YteebbmmgbjpihaaDoorFlowLmQ
import Derived.Test.YteebbmmgbjpihaaDoorFlowOQ
import Derived.Test.YteebbmmgbjpihaaDoorFindFQ
import Derived.Test.YteebbmmgbjpihaaDoorFlowLaQ
namespace Go.Proofs.YteebbmmgbjpihaaDoor
open Go.RowKit

set_option maxHeartbeats 1000000 in
theorem there_any (r c : Int) (v : Value) (lv : List (Ln × Value)) (W : World) (hr : LR W v lv) (hc : CesOf W lv) :
    Calls Tryd.prog 9 #[v, .int .i64 r, .int .i64 c] W fun e w' => e = .returned (.bool (inP (lv.map Prod.fst) (r, c))) ∧ W = w' := by
  obtain ⟨A, cap, rfl⟩ := hr.spell
  obtain ⟨n, hnn⟩ : ∃ n, lv.length = n := ⟨_, rfl⟩
  rw [hnn] at hr ⊢
  by_cases h1 : 0 ≤ r ∧ r < n
  · obtain ⟨h1a, h1b⟩ := h1
    obtain ⟨k, rfl⟩ : ∃ k : Nat, r = k := ⟨r.toNat, by omega⟩
    obtain ⟨g, o, e, rfl, hg, he, hcell⟩ := lr_at hr hnn k (by omega)
    obtain ⟨p0, _⟩ := hcell _ (Below.refl _ _)
    have hle := lenI_at he
    obtain ⟨eA, ec, hev⟩ := (hc e (List.mem_of_getElem? he)).spell
    rw [hev] at p0
    generalize e.1.cs.length = m at *
    by_cases h2 : 0 ≤ c
    · have HE : Hid (inP (lv.map Prod.fst) (↑k, c) = decide (c < m)) := by
        unfold Hid inP; simp only [List.length_map, hnn, hle]; rw [decide_eq_true ⟨h1a, h1b⟩, Bool.true_and]; exact decide_eq_decide.2 ⟨fun h => h.2, fun h => ⟨h2, h⟩⟩
      clear hle hcell hr hc he hev
      go_enter Tryd.func9, Tryd.ntmps9
      go_wp2
      go_ret
      exact ⟨ret_bool HE.out.symm, rfl⟩
    · have HE : Hid (inP (lv.map Prod.fst) (↑k, c) = false) := by
        unfold Hid inP; rw [Bool.and_eq_false_iff]; right; exact decide_eq_false (fun h => h2 h.1)
      have h2a : c < 0 := by omega
      have h2b : decide (0 ≤ c) = false := decide_eq_false h2
      clear hle hcell hr hc he hev
      go_enter Tryd.func9, Tryd.ntmps9
      go_wp2
      go_ret
      exact ⟨ret_bool HE.out.symm, rfl⟩
  · have HE : Hid (inP (lv.map Prod.fst) (r, c) = false) := by
      unfold Hid inP; rw [Bool.and_eq_false_iff]; left; exact decide_eq_false (fun h => h1 (by simpa [hnn] using h))
    clear hr hc
    by_cases h2 : 0 ≤ r
    · have h3 : ¬ r < n := fun h => h1 ⟨h2, h⟩
      have h3a : (n : Int) ≤ r := by omega
      have h3b : decide (r < (n : Int)) = false := decide_eq_false h3
      clear h1
      go_enter Tryd.func9, Tryd.ntmps9
      go_wp2
      go_ret
      exact ⟨ret_bool HE.out.symm, rfl⟩
    · have h2a : r < 0 := by omega
      have h2b : decide (0 ≤ r) = false := decide_eq_false h2
      clear h1
      go_enter Tryd.func9, Tryd.ntmps9
      go_wp2
      go_ret
      exact ⟨ret_bool HE.out.symm, rfl⟩
/-- Is a place behind another one; by numbers. -/
def behI (a b c d : Int) : Bool := decide (c < a ∨ (a = c ∧ d < b))
theorem behI_nat (p q : Nat × Nat) : behI p.1 p.2 q.1 q.2 = decide (behP p q) := by
  exact decide_eq_decide.2 (by unfold behP; omega)
theorem behind_any (a b c d : Int) (W : World) :
    Calls Tryd.prog 18 #[.int .i64 a, .int .i64 b, .int .i64 c, .int .i64 d] W fun e w' => e = .returned (.bool (behI a b c d)) ∧ W = w' := by
  by_cases h1 : c < a
  · have HE : Hid (behI a b c d = true) := decide_eq_true (.inl h1)
    go_enter Tryd.func18, Tryd.ntmps18
    go_wp2
    go_ret
    exact ⟨ret_bool HE.out.symm, rfl⟩
  · by_cases h2 : a = c
    · subst h2
      have HE : Hid (behI a b a d = decide (d < b)) := decide_eq_decide.2 ⟨fun h => by rcases h with h | h; exact absurd h h1; exact h.2, fun h => .inr ⟨rfl, h⟩⟩
      have h1b : decide (a < a) = false := decide_eq_false h1
      go_enter Tryd.func18, Tryd.ntmps18
      go_wp2
      go_ret
      exact ⟨ret_bool HE.out.symm, rfl⟩
    · have HE : Hid (behI a b c d = false) := decide_eq_false (by rintro (h | h); exact h1 h; exact h2 h.1)
      have h1b : decide (c < a) = false := decide_eq_false h1
      have h2b : (a == c) = false := by simp [h2]
      go_enter Tryd.func18, Tryd.ntmps18
      go_wp2
      go_ret
      exact ⟨ret_bool HE.out.symm, rfl⟩
theorem sayN_all (l : List Ce) : sayN l l.length = sayCs l := by
  unfold sayN sayCs
  rw [List.take_length]
theorem prefB_is {s t : ByteArray} (h : s.size ≤ t.size) : prefB s t = ((t.extract 0 s.size).toList == s.toList) := by
  unfold prefB
  rw [decide_eq_true h, Bool.true_and, beq_str]
set_option maxHeartbeats 1000000 in
theorem rstands_any (r c : Nat) (s : ByteArray) (v : Value) (lv : List (Ln × Value)) (W : World) (hr : LR W v lv) (hc : CesOf W lv) (hs : Sm lv) (hi : (r, c) ∈ placesP (lv.map Prod.fst)) (_hss : s.size ≤ 1000) :
    Calls Tryd.prog 17 #[v, .string s, .int .i64 r, .int .i64 c] W fun e w' => e = .returned (.bool (standsP (lv.map Prod.fst) s r c)) ∧ Below W.heap.size W w' := by
  have hp := places_mem.1 hi
  simp only at hp
  have hin := (inP_iff.1 (inP_nat.2 hi)).1.2
  simp only [toI, List.length_map] at hin
  obtain ⟨A, cap, rfl⟩ := hr.spell
  obtain ⟨n, hnn⟩ : ∃ n, lv.length = n := ⟨_, rfl⟩
  rw [hnn] at hr hin ⊢
  obtain ⟨g, o, e, rfl, hg, he, hcell⟩ := lr_at hr hnn r (by omega)
  obtain ⟨p0, _⟩ := hcell _ (Below.refl _ _)
  have hle : lenP (lv.map Prod.fst) r = e.1.cs.length := lenP_at (by rw [List.getElem?_map, he]; rfl)
  have hsm := hs.2 e (List.mem_of_getElem? he)
  have hce := hc e (List.mem_of_getElem? he)
  obtain ⟨eA, ec, hev⟩ := hce.spell
  obtain ⟨m, hm⟩ : ∃ m, e.1.cs.length = m := ⟨_, rfl⟩
  rw [hm] at hev hle
  rw [hle] at hp
  rw [hev] at p0 hce
  obtain ⟨g2, o2, x, rfl, hg2, hx, hcell2⟩ := row_cells hce hm c hp
  obtain ⟨q0, q1, q2, q3, q4⟩ := ccells (W := W) (g := g2) (o := o2 + c * 5) (e := x) (fun i u hu => hcell2 _ (Below.refl _ _) i u hu)
  obtain ⟨sA, hsl, hsr⟩ := slice_ce_l hce hm c (by omega)
  have hcap : m ≤ ec := by
    obtain ⟨A', c', e', hcap, _⟩ := hce
    rw [hm] at e' hcap
    cases e'
    exact hcap
  have hdl : (e.1.cs.drop c).length = m - c := by rw [List.length_drop, hm]
  have hrest : restP (lv.map Prod.fst) r c = e.1.cs.drop c := by unfold restP; rw [List.getElem?_map, he]; rfl
  have hcx : cellP (lv.map Prod.fst) r c = some x := by unfold cellP; rw [List.getElem?_map, he]; exact hx
  have hst : standsP (lv.map Prod.fst) s r c = (decide (x.wd ≠ 0) && prefB s (sayCs (e.1.cs.drop c))) := by unfold standsP; rw [hcx, hrest]
  have hsay := rSay_raw (.slice sA (m - c) (ec - c)) (e.1.cs.drop c) W hsr (fun y hy => hsm.2 y (List.drop_subset _ _ hy)) (by rw [hdl]; have := hsm.1; omega)
  rw [sayN_all] at hsay
  obtain ⟨t, ht⟩ : ∃ t, sayCs (e.1.cs.drop c) = t := ⟨_, rfl⟩
  rw [ht] at hsay hst
  have HSAY := hid hsay
  have HST := hid hst
  have hcm : (c : Int) ≤ m := by omega
  have hcmn : c ≤ m := by omega
  have hpi : (c : Int) < m := by omega
  clear hst hsay ht hcx hrest hdl hsr hcell2 hx hce hm hev hsm hle hcell he hr hc hs hnn
  by_cases hw : x.wd = 0
  · have HE : Hid (standsP (lv.map Prod.fst) s r c = false) := by unfold Hid; rw [HST.out, decide_eq_false (fun h => h hw), Bool.false_and]
    rw [hw] at q1
    go_enter Tryd.func17, Tryd.ntmps17
    go_wp2
    go_ret
    exact ⟨ret_bool HE.out.symm, Below.refl _ _⟩
  · have hwb : (x.wd == 0) = false := by simp [hw]
    have HE : Hid (standsP (lv.map Prod.fst) s r c = prefB s t) := by unfold Hid; rw [HST.out, decide_eq_true hw, Bool.true_and]
    by_cases hz : s.size ≤ t.size
    · have hzi : (s.size : Int) ≤ t.size := by omega
      have HF : Hid (((t.extract 0 s.size).toList == s.toList) = standsP (lv.map Prod.fst) s r c) := by unfold Hid; rw [HE.out, prefB_is hz]
      go_enter Tryd.func17, Tryd.ntmps17
      go_wp2_with (refine HSAY.out.mono ?_; rintro e w1 ⟨rfl, hb⟩)
      go_ret
      exact ⟨ret_bool HF.out, hb⟩
    · have hzi : ¬ (s.size : Int) ≤ t.size := by omega
      have hzb : decide ((s.size : Int) ≤ t.size) = false := decide_eq_false hzi
      have HF : Hid (standsP (lv.map Prod.fst) s r c = false) := by unfold Hid; rw [HE.out]; unfold prefB; rw [decide_eq_false hz, Bool.false_and]
      go_enter Tryd.func17, Tryd.ntmps17
      go_wp2_with (refine HSAY.out.mono ?_; rintro e w1 ⟨rfl, hb⟩)
      go_ret
      exact ⟨ret_bool HF.out.symm, hb⟩
end Go.Proofs.YteebbmmgbjpihaaDoor

namespace Go.Proofs.YteebbmmgbjpihaaDoor
open Go.RowKit

/-- The places ahead of a row, and those of it up to a col. -/
def prefL (ls : List Ln) (r c : Nat) : List (Nat × Nat) := ((List.range r).flatMap fun r => (List.range (lenP ls r)).map fun c => (r, c)) ++ (List.range c).map fun c => (r, c)
theorem pref_zero (ls : List Ln) : prefL ls 0 0 = [] := rfl
theorem pref_col (ls : List Ln) (r c : Nat) : prefL ls r (c + 1) = prefL ls r c ++ [(r, c)] := by
  unfold prefL
  rw [List.range_succ, List.map_append, List.append_assoc]
  rfl
theorem pref_row (ls : List Ln) (r : Nat) : prefL ls (r + 1) 0 = prefL ls r (lenP ls r) := by
  unfold prefL
  rw [List.range_succ, List.flatMap_append]
  simp
theorem pref_all (ls : List Ln) : prefL ls ls.length 0 = placesP ls := by
  unfold prefL placesP
  simp
/-- What is found of the first places. -/
def stR (ls : List Ln) (s : ByteArray) (at_ : Nat × Nat) (back : Bool) (l : List (Nat × Nat)) : Option (Nat × Nat) :=
  if back = true then l.reverse.find? fun p => standsP ls s p.1 p.2 && decide (behP at_ p) else l.find? fun p => standsP ls s p.1 p.2 && decide (behP p at_)
theorem stR_all (ls : List Ln) (s : ByteArray) (at_ : Nat × Nat) (back : Bool) : stR ls s at_ back (placesP ls) = foundL ls s at_ back := by
  unfold stR foundL findB findF
  rfl
theorem stR_nil (ls : List Ln) (s : ByteArray) (at_ : Nat × Nat) (back : Bool) : stR ls s at_ back [] = none := by
  unfold stR
  cases back <;> rfl
theorem stR_no {ls : List Ln} {s : ByteArray} {at_ : Nat × Nat} {back : Bool} {l : List (Nat × Nat)} {p : Nat × Nat} (h : standsP ls s p.1 p.2 = false) : stR ls s at_ back (l ++ [p]) = stR ls s at_ back l := by
  unfold stR
  cases back
  · simp [h]
  · simp [h]
theorem stR_back {ls : List Ln} {s : ByteArray} {at_ : Nat × Nat} {l : List (Nat × Nat)} {p : Nat × Nat} (h : standsP ls s p.1 p.2 = true) : stR ls s at_ true (l ++ [p]) = if behP at_ p then some p else stR ls s at_ true l := by
  unfold stR
  by_cases hb : behP at_ p
  · simp [h, hb]
  · simp [h, hb]
theorem stR_fwd {ls : List Ln} {s : ByteArray} {at_ : Nat × Nat} {l : List (Nat × Nat)} {p : Nat × Nat} (h : standsP ls s p.1 p.2 = true) :
    stR ls s at_ false (l ++ [p]) = if stR ls s at_ false l = none ∧ behP p at_ then some p else stR ls s at_ false l := by
  unfold stR
  simp only [Bool.false_eq_true, if_false]
  rw [List.find?_append]
  generalize l.find? (fun p => standsP ls s p.1 p.2 && decide (behP p at_)) = o
  cases o with
  | some q => simp
  | none =>
    by_cases hb : behP p at_
    · simp [h, hb]
    · simp [h, hb]
def rowO (o : Option (Nat × Nat)) : Int := match o with | some p => p.1 | none => -1
def colO (o : Option (Nat × Nat)) : Int := match o with | some p => p.2 | none => 0
theorem rowO_neg {o : Option (Nat × Nat)} : rowO o < 0 ↔ o = none := by
  cases o with
  | none => simp [rowO]
  | some p => simp [rowO]
def pO (o : Option (Nat × Nat)) : Array Value := #[.int .i64 (rowO o), .int .i64 (colO o)]
def RfPost (W : World) (o : Option (Nat × Nat)) (e : Ending) (w' : World) : Prop := e = .returned (.agg #[.int .i64 (rowO o), .int .i64 (colO o)]) ∧ Below W.heap.size W w'
/-- Its two boxes. -/
structure RfS (W X : World) (o : Option (Nat × Nat)) : Prop where
  hb : Below W.heap.size W X
  b0 : Box X W.heap.size 31 #[.int .i64 0, .int .i64 0]
  b1 : Box X (W.heap.size + 1) 31 (pO o)
theorem RfS.below {W X Y : World} {o : Option (Nat × Nat)} (h : RfS W X o) (hb : Below X.heap.size X Y) : RfS W Y o :=
  ⟨h.hb.trans (hb.mono h.hb.size), h.b0.below hb h.b0.lt, h.b1.below hb h.b1.lt⟩
theorem RfS.set {W X : World} {o : Option (Nat × Nat)} (h : RfS W X o) (p : Nat × Nat) : RfS W ((X.setCell ⟨W.heap.size + 1, 0, none⟩ (.int .i64 (p.1 : Int))).setCell ⟨W.heap.size + 1, 1, none⟩ (.int .i64 (p.2 : Int))) (some p) := by
  refine ⟨below_set (below_set h.hb (by omega) _) (by omega) _, (h.b0.other (by omega) _).other (by omega) _, ?_⟩
  have := (h.b1.set (i := 0) (.int .i64 (p.1 : Int))).set (i := 1) (.int .i64 (p.2 : Int))
  simpa [pO, rowO, colO] using this
theorem RfS.two {W X : World} {o : Option (Nat × Nat)} (h : RfS W X o) : (X.cell? ⟨W.heap.size + 1, 0, none⟩ = some (.int .i64 (rowO o)) ∧ X.cell? ⟨W.heap.size + 1, 1, none⟩ = some (.int .i64 (colO o))) ∧ (X.frozen? ⟨W.heap.size + 1, 0, none⟩ = false ∧ X.frozen? ⟨W.heap.size + 1, 1, none⟩ = false) :=
  Box.two (show Box X (W.heap.size + 1) _ #[_, _] from h.b1)
set_option maxRecDepth 100000 in
set_option maxHeartbeats 4000000 in
theorem rfind_any (s : ByteArray) (at_ : Nat × Nat) (back : Bool) (v : Value) (lv : List (Ln × Value)) (W : World) (hr : LR W v lv) (hc : CesOf W lv) (hs : Sm lv) (hss : s.size ≤ 1000) :
    Calls Tryd.prog 11 #[v, .string s, .int .i64 at_.1, .int .i64 at_.2, .bool back] W (RfPost W (foundL (lv.map Prod.fst) s at_ back)) := by
  obtain ⟨A, cap, rfl⟩ := hr.spell
  obtain ⟨n, hnn⟩ : ∃ n, lv.length = n := ⟨_, rfl⟩
  obtain ⟨ls, hls⟩ : ∃ ls, lv.map Prod.fst = ls := ⟨_, rfl⟩
  have hS := fun (r c : Nat) (X : World) (hb : Below W.heap.size W X) (hi : (r, c) ∈ placesP (lv.map Prod.fst)) => rstands_any r c s (.slice A lv.length cap) lv X (hr.below hb) (hc.below hb) hs hi hss
  have hlen : ls.length = n := by rw [← hls, List.length_map, hnn]
  rw [hnn] at hr hS ⊢
  rw [hls] at hS ⊢
  have hn := hs.1
  rw [hnn] at hn
  have HALL := hid ((stR_all ls s at_ back).symm)
  obtain ⟨o, ho⟩ : ∃ o, foundL ls s at_ back = o := ⟨_, rfl⟩
  rw [ho] at HALL ⊢
  have HB := hid (fun (a b c d : Int) (X : World) => behind_any a b c d X)
  have HS := hid hS
  have HR := hid hr
  have HC := hid hc
  have HSM := hid hs
  have HLS := hid hls
  have HLEN := hid hlen
  clear hS hr hc hs hls hlen ho
  go_enter Tryd.func11, Tryd.ntmps11
  go_wp2_with fail
  go_loopw [12] (fun i wr => ∃ r : Nat, r ≤ n ∧ i = .int .i64 r ∧ RfS W wr (stR ls s at_ back (prefL ls r 0))) (fun i _ => n - (intOf i).toNat)
  case atStart =>
    refine ⟨0, by omega, rfl, ?_⟩
    rw [pref_zero, stR_nil]
    refine ⟨(below_alloc _ _).alloc (by simp) _, (Box.new _ _ _).alloc _, ?_⟩
    have := Box.new (W.alloc (.cells #[.int .i64 0, .int .i64 0] 31)) 31 #[.int .i64 (-1), .int .i64 0]
    rwa [World.size_alloc] at this
  case round =>
    obtain ⟨wo, rfl⟩ : ∃ wo : World, wo = wr := ⟨_, rfl⟩
    obtain ⟨r, hrn, rfl, hrs⟩ := hrel
    by_cases hlt : r < n
    · have hri : (r : Int) < n := by omega
      have hrb : (r : Int) ≤ 1000 := by omega
      obtain ⟨g, o1, e, rfl, hg, he, hcell⟩ := lr_at HR.out hnn r (by omega)
      have hsm := HSM.out.2 e (List.mem_of_getElem? he)
      obtain ⟨eA, ec, hev⟩ := (HC.out e (List.mem_of_getElem? he)).spell
      have hle : lenP ls r = e.1.cs.length := lenP_at (by rw [← HLS.out, List.getElem?_map, he]; rfl)
      have hm1 := hsm.1
      obtain ⟨m, hm⟩ : ∃ m, e.1.cs.length = m := ⟨_, rfl⟩
      rw [hm] at hev hle hm1
      rw [hev] at hcell
      have HCELL := hid hcell
      have HLE := hid hle
      clear hcell hev hsm hle hm he
      go_wp2_with fail
      go_loopw [13] (fun j wr => ∃ c : Nat, c ≤ m ∧ j = .int .i64 c ∧ RfS W wr (stR ls s at_ back (prefL ls r c))) (fun j _ => m - (intOf j).toNat)
      case atStart => exact ⟨0, by omega, rfl, hrs⟩
      case round =>
        obtain ⟨c, hcm, rfl, hcs⟩ := hrel
        obtain ⟨k0, _⟩ := HCELL.out wr hcs.hb
        by_cases hlt2 : c < m
        · have hci : (c : Int) < m := by omega
          have hcb : (c : Int) ≤ 1000 := by omega
          have hi : (r, c) ∈ placesP ls := places_mem.2 (by rw [HLE.out]; exact hlt2)
          have HST := hid (HS.out r c wr hcs.hb hi)
          have HPC := hid (pref_col ls r c)
          have HCS := hid hcs
          clear hcs hi hrs
          cases hv : standsP ls s r c
          · rw [hv] at HST
            have HNO := hid (stR_no (ls := ls) (s := s) (at_ := at_) (back := back) (l := prefL ls r c) (p := (r, c)) hv)
            clear hv
            go_wp2_with (go_at_call 17; refine HST.out.mono ?_; rintro e5 w5 ⟨rfl, hb5⟩)
            go_roundw
            case rel => exact ⟨c + 1, by omega, by go_num, by rw [HPC.out, HNO.out]; exact HCS.out.below hb5⟩
            case measure => simp [intOf]; omega
          · rw [hv] at HST
            cases back
            · have HYES := hid (stR_fwd (ls := ls) (s := s) (at_ := at_) (l := prefL ls r c) (p := (r, c)) hv)
              have HBE := hid (fun X => HB.out r c at_.1 at_.2 X)
              rw [show behI (r : Int) (c : Int) at_.1 at_.2 = decide (behP (r, c) at_) from behI_nat (r, c) at_] at HBE
              clear hv
              obtain ⟨q, hq⟩ : ∃ q, stR ls s at_ false (prefL ls r c) = q := ⟨_, rfl⟩
              rw [hq] at HYES HCS
              clear hq
              by_cases hq : q = none
              · have hneg := rowO_neg.2 hq
                have hnegb : decide (rowO q < 0) = true := decide_eq_true hneg
                by_cases hbe : behP (r, c) at_
                · have HZ : Hid (stR ls s at_ false (prefL ls r c ++ [(r, c)]) = some (r, c)) := by unfold Hid; rw [HYES.out, if_pos ⟨hq, hbe⟩]
                  rw [decide_eq_true hbe] at HBE
                  clear hq hbe HYES
                  go_wp2_with first
                    | (go_at_call 17; refine HST.out.mono ?_; rintro e5 w5 ⟨rfl, hb5⟩; have HC5 := hid (HCS.out.below hb5); obtain ⟨⟨k5, k6⟩, f5, f6⟩ := HC5.out.two)
                    | (go_at_call 18; refine (HBE.out _).mono ?_; rintro e6 w6 ⟨rfl, rfl⟩)
                  go_roundw
                  case rel => exact ⟨c + 1, by omega, by go_num, by rw [HPC.out, HZ.out]; exact HC5.out.set (r, c)⟩
                  case measure => simp [intOf]; omega
                · have HZ : Hid (stR ls s at_ false (prefL ls r c ++ [(r, c)]) = q) := by unfold Hid; rw [HYES.out, if_neg (fun h => hbe h.2)]
                  rw [decide_eq_false hbe] at HBE
                  clear hq hbe HYES
                  go_wp2_with first
                    | (go_at_call 17; refine HST.out.mono ?_; rintro e5 w5 ⟨rfl, hb5⟩; have HC5 := hid (HCS.out.below hb5); obtain ⟨⟨k5, k6⟩, f5, f6⟩ := HC5.out.two)
                    | (go_at_call 18; refine (HBE.out _).mono ?_; rintro e6 w6 ⟨rfl, rfl⟩)
                  go_roundw
                  case rel => exact ⟨c + 1, by omega, by go_num, by rw [HPC.out, HZ.out]; exact HC5.out⟩
                  case measure => simp [intOf]; omega
              · have hneg : ¬ rowO q < 0 := fun h => hq (rowO_neg.1 h)
                have hnegb : decide (rowO q < 0) = false := decide_eq_false hneg
                have HZ : Hid (stR ls s at_ false (prefL ls r c ++ [(r, c)]) = q) := by unfold Hid; rw [HYES.out, if_neg (fun h => hq h.1)]
                clear hq HYES HBE
                go_wp2_with (go_at_call 17; refine HST.out.mono ?_; rintro e5 w5 ⟨rfl, hb5⟩; have HC5 := hid (HCS.out.below hb5); obtain ⟨⟨k5, k6⟩, f5, f6⟩ := HC5.out.two)
                go_roundw
                case rel => exact ⟨c + 1, by omega, by go_num, by rw [HPC.out, HZ.out]; exact HC5.out⟩
                case measure => simp [intOf]; omega
            · have HYES := hid (stR_back (ls := ls) (s := s) (at_ := at_) (l := prefL ls r c) (p := (r, c)) hv)
              have HBE := hid (fun X => HB.out at_.1 at_.2 r c X)
              rw [show behI at_.1 at_.2 (r : Int) (c : Int) = decide (behP at_ (r, c)) from behI_nat at_ (r, c)] at HBE
              clear hv
              by_cases hbe : behP at_ (r, c)
              · have HZ : Hid (stR ls s at_ true (prefL ls r c ++ [(r, c)]) = some (r, c)) := by unfold Hid; rw [HYES.out, if_pos hbe]
                rw [decide_eq_true hbe] at HBE
                clear hbe HYES
                go_wp2_with first
                  | (go_at_call 17; refine HST.out.mono ?_; rintro e5 w5 ⟨rfl, hb5⟩; have HC5 := hid (HCS.out.below hb5); obtain ⟨⟨k5, k6⟩, f5, f6⟩ := HC5.out.two)
                  | (go_at_call 18; refine (HBE.out _).mono ?_; rintro e6 w6 ⟨rfl, rfl⟩)
                go_roundw
                case rel => exact ⟨c + 1, by omega, by go_num, by rw [HPC.out, HZ.out]; exact HC5.out.set (r, c)⟩
                case measure => simp [intOf]; omega
              · have HZ : Hid (stR ls s at_ true (prefL ls r c ++ [(r, c)]) = stR ls s at_ true (prefL ls r c)) := by unfold Hid; rw [HYES.out, if_neg hbe]
                rw [decide_eq_false hbe] at HBE
                clear hbe HYES
                go_wp2_with first
                  | (go_at_call 17; refine HST.out.mono ?_; rintro e5 w5 ⟨rfl, hb5⟩; have HC5 := hid (HCS.out.below hb5); obtain ⟨⟨k5, k6⟩, f5, f6⟩ := HC5.out.two)
                  | (go_at_call 18; refine (HBE.out _).mono ?_; rintro e6 w6 ⟨rfl, rfl⟩)
                go_roundw
                case rel => exact ⟨c + 1, by omega, by go_num, by rw [HPC.out, HZ.out]; exact HC5.out⟩
                case measure => simp [intOf]; omega
        · have hcm' : c = m := by omega
          subst hcm'
          have HROW : Hid (prefL ls (r + 1) 0 = prefL ls r c) := by unfold Hid; rw [pref_row, HLE.out]
          have HCS := hid hcs
          clear hlt2 hcs hrs
          go_wp2
          go_roundw
          case rel => exact ⟨r + 1, by omega, by go_num, by rw [HROW.out]; exact HCS.out⟩
          case measure => simp [intOf]; omega
    · have hrn' : r = n := by omega
      subst hrn'
      have hfin : RfS W wo o := by
        have := hrs
        rw [show prefL ls r 0 = placesP ls by rw [← HLEN.out]; exact pref_all ls, ← HALL.out] at this
        exact this
      obtain ⟨⟨k5, k6⟩, f5, f6⟩ := hfin.two
      obtain ⟨⟨k7, k8⟩, f7, f8⟩ := hfin.b0.two
      have h1 := hfin.b0.set (i := 0) (.int .i64 (rowO o))
      have h2 := h1.set (i := 1) (.int .i64 (colO o))
      have r0 := h1.cell 0
      have r1 := h2.cell 1
      rw [show ((#[Value.int .i64 0, .int .i64 0] : Array Value).setIfInBounds 0 (.int .i64 (rowO o)))[0]? = some (.int .i64 (rowO o)) by simp] at r0
      rw [show (((#[Value.int .i64 0, .int .i64 0] : Array Value).setIfInBounds 0 (.int .i64 (rowO o))).setIfInBounds 1 (.int .i64 (colO o)))[1]? = some (.int .i64 (colO o)) by simp] at r1
      have HZ := hid (below_set (below_set hfin.hb (Nat.le_refl _) (.int .i64 (rowO o)) (i := 0)) (Nat.le_refl _) (.int .i64 (colO o)) (i := 1))
      clear hlt hrs hfin h1 h2
      go_wp2
      refine bodyPost_ret (v := .agg #[.int .i64 (rowO o), .int .i64 (colO o)]) (by simp [results, Tryd.results11, go_sem, r0, r1]) rfl ⟨rfl, HZ.out⟩
end Go.Proofs.YteebbmmgbjpihaaDoor

namespace Go.Proofs.YteebbmmgbjpihaaDoor
open Go.RowKit

def abL : Ln := ⟨[a8C 97, a8C 98], false⟩
theorem ab_found (v : Value) : findR [(abL, v)] ⟨#[98]⟩ (0, 0) false = (0, 1, 0) := by
  have hk : keptB [(abL, v)] = true := by rfl
  have hf : foundL [abL] ⟨#[98]⟩ (0, 0) false = some (0, 1) := by decide +kernel
  have hi : inP [abL] (0, 0) = true := by decide +kernel
  unfold findR
  rw [if_neg (by
    rintro (h | h | h | h)
    · rw [hk] at h; cases h
    · have : inP [abL] (0, 0) = false := h
      rw [hi] at this; cases this
    · cases h
    · exact absurd h (by decide))]
  have e : foundL (([(abL, v)] : List (Ln × Value)).map Prod.fst) ⟨#[98]⟩ ((0 : Int).toNat, (0 : Int).toNat) false = some (0, 1) := hf
  simp only [e]
  rfl
set_option maxRecDepth 100000 in
set_option maxHeartbeats 1000000 in
theorem fnAlive (W : World) (hT : Tab W) (hW : TabW W) : Calls Tryd.prog 10 #[] W fun e w' => e = .returned (.bool true) ∧ Below W.heap.size W w' := by
  have hb1 := below_alloc W (.cells #[.string ⟨#[97]⟩, .int .i64 1, .int .i64 0, .int .i64 0, .int .i64 0, .string ⟨#[98]⟩, .int .i64 1, .int .i64 0, .int .i64 0, .int .i64 0] 44)
  have hlit : CeRow (W.alloc (.cells #[.string ⟨#[97]⟩, .int .i64 1, .int .i64 0, .int .i64 0, .int .i64 0, .string ⟨#[98]⟩, .int .i64 1, .int .i64 0, .int .i64 0, .int .i64 0] 44)) (.slice (some ⟨W.heap.size, 0, none⟩) 2 2) [a8C 97, a8C 98] := (OwnC.lit (W := W) (base := 0) [a8C 97, a8C 98] (by decide) (Nat.zero_le _)).csl.row
  have hll := ln_lit (W.alloc (.cells #[.string ⟨#[97]⟩, .int .i64 1, .int .i64 0, .int .i64 0, .int .i64 0, .string ⟨#[98]⟩, .int .i64 1, .int .i64 0, .int .i64 0, .int .i64 0] 44)) (abL, .slice (some ⟨W.heap.size, 0, none⟩) 2 2)
  rw [World.size_alloc] at hll
  have hb2 := hb1.alloc hb1.size (.cells #[.slice (some ⟨W.heap.size, 0, none⟩) 2 2, .bool false] 39)
  have hfl : Fl ((W.alloc (.cells #[.string ⟨#[97]⟩, .int .i64 1, .int .i64 0, .int .i64 0, .int .i64 0, .string ⟨#[98]⟩, .int .i64 1, .int .i64 0, .int .i64 0, .int .i64 0] 44)).alloc (.cells #[.slice (some ⟨W.heap.size, 0, none⟩) 2 2, .bool false] 39)) (.slice (some ⟨W.heap.size + 1, 0, none⟩) 1 1) [(abL, .slice (some ⟨W.heap.size, 0, none⟩) 2 2)] := by
    refine ⟨hll, fun e he => ?_, ⟨by simp, fun e he => ?_⟩, by simp, fun e he => ?_⟩
    · rw [List.mem_singleton] at he
      subst he
      exact hlit.below (below_alloc _ _)
    · rw [List.mem_singleton] at he
      subst he
      exact ⟨(by decide : [a8C 97, a8C 98].length ≤ 1000), (by decide : ∀ c ∈ [a8C 97, a8C 98], c.tx.size ≤ 1000)⟩
    · rw [List.mem_singleton] at he
      subst he
      exact (by decide : [a8C 97, a8C 98].length ≤ 100)
  have hf := find_any _ _ ⟨#[98]⟩ 0 0 false _ hfl (hT.below hb2) (hW.below hb2)
  rw [ab_found] at hf
  have HF := hid hf
  have HB := hid hb2
  clear hf hb1 hb2 hlit hll hfl hT hW
  go_enter Tryd.func10, Tryd.ntmps10
  go_wp2_with fail
  with_reducible refine HF.out.mono ?_
  rintro e w2 ⟨rfl, hb2⟩
  dsimp only
  have HB2 := hid (HB.out.trans (hb2.mono HB.out.size))
  clear hb2 HF HB
  go_wp2
  go_ret
  exact ⟨rfl, HB2.out⟩
end Go.Proofs.YteebbmmgbjpihaaDoor
