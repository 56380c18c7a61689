/- Layer 6, the reference: the same lines, grids that are alike. -/
import Derived.Test.YtkejoknphnkhnaaDoorGridRfQ
import Derived.StillTailTactics
namespace Go.Proofs.YtkejoknphnkhnaaDoor
open Go.RowKit

/-- Few lines, of few cells. -/
def Sz (lv : List (Ln × Value)) : Prop := lv.length ≤ 1000 ∧ ∀ e ∈ lv, e.1.cs.length ≤ 1000
def SzL (ls : List Ln) : Prop := ls.length ≤ 1000 ∧ ∀ l ∈ ls, l.cs.length ≤ 1000
theorem Sz.of_map {lv : List (Ln × Value)} {ls : List Ln} (h : lv.map Prod.fst = ls) (hs : SzL ls) : Sz lv := by
  subst h
  exact ⟨by have := hs.1; rwa [List.length_map] at this, fun e he => hs.2 _ (List.mem_map.2 ⟨e, he, rfl⟩)⟩
theorem Sm.szl {lv : List (Ln × Value)} (h : Sm lv) : SzL (lv.map Prod.fst) := by
  refine ⟨by rw [List.length_map]; exact h.1, fun l hl => ?_⟩
  obtain ⟨e, he, rfl⟩ := List.mem_map.1 hl
  exact (h.2 e he).1
theorem SzL.set {ls : List Ln} (h : SzL ls) (r : Nat) {l : Ln} (hl : l.cs.length ≤ 1000) : SzL (ls.set r l) := by
  refine ⟨by rw [List.length_set]; exact h.1, fun x hx => ?_⟩
  rcases List.mem_or_eq_of_mem_set hx with hx | rfl
  · exact h.2 x hx
  · exact hl

set_option maxRecDepth 100000 in
set_option maxHeartbeats 1000000 in
theorem same_any (v1 v2 : Value) (l1 l2 : List (Ln × Value)) (W : World) (r1 : LR W v1 l1) (r2 : LR W v2 l2) (c1 : CesOf W l1) (c2 : CesOf W l2) (hm : l1.map Prod.fst = l2.map Prod.fst) (s1 : Sz l1) :
    Calls Tryd.prog 15 #[v1, v2] W fun e w' => e = .returned (.bool true) ∧ Below W.heap.size W w' := by
  have hlen : l1.length = l2.length := by have := congrArg List.length hm; simpa using this
  obtain ⟨A1, k1, rfl, _, h1⟩ := r1
  obtain ⟨A2, k2, rfl, _, h2⟩ := r2
  obtain ⟨n, hn⟩ : ∃ n, l1.length = n := ⟨_, rfl⟩
  rw [← hlen, hn]
  have HN := hid hn
  have HM := hid hm
  have HL2 : Hid (l2.length = n) := by unfold Hid; rw [← hlen, hn]
  have hn1 : n ≤ 1000 := by rw [← hn]; exact s1.1
  have C1 := hid c1
  have C2 := hid c2
  have S1 := hid s1
  clear hn hm hlen c1 c2 s1
  go_enter Tryd.func15, Tryd.ntmps15
  go_wp2
  go_loopw [13] (fun i wr => ∃ k : Nat, k ≤ n ∧ i = .int .i64 k ∧ Below W.heap.size W wr) (fun i _ => n - (intOf i).toNat)
  case atStart => exact ⟨0, by omega, rfl, Below.refl _ _⟩
  case round =>
    obtain ⟨k, hk, rfl, hb⟩ := hrel
    by_cases hlt : k < n
    · have hki : (k : Int) < n := by omega
      have kl1 : k < l1.length := by rw [HN.out]; exact hlt
      have kl2 : k < l2.length := by rw [HL2.out]; exact hlt
      obtain ⟨g1, o1, rfl, hg1, hc1⟩ := h1 (by intro e; rw [e] at kl1; simp at kl1)
      obtain ⟨g2, o2, rfl, hg2, hc2⟩ := h2 (by intro e; rw [e] at kl2; simp at kl2)
      have hx1 := List.getElem?_eq_getElem kl1
      have hx2 := List.getElem?_eq_getElem kl2
      obtain ⟨p0, p1⟩ := hc1 k _ hx1
      obtain ⟨q0, q1⟩ := hc2 k _ hx2
      have p0 := (hb.cell (p := ⟨g1, o1 + k * 2, none⟩) hg1).trans p0
      have p1 := (hb.cell (p := ⟨g1, o1 + k * 2 + 1, none⟩) hg1).trans p1
      have q0 := (hb.cell (p := ⟨g2, o2 + k * 2, none⟩) hg2).trans q0
      have q1 := (hb.cell (p := ⟨g2, o2 + k * 2 + 1, none⟩) hg2).trans q1
      have hf : l1[k].1 = l2[k].1 := by
        have h := congrArg (fun l => l[k]?) HM.out
        simp only [List.getElem?_map, hx1, hx2, Option.map_some] at h
        exact Option.some.inj h
      have e1 := C1.out l1[k] (List.getElem_mem _)
      have e2 := C2.out l2[k] (List.getElem_mem _)
      have z1 := S1.out.2 l1[k] (List.getElem_mem _)
      generalize l1[k] = x1 at *
      generalize l2[k] = x2 at *
      obtain ⟨⟨cs, soft⟩, u1⟩ := x1
      obtain ⟨L2, u2⟩ := x2
      simp only at hf e1 e2 z1 p0 p1 q0 q1
      subst hf
      simp only at e2 q1
      have hS := rSameLine_eq u1 u2 soft cs wr.drew (((e1.below hb)).below (Below.refl _ _).drew) (((e2.below hb)).below (Below.refl _ _).drew) (by omega)
      obtain ⟨B1, d1, rfl⟩ := e1.spell
      obtain ⟨B2, d2, rfl⟩ := e2.spell
      have HS := hid hS
      have HB := hid hb
      clear hx1 hx2 e1 e2 hS hb hc1 hc2 h1 h2
      go_wp2_with fail
      go_still_tail 8, (by kernel_rfl)
      change wpList _ _ _ _ _ wr.drew
      go_wp2_with fail
      with_reducible refine HS.out.mono ?_
      rintro e w2 ⟨rfl, hb2⟩
      dsimp only
      have hb3 := HB.out.trans (((Below.refl _ _).drew.trans hb2).mono HB.out.size)
      have HB3 := hid hb3
      clear hb2 hb3 p0 p1 q0 q1
      go_wp2
      go_roundw
      case rel => exact ⟨k + 1, by omega, by go_num, HB3.out⟩
      case measure => simp [intOf]; omega
    · have hkm : k = n := by omega
      subst hkm
      clear h1 h2
      go_wp2
      go_ret
      exact ⟨rfl, hb⟩
set_option maxRecDepth 100000 in
set_option maxHeartbeats 1000000 in
theorem like_any (cols : Int) (v1 v2 : Value) (l1 l2 : List (Ln × Value)) (W : World) (r1 : LR W v1 l1) (r2 : LR W v2 l2) (c1 : CesOf W l1) (c2 : CesOf W l2) (hm : l1.map Prod.fst = l2.map Prod.fst) (s1 : Sz l1) :
    Calls Tryd.prog 47 #[.agg #[.int .i64 cols, v1], .agg #[.int .i64 cols, v2]] W fun e w' => e = .returned (.bool true) ∧ Below W.heap.size W w' := by
  have hbel : Below W.heap.size W ((W.alloc (.cells #[.int .i64 cols, v1] 24)).alloc (.cells #[.int .i64 cols, v2] 24)) := (below_alloc _ _).alloc (by simp) _
  have hs := same_any v1 v2 l1 l2 _ (r1.below hbel) (r2.below hbel) (c1.below hbel) (c2.below hbel) hm s1
  obtain ⟨A1, k1, rfl⟩ := r1.spell
  obtain ⟨A2, k2, rfl⟩ := r2.spell
  have HS := hid hs
  have HB := hid hbel
  clear hbel hs hm r1 r2
  have hq : (cols == cols) = true := by simp
  go_enter Tryd.func47, Tryd.ntmps47
  go_wp2_with (with_reducible refine HS.out.mono ?_; rintro e w2 ⟨rfl, hb⟩)
  go_ret
  exact ⟨rfl, HB.out.trans (hb.mono HB.out.size)⟩

/-- What is answered is told. -/
def IsPost (W : World) (e : Ending) (w' : World) : Prop := e = .returned (.bool true) ∧ Below W.heap.size W w'
set_option maxRecDepth 100000 in
set_option maxHeartbeats 1000000 in
theorem is_yes (cols : Int) (v1 v2 : Value) (l1 l2 : List (Ln × Value)) (W : World) (r1 : LR W v1 l1) (r2 : LR W v2 l2) (c1 : CesOf W l1) (c2 : CesOf W l2) (hm : l1.map Prod.fst = l2.map Prod.fst) (s1 : Sz l1) :
    Calls Tryd.prog 14 #[.agg #[.int .i64 cols, v1], .int .i64 0, .bool true, .agg #[.int .i64 cols, v2]] W (IsPost W) := by
  have hbel : Below W.heap.size W ((W.alloc (.cells #[.int .i64 cols, v1] 24)).alloc (.cells #[.int .i64 cols, v2] 24)) := (below_alloc _ _).alloc (by simp) _
  have hs := like_any cols v1 v2 l1 l2 _ (r1.below hbel) (r2.below hbel) (c1.below hbel) (c2.below hbel) hm s1
  obtain ⟨A1, k1, rfl⟩ := r1.spell
  obtain ⟨A2, k2, rfl⟩ := r2.spell
  have HS := hid hs
  have HB := hid hbel
  clear hbel hs hm r1 r2
  go_enter Tryd.func14, Tryd.ntmps14
  go_wp2_with (with_reducible refine HS.out.mono ?_; rintro e w2 ⟨rfl, hb⟩)
  go_ret
  exact ⟨rfl, HB.out.trans (hb.mono HB.out.size)⟩
set_option maxRecDepth 100000 in
set_option maxHeartbeats 1000000 in
theorem is_no (cols : Int) (A2 : Option Addr) (n2 k2 : Nat) (W : World) :
    Calls Tryd.prog 14 #[.agg #[.int .i64 0, .slice none 0 0], .int .i64 1, .bool false, .agg #[.int .i64 cols, .slice A2 n2 k2]] W (IsPost W) := by
  have hbel : Below W.heap.size W ((W.alloc (.cells #[.int .i64 0, .slice none 0 0] 24)).alloc (.cells #[.int .i64 cols, .slice A2 n2 k2] 24)) := (below_alloc _ _).alloc (by simp) _
  have hs := fun W' => like_any 0 (.slice none 0 0) (.slice none 0 0) [] [] W' (LR.nil _ _ _) (LR.nil _ _ _) (by intro e h; simp at h) (by intro e h; simp at h) rfl ⟨by simp, by simp⟩
  have HS := hid hs
  have HB := hid hbel
  clear hbel hs
  go_enter Tryd.func14, Tryd.ntmps14
  go_wp2_with (with_reducible refine (HS.out _).mono ?_; rintro e w2 ⟨rfl, hb⟩)
  go_ret
  exact ⟨rfl, HB.out.trans (hb.mono HB.out.size)⟩
theorem like_nil (W : World) : Calls Tryd.prog 47 #[.agg #[.int .i64 0, .slice none 0 0], .agg #[.int .i64 0, .slice none 0 0]] W fun e w' => e = .returned (.bool true) ∧ Below W.heap.size W w' :=
  like_any 0 (.slice none 0 0) (.slice none 0 0) [] [] W (LR.nil _ _ _) (LR.nil _ _ _) (by intro e h; simp at h) (by intro e h; simp at h) rfl ⟨by simp, by simp⟩
end Go.Proofs.YtkejoknphnkhnaaDoor
