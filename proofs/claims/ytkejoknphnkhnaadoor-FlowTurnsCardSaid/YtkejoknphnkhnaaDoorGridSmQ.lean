/- Layer 6, the reference: which lines and grids may be. -/
/- Layer 6, the reference: the same lines, grids that are alike. -/
import Derived.Test.YtkejoknphnkhnaaDoorGridOQ
import Derived.Test.YtkejoknphnkhnaaDoorCellZQ
import Derived.StillTailTactics
namespace Go.Proofs.YtkejoknphnkhnaaDoor
open Go.RowKit

set_option maxRecDepth 100000 in
set_option maxHeartbeats 1000000 in
theorem rFits_any (cols : Int) (v : Value) (l : List Ce) (soft : Bool) (W : World) (hr : CeRow W v l) (ht : ∀ c ∈ l, c.tx.size ≤ 1000) (hn : l.length ≤ 1000000) :
    Calls Tryd.prog 33 #[.agg #[v, .bool soft], .int .i64 cols] W fun e w' => e = .returned (.bool (fitsB cols l)) ∧ Below W.heap.size W w' := by
  have hB := Box.new W 61 #[v, .bool soft]
  have hbel : Below W.heap.size W (W.alloc (.cells #[v, .bool soft] 61)) := below_alloc _ _
  obtain ⟨A, c0, rfl⟩ := hr.spell
  have hF : fitsB cols l = (decide ((l.length : Int) = cols) && (rightsL l && wholeL 1 l)) := rfl
  have HF' := hid hF
  have HN := hid hn
  have HB := hid hB
  have HBL := hid hbel
  obtain ⟨n, hnl⟩ : ∃ n, l.length = n := ⟨_, rfl⟩
  have HL := hid hnl
  rw [hnl] at hB hbel hn HB HBL hF
  rw [hnl]
  clear hF hnl hbel hB
  go_enter Tryd.func33, Tryd.ntmps33
  go_wp2
  go_loopw [10] (fun i wr => ∃ k : Nat, k ≤ n ∧ i = .int .i64 k ∧ Box wr W.heap.size 61 #[.slice A n c0, .bool soft] ∧ Below W.heap.size W wr ∧ FitRel l k) (fun i _ => n - (intOf i).toNat)
  case atStart => exact ⟨0, by omega, rfl, HB.out, HBL.out, FitRel.start l⟩
  case round =>
    obtain ⟨k, hk, rfl, hb, hbl, hrel'⟩ := hrel
    have HREL := hid hrel'
    clear hrel'
    by_cases hlt : k < n
    · have hki : (k : Int) < n := by omega
      have hkl : k < l.length := by rw [HL.out]; exact hlt
      obtain ⟨s1, s2, s3⟩ := HREL.out.step hkl
      have hx := List.getElem?_eq_getElem hkl
      have htx := ht l[k] (List.getElem_mem _)
      have hrb := hr.below hbl
      have hrb' := hrb
      obtain ⟨A', c', hA', _, hcell⟩ := hrb'
      cases hA'
      obtain ⟨g, o, rfl, hg, hcell⟩ := hcell (by intro e; subst e; simp at hkl)
      obtain ⟨p0, p1, p2, p3, p4⟩ := ccells (W := wr) (g := g) (o := o + k * 5) (e := l[k]) (fun i u hu => hcell k l[k] hx i u hu)
      have hri := rright_any l[k] (wr.alloc (.cells l[k].cells 66)) htx
      have hcb := fun W2 (hb2 : Below (wr.alloc (.cells l[k].cells 66)).heap.size (wr.alloc (.cells l[k].cells 66)) W2) => half_any _ l k W2 (hrb.below (Below.behind hb2)) hkl HN.out
      rw [HL.out] at hcb
      have hbx := Box.new wr 66 l[k].cells
      have HRB := hid hrb
      generalize l[k] = x at *
      obtain ⟨tx, wd, fg, bg, fl⟩ := x
      unfold Ce.agg Ce.cells at *
      simp only at *
      have HX := hid hbx
      obtain ⟨⟨a0, a1, a2, a3, a4⟩, _⟩ := hbx.five
      have hb1 := hb.below (below_alloc wr (.cells #[.string tx, .int .i64 wd, .int .i64 fg, .int .i64 bg, .int .i64 fl] 66)) hb.lt
      have hbl1 := hbl.alloc hbl.size (.cells #[.string tx, .int .i64 wd, .int .i64 fg, .int .i64 bg, .int .i64 fl] 66)
      have HB1 := hid hb1
      have HBL1 := hid hbl1
      have HXS := hid hx
      have HHC := hid hcell
      clear hbx hb1 hbl1 hx hcell hrb
      have hblt := hb.lt
      cases h1 : rightB ⟨tx, wd, fg, bg, fl⟩
      · have HE : Hid (fitsB cols l = false) := by unfold Hid; rw [HF'.out, s1 h1, Bool.and_false]
        rw [h1] at hri
        clear s1 s2 s3 h1 hcb
        go_wp2_with fail
        with_reducible refine hri.mono ?_
        rintro e w2 ⟨rfl, hb2⟩
        dsimp only
        go_wp2
        go_ret
        exact ⟨ret_bool HE.out.symm, HBL1.out.trans (hb2.mono HBL1.out.size)⟩
      · rw [h1] at hri
        cases h2 : halfB l k
        · have HE := hid (s3 h1 h2)
          rw [h2] at hcb
          clear s1 s2 s3 h1 h2
          go_wp2_with fail
          with_reducible refine hri.mono ?_
          rintro e w2 ⟨rfl, hb2⟩
          dsimp only
          have d1 := HB1.out.below hb2 (by simp <;> omega)
          obtain ⟨⟨c0, c1⟩, f0, f1⟩ := d1.two
          go_wp2_with fail
          with_reducible refine (hcb _ hb2).mono ?_
          rintro e w3 ⟨rfl, rfl⟩
          dsimp only
          go_wp2
          go_roundw
          case rel => exact ⟨k + 1, by omega, by go_num, d1, HBL1.out.trans (hb2.mono HBL1.out.size), HE.out⟩
          case measure => simp [intOf]; omega
        · have HE : Hid (fitsB cols l = false) := by unfold Hid; rw [HF'.out, s2 h2, Bool.and_false]
          rw [h2] at hcb
          clear s1 s2 s3 h1 h2
          go_wp2_with fail
          with_reducible refine hri.mono ?_
          rintro e w2 ⟨rfl, hb2⟩
          dsimp only
          have d1 := HB1.out.below hb2 (by simp <;> omega)
          obtain ⟨⟨c0, c1⟩, f0, f1⟩ := d1.two
          go_wp2_with fail
          with_reducible refine (hcb _ hb2).mono ?_
          rintro e w3 ⟨rfl, rfl⟩
          dsimp only
          go_wp2
          go_ret
          exact ⟨ret_bool HE.out.symm, HBL1.out.trans (hb2.mono HBL1.out.size)⟩
    · have hkm : k = n := by omega
      subst hkm
      have HE : Hid (fitsB cols l = decide ((k : Int) = cols)) := by
        have h := HREL.out
        rw [← HL.out] at h
        unfold Hid
        rw [HF'.out, h.stop, Bool.and_true, HL.out]
      obtain ⟨⟨c0', c1'⟩, f0', f1'⟩ := hb.two
      by_cases hlen : (k : Int) = cols
      · have hq : ((k : Int) == cols) = true := by simp [hlen]
        have HE2 : Hid (fitsB cols l = true) := by unfold Hid; rw [HE.out]; exact decide_eq_true hlen
        clear hlen
        go_wp2
        go_ret
        exact ⟨ret_bool HE2.out.symm, hbl⟩
      · have hq : ((k : Int) == cols) = false := by simp [hlen]
        have HE2 : Hid (fitsB cols l = false) := by unfold Hid; rw [HE.out]; exact decide_eq_false hlen
        clear hlen
        go_wp2
        go_ret
        exact ⟨ret_bool HE2.out.symm, hbl⟩
set_option maxRecDepth 100000 in
set_option maxHeartbeats 1000000 in
theorem rRight_any (cols : Int) (v : Value) (lv : List (Ln × Value)) (W : World) (hr : LR W v lv) (hc : CesOf W lv) (hs : Sm lv) :
    Calls Tryd.prog 49 #[.agg #[.int .i64 cols, v]] W fun e w' => e = .returned (.bool (sizeB cols lv.length && allB cols lv)) ∧ Below W.heap.size W w' := by
  have hB := Box.new W 24 #[.int .i64 cols, v]
  have hbel : Below W.heap.size W (W.alloc (.cells #[.int .i64 cols, v] 24)) := below_alloc _ _
  obtain ⟨A, c0, rfl⟩ := hr.spell
  obtain ⟨n, hnl⟩ : ∃ n, lv.length = n := ⟨_, rfl⟩
  have HL := hid hnl
  rw [hnl] at hB hbel
  rw [hnl]
  obtain ⟨hs1, hs2⟩ := hs
  rw [hnl] at hs1
  have HB := hid hB
  have HBL := hid hbel
  clear hbel hB hnl
  go_enter Tryd.func49, Tryd.ntmps49
  go_wp2
  go_loopw [8] (fun i wr => ∃ k : Nat, k ≤ n ∧ i = .int .i64 k ∧ Box wr W.heap.size 24 #[.int .i64 cols, .slice A n c0] ∧ Below W.heap.size W wr ∧ allB cols (lv.take k) = true) (fun i _ => n - (intOf i).toNat)
  case atStart => exact ⟨0, by omega, rfl, HB.out, HBL.out, rfl⟩
  case round =>
    obtain ⟨k, hk, rfl, hb, hbl, hrel'⟩ := hrel
    have HREL := hid hrel'
    clear hrel'
    by_cases hlt : k < n
    · have hki : (k : Int) < n := by omega
      have hkl : k < lv.length := by rw [HL.out]; exact hlt
      have hx := List.getElem?_eq_getElem hkl
      obtain ⟨z1, z2⟩ := hs2 lv[k] (List.getElem_mem _)
      have hce := hc lv[k] (List.getElem_mem _)
      obtain ⟨A', c', hA', _, hcell⟩ := hr.below hbl
      cases hA'
      obtain ⟨g, o, rfl, hg, hcell⟩ := hcell (by intro e; subst e; simp at hkl)
      obtain ⟨p0, p1⟩ := hcell k _ hx
      generalize lv[k] = x at *
      obtain ⟨⟨cs, soft⟩, cv⟩ := x
      simp only at *
      have hF := rFits_any cols cv cs soft (wr.alloc (.cells #[cv, .bool soft] 61)) (hce.below (hbl.alloc hbl.size _)) z2 (by omega)
      obtain ⟨cA, cc, rfl⟩ := hce.spell
      have hbx := Box.new wr 61 #[.slice cA cs.length cc, .bool soft]
      have hb1 := hb.below (below_alloc wr (.cells #[.slice cA cs.length cc, .bool soft] 61)) hb.lt
      have hbl1 := hbl.alloc hbl.size (.cells #[.slice cA cs.length cc, .bool soft] 61)
      have HB1 := hid hb1
      have HBL1 := hid hbl1
      have HX := hid hx
      obtain ⟨⟨a0, a1⟩, _⟩ := hbx.two
      obtain ⟨⟨b0, b1⟩, _⟩ := hb1.two
      have hblt := hb.lt
      clear hbx hb1 hbl1 hx hcell hce
      cases h1 : fitsB cols cs
      · rw [h1] at hF
        have HE := hid (allB_no HX.out h1)
        clear h1
        go_wp2_with (with_reducible refine hF.mono ?_; rintro e w2 ⟨rfl, hb2⟩)
        go_ret
        exact ⟨ret_bool (by rw [HE.out, Bool.and_false]), HBL1.out.trans (hb2.mono HBL1.out.size)⟩
      · rw [h1] at hF
        have HE := hid (allB_step HREL.out HX.out h1)
        clear h1
        go_wp2_with (with_reducible refine hF.mono ?_; rintro e w2 ⟨rfl, hb2⟩)
        go_roundw
        case rel => exact ⟨k + 1, by omega, by go_num, HB1.out.below hb2 (by simp <;> omega), HBL1.out.trans (hb2.mono HBL1.out.size), HE.out⟩
        case measure => simp [intOf]; omega
    · have hkm : k = n := by omega
      subst hkm
      have HE : Hid (allB cols lv = true) := by
        have h := HREL.out
        rw [← HL.out] at h
        exact allB_stop h
      obtain ⟨⟨g0, g1⟩, _⟩ := hb.two
      have hc : cols < 1 ∨ (1 ≤ cols ∧ 80 < cols) ∨ ((1 ≤ cols ∧ cols ≤ 80) ∧ k < 1) ∨ ((1 ≤ cols ∧ cols ≤ 80) ∧ 1 ≤ k ∧ 50 < k) ∨ ((1 ≤ cols ∧ cols ≤ 80) ∧ 1 ≤ k ∧ k ≤ 50) := by omega
      rcases hc with h | h | h | h | h
      · have HR := hid (sizeB_f (cols := cols) (rows := k) (by omega))
        have hd : decide (1 ≤ cols) = false := decide_eq_false (by omega)
        go_wp2
        go_ret
        exact ⟨ret_bool (by rw [HR.out]; rfl), hbl⟩
      · have HR := hid (sizeB_f (cols := cols) (rows := k) (by omega))
        obtain ⟨h1, h2⟩ := h
        have hd : decide (cols ≤ 80) = false := decide_eq_false (by omega)
        go_wp2
        go_ret
        exact ⟨ret_bool (by rw [HR.out]; rfl), hbl⟩
      · have HR := hid (sizeB_f (cols := cols) (rows := k) (by omega))
        obtain ⟨⟨h1, h2⟩, h3⟩ := h
        have hd : decide ((1 : Int) ≤ (k : Int)) = false := decide_eq_false (by omega)
        go_wp2
        go_ret
        exact ⟨ret_bool (by rw [HR.out]; rfl), hbl⟩
      · have HR := hid (sizeB_f (cols := cols) (rows := k) (by omega))
        obtain ⟨⟨h1, h2⟩, h3, h4⟩ := h
        have h3' : (1 : Int) ≤ (k : Int) := by omega
        have hd : decide ((k : Int) ≤ 50) = false := decide_eq_false (by omega)
        go_wp2
        go_ret
        exact ⟨ret_bool (by rw [HR.out]; rfl), hbl⟩
      · have HR := hid (sizeB_t (cols := cols) (rows := k) (by omega))
        obtain ⟨⟨h1, h2⟩, h3, h4⟩ := h
        have h3' : (1 : Int) ≤ (k : Int) := by omega
        have h4' : (k : Int) ≤ 50 := by omega
        go_wp2
        go_ret
        exact ⟨ret_bool (by rw [HR.out, HE.out]; rfl), hbl⟩

set_option maxRecDepth 100000 in
set_option maxHeartbeats 1000000 in
theorem place_any (cols row col : Int) (v : Value) (lv : List (Ln × Value)) (W : World) (hr : LR W v lv) (hc : CesOf W lv) (hs : Sm lv) :
    Calls Tryd.prog 17 #[.agg #[.int .i64 cols, v], .int .i64 row, .int .i64 col] W fun e w' => e = .returned (.bool ((sizeB cols lv.length && allB cols lv) && (rowB row lv.length && colB col cols))) ∧ Below W.heap.size W w' := by
  have hri := rRight_any cols v lv _ (hr.below (below_alloc W (.cells #[.int .i64 cols, v] 24))) (hc.below (below_alloc W (.cells #[.int .i64 cols, v] 24))) hs
  have hB := Box.new W 24 #[.int .i64 cols, v]
  obtain ⟨A, c0, rfl⟩ := hr.spell
  obtain ⟨n, hnl⟩ : ∃ n, lv.length = n := ⟨_, rfl⟩
  rw [hnl] at hri hB ⊢
  have HB := hid hB
  generalize (sizeB cols n && allB cols lv) = R at *
  have HRI := hid hri
  clear hri hB hr hc hs hnl
  have hbelow : ∀ w2, Below (W.alloc (.cells #[.int .i64 cols, .slice A n c0] 24)).heap.size (W.alloc (.cells #[.int .i64 cols, .slice A n c0] 24)) w2 → Below W.heap.size W w2 := fun w2 h => Below.behind h
  cases R
  · go_enter Tryd.func17, Tryd.ntmps17
    go_wp2_with (with_reducible refine HRI.out.mono ?_; rintro e w2 ⟨rfl, hb⟩)
    go_ret
    exact ⟨rfl, hbelow _ hb⟩
  · rw [Bool.true_and]
    have h4 : row < 0 ∨ (0 ≤ row ∧ ¬ row < n) ∨ ((0 ≤ row ∧ row < n) ∧ col < 0) ∨ ((0 ≤ row ∧ row < n) ∧ 0 ≤ col ∧ ¬ col < cols) ∨ ((0 ≤ row ∧ row < n) ∧ 0 ≤ col ∧ col < cols) := by omega
    rcases h4 with h | h | h | h | h
    · have HE : Hid ((rowB row n && colB col cols) = false) := by unfold Hid rowB; rw [decide_eq_false (by omega), Bool.false_and]
      have hd : decide (0 ≤ row) = false := decide_eq_false (by omega)
      go_enter Tryd.func17, Tryd.ntmps17
      go_wp2_with (with_reducible refine HRI.out.mono ?_; rintro e w2 ⟨rfl, hb⟩; obtain ⟨⟨k0, k1⟩, _⟩ := (HB.out.below hb (by simp)).two)
      go_ret
      exact ⟨ret_bool (by rw [HE.out]), hbelow _ hb⟩
    · have HE : Hid ((rowB row n && colB col cols) = false) := by unfold Hid rowB; rw [decide_eq_false (by omega), Bool.false_and]
      obtain ⟨h1, h2⟩ := h
      have hd : decide (row < (n : Int)) = false := decide_eq_false (by omega)
      go_enter Tryd.func17, Tryd.ntmps17
      go_wp2_with (with_reducible refine HRI.out.mono ?_; rintro e w2 ⟨rfl, hb⟩; obtain ⟨⟨k0, k1⟩, _⟩ := (HB.out.below hb (by simp)).two)
      go_ret
      exact ⟨ret_bool (by rw [HE.out]), hbelow _ hb⟩
    · have HE : Hid ((rowB row n && colB col cols) = false) := by unfold Hid colB; rw [decide_eq_false (p := 0 ≤ col ∧ col < cols) (by omega), Bool.and_false]
      obtain ⟨⟨h1, h2⟩, h3⟩ := h
      have hd : decide (0 ≤ col) = false := decide_eq_false (by omega)
      go_enter Tryd.func17, Tryd.ntmps17
      go_wp2_with (with_reducible refine HRI.out.mono ?_; rintro e w2 ⟨rfl, hb⟩; obtain ⟨⟨k0, k1⟩, _⟩ := (HB.out.below hb (by simp)).two)
      go_ret
      exact ⟨ret_bool (by rw [HE.out]), hbelow _ hb⟩
    · have HE : Hid ((rowB row n && colB col cols) = false) := by unfold Hid colB; rw [decide_eq_false (p := 0 ≤ col ∧ col < cols) (by omega), Bool.and_false]
      obtain ⟨⟨h1, h2⟩, h3, h4⟩ := h
      have hd : decide (col < cols) = false := decide_eq_false (by omega)
      go_enter Tryd.func17, Tryd.ntmps17
      go_wp2_with (with_reducible refine HRI.out.mono ?_; rintro e w2 ⟨rfl, hb⟩; obtain ⟨⟨k0, k1⟩, _⟩ := (HB.out.below hb (by simp)).two)
      go_ret
      exact ⟨ret_bool (by rw [HE.out]), hbelow _ hb⟩
    · have HE : Hid ((rowB row n && colB col cols) = true) := by unfold Hid rowB colB; rw [decide_eq_true (p := 0 ≤ col ∧ col < cols) (by omega), decide_eq_true (by omega)]; rfl
      obtain ⟨⟨h1, h2⟩, h3, h4⟩ := h
      go_enter Tryd.func17, Tryd.ntmps17
      go_wp2_with (with_reducible refine HRI.out.mono ?_; rintro e w2 ⟨rfl, hb⟩; obtain ⟨⟨k0, k1⟩, _⟩ := (HB.out.below hb (by simp)).two)
      go_ret
      exact ⟨ret_bool (by rw [HE.out]), hbelow _ hb⟩
end Go.Proofs.YtkejoknphnkhnaaDoor

namespace Go.Proofs.YtkejoknphnkhnaaDoor
open Go.RowKit

/-- Few lines, of few cells. -/
def Sz (lv : List (Ln × Value)) : Prop := lv.length ≤ 1000 ∧ ∀ e ∈ lv, e.1.cs.length ≤ 1000
def SzL (ls : List Ln) : Prop := ls.length ≤ 1000 ∧ ∀ l ∈ ls, l.cs.length ≤ 1000
theorem Sz.of_map {lv : List (Ln × Value)} {ls : List Ln} (h : lv.map Prod.fst = ls) (hs : SzL ls) : Sz lv := by
  subst h
  exact ⟨by have := hs.1; rwa [List.length_map] at this, fun e he => hs.2 _ (List.mem_map.2 ⟨e, he, rfl⟩)⟩
theorem Sm.szl {lv : List (Ln × Value)} (h : Sm lv) : SzL (lv.map Prod.fst) := by
  refine ⟨by rw [List.length_map]; exact h.1, fun l hl => ?_⟩
  obtain ⟨e, he, rfl⟩ := List.mem_map.1 hl
  exact (h.2 e he).1
theorem SzL.set {ls : List Ln} (h : SzL ls) (r : Nat) {l : Ln} (hl : l.cs.length ≤ 1000) : SzL (ls.set r l) := by
  refine ⟨by rw [List.length_set]; exact h.1, fun x hx => ?_⟩
  rcases List.mem_or_eq_of_mem_set hx with hx | rfl
  · exact h.2 x hx
  · exact hl

set_option maxRecDepth 100000 in
set_option maxHeartbeats 1000000 in
theorem same_any (v1 v2 : Value) (l1 l2 : List (Ln × Value)) (W : World) (r1 : LR W v1 l1) (r2 : LR W v2 l2) (c1 : CesOf W l1) (c2 : CesOf W l2) (hm : l1.map Prod.fst = l2.map Prod.fst) (s1 : Sz l1) :
    Calls Tryd.prog 15 #[v1, v2] W fun e w' => e = .returned (.bool true) ∧ Below W.heap.size W w' := by
  have hlen : l1.length = l2.length := by have := congrArg List.length hm; simpa using this
  obtain ⟨A1, k1, rfl, _, h1⟩ := r1
  obtain ⟨A2, k2, rfl, _, h2⟩ := r2
  obtain ⟨n, hn⟩ : ∃ n, l1.length = n := ⟨_, rfl⟩
  rw [← hlen, hn]
  have HN := hid hn
  have HM := hid hm
  have HL2 : Hid (l2.length = n) := by unfold Hid; rw [← hlen, hn]
  have hn1 : n ≤ 1000 := by rw [← hn]; exact s1.1
  have C1 := hid c1
  have C2 := hid c2
  have S1 := hid s1
  clear hn hm hlen c1 c2 s1
  go_enter Tryd.func15, Tryd.ntmps15
  go_wp2
  go_loopw [13] (fun i wr => ∃ k : Nat, k ≤ n ∧ i = .int .i64 k ∧ Below W.heap.size W wr) (fun i _ => n - (intOf i).toNat)
  case atStart => exact ⟨0, by omega, rfl, Below.refl _ _⟩
  case round =>
    obtain ⟨k, hk, rfl, hb⟩ := hrel
    by_cases hlt : k < n
    · have hki : (k : Int) < n := by omega
      have kl1 : k < l1.length := by rw [HN.out]; exact hlt
      have kl2 : k < l2.length := by rw [HL2.out]; exact hlt
      obtain ⟨g1, o1, rfl, hg1, hc1⟩ := h1 (by intro e; rw [e] at kl1; simp at kl1)
      obtain ⟨g2, o2, rfl, hg2, hc2⟩ := h2 (by intro e; rw [e] at kl2; simp at kl2)
      have hx1 := List.getElem?_eq_getElem kl1
      have hx2 := List.getElem?_eq_getElem kl2
      obtain ⟨p0, p1⟩ := hc1 k _ hx1
      obtain ⟨q0, q1⟩ := hc2 k _ hx2
      have p0 := (hb.cell (p := ⟨g1, o1 + k * 2, none⟩) hg1).trans p0
      have p1 := (hb.cell (p := ⟨g1, o1 + k * 2 + 1, none⟩) hg1).trans p1
      have q0 := (hb.cell (p := ⟨g2, o2 + k * 2, none⟩) hg2).trans q0
      have q1 := (hb.cell (p := ⟨g2, o2 + k * 2 + 1, none⟩) hg2).trans q1
      have hf : l1[k].1 = l2[k].1 := by
        have h := congrArg (fun l => l[k]?) HM.out
        simp only [List.getElem?_map, hx1, hx2, Option.map_some] at h
        exact Option.some.inj h
      have e1 := C1.out l1[k] (List.getElem_mem _)
      have e2 := C2.out l2[k] (List.getElem_mem _)
      have z1 := S1.out.2 l1[k] (List.getElem_mem _)
      generalize l1[k] = x1 at *
      generalize l2[k] = x2 at *
      obtain ⟨⟨cs, soft⟩, u1⟩ := x1
      obtain ⟨L2, u2⟩ := x2
      simp only at hf e1 e2 z1 p0 p1 q0 q1
      subst hf
      simp only at e2 q1
      have hS := rSameLine_eq u1 u2 soft cs wr.drew (((e1.below hb)).below (Below.refl _ _).drew) (((e2.below hb)).below (Below.refl _ _).drew) (by omega)
      obtain ⟨B1, d1, rfl⟩ := e1.spell
      obtain ⟨B2, d2, rfl⟩ := e2.spell
      have HS := hid hS
      have HB := hid hb
      clear hx1 hx2 e1 e2 hS hb hc1 hc2 h1 h2
      go_wp2_with fail
      go_still_tail 8, (by kernel_rfl)
      change wpList _ _ _ _ _ wr.drew
      go_wp2_with fail
      with_reducible refine HS.out.mono ?_
      rintro e w2 ⟨rfl, hb2⟩
      dsimp only
      have hb3 := HB.out.trans (((Below.refl _ _).drew.trans hb2).mono HB.out.size)
      have HB3 := hid hb3
      clear hb2 hb3 p0 p1 q0 q1
      go_wp2
      go_roundw
      case rel => exact ⟨k + 1, by omega, by go_num, HB3.out⟩
      case measure => simp [intOf]; omega
    · have hkm : k = n := by omega
      subst hkm
      clear h1 h2
      go_wp2
      go_ret
      exact ⟨rfl, hb⟩
set_option maxRecDepth 100000 in
set_option maxHeartbeats 1000000 in
theorem like_any (cols : Int) (v1 v2 : Value) (l1 l2 : List (Ln × Value)) (W : World) (r1 : LR W v1 l1) (r2 : LR W v2 l2) (c1 : CesOf W l1) (c2 : CesOf W l2) (hm : l1.map Prod.fst = l2.map Prod.fst) (s1 : Sz l1) :
    Calls Tryd.prog 47 #[.agg #[.int .i64 cols, v1], .agg #[.int .i64 cols, v2]] W fun e w' => e = .returned (.bool true) ∧ Below W.heap.size W w' := by
  have hbel : Below W.heap.size W ((W.alloc (.cells #[.int .i64 cols, v1] 24)).alloc (.cells #[.int .i64 cols, v2] 24)) := (below_alloc _ _).alloc (by simp) _
  have hs := same_any v1 v2 l1 l2 _ (r1.below hbel) (r2.below hbel) (c1.below hbel) (c2.below hbel) hm s1
  obtain ⟨A1, k1, rfl⟩ := r1.spell
  obtain ⟨A2, k2, rfl⟩ := r2.spell
  have HS := hid hs
  have HB := hid hbel
  clear hbel hs hm r1 r2
  have hq : (cols == cols) = true := by simp
  go_enter Tryd.func47, Tryd.ntmps47
  go_wp2_with (with_reducible refine HS.out.mono ?_; rintro e w2 ⟨rfl, hb⟩)
  go_ret
  exact ⟨rfl, HB.out.trans (hb.mono HB.out.size)⟩

/-- What is answered is told. -/
def IsPost (W : World) (e : Ending) (w' : World) : Prop := e = .returned (.bool true) ∧ Below W.heap.size W w'
set_option maxRecDepth 100000 in
set_option maxHeartbeats 1000000 in
theorem is_yes (cols : Int) (v1 v2 : Value) (l1 l2 : List (Ln × Value)) (W : World) (r1 : LR W v1 l1) (r2 : LR W v2 l2) (c1 : CesOf W l1) (c2 : CesOf W l2) (hm : l1.map Prod.fst = l2.map Prod.fst) (s1 : Sz l1) :
    Calls Tryd.prog 14 #[.agg #[.int .i64 cols, v1], .int .i64 0, .bool true, .agg #[.int .i64 cols, v2]] W (IsPost W) := by
  have hbel : Below W.heap.size W ((W.alloc (.cells #[.int .i64 cols, v1] 24)).alloc (.cells #[.int .i64 cols, v2] 24)) := (below_alloc _ _).alloc (by simp) _
  have hs := like_any cols v1 v2 l1 l2 _ (r1.below hbel) (r2.below hbel) (c1.below hbel) (c2.below hbel) hm s1
  obtain ⟨A1, k1, rfl⟩ := r1.spell
  obtain ⟨A2, k2, rfl⟩ := r2.spell
  have HS := hid hs
  have HB := hid hbel
  clear hbel hs hm r1 r2
  go_enter Tryd.func14, Tryd.ntmps14
  go_wp2_with (with_reducible refine HS.out.mono ?_; rintro e w2 ⟨rfl, hb⟩)
  go_ret
  exact ⟨rfl, HB.out.trans (hb.mono HB.out.size)⟩
set_option maxRecDepth 100000 in
set_option maxHeartbeats 1000000 in
theorem is_no (cols : Int) (A2 : Option Addr) (n2 k2 : Nat) (W : World) :
    Calls Tryd.prog 14 #[.agg #[.int .i64 0, .slice none 0 0], .int .i64 1, .bool false, .agg #[.int .i64 cols, .slice A2 n2 k2]] W (IsPost W) := by
  have hbel : Below W.heap.size W ((W.alloc (.cells #[.int .i64 0, .slice none 0 0] 24)).alloc (.cells #[.int .i64 cols, .slice A2 n2 k2] 24)) := (below_alloc _ _).alloc (by simp) _
  have hs := fun W' => like_any 0 (.slice none 0 0) (.slice none 0 0) [] [] W' (LR.nil _ _ _) (LR.nil _ _ _) (by intro e h; simp at h) (by intro e h; simp at h) rfl ⟨by simp, by simp⟩
  have HS := hid hs
  have HB := hid hbel
  clear hbel hs
  go_enter Tryd.func14, Tryd.ntmps14
  go_wp2_with (with_reducible refine (HS.out _).mono ?_; rintro e w2 ⟨rfl, hb⟩)
  go_ret
  exact ⟨rfl, HB.out.trans (hb.mono HB.out.size)⟩
theorem like_nil (W : World) : Calls Tryd.prog 47 #[.agg #[.int .i64 0, .slice none 0 0], .agg #[.int .i64 0, .slice none 0 0]] W fun e w' => e = .returned (.bool true) ∧ Below W.heap.size W w' :=
  like_any 0 (.slice none 0 0) (.slice none 0 0) [] [] W (LR.nil _ _ _) (LR.nil _ _ _) (by intro e h; simp at h) (by intro e h; simp at h) rfl ⟨by simp, by simp⟩
end Go.Proofs.YtkejoknphnkhnaaDoor
