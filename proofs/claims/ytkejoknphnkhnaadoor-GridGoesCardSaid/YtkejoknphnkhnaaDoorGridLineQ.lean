/- Layer 6, the statements' helpers: a line cut short. Made by wip/gen/gridLine.py. -/
import Derived.Test.YtkejoknphnkhnaaDoorGridAQ
namespace Go.Proofs.YtkejoknphnkhnaaDoor
open Go.RowKit

def cutC (c : Ce) : Ce := ⟨c.tx.extract 0 20, c.wd, c.fg, c.bg, c.fl⟩
def lineG (l : List Ce) : List Ce := (l.take 82).map cutC
theorem cutC_size (c : Ce) : (cutC c).tx.size ≤ 20 := by
  unfold cutC
  simp only
  rw [size_extract']
  omega
theorem lineG_length (l : List Ce) : (lineG l).length = min 82 l.length := by
  unfold lineG
  rw [List.length_map, List.length_take]
theorem lineG_size {l : List Ce} : ∀ c ∈ lineG l, c.tx.size ≤ 20 := by
  intro c hc
  obtain ⟨x, _, rfl⟩ := List.mem_map.1 hc
  exact cutC_size x
theorem cutC_short {tx : ByteArray} (h : tx.size ≤ 20) : tx.extract 0 20 = tx := by
  apply bytes_ext
  · rw [size_extract']; omega
  · intro i hi
    rw [size_extract'] at hi
    rw [byteAt_extract _ _ _ _ (by omega), Nat.zero_add]
theorem take_cut {l : List Ce} {k : Nat} {c : Ce} (h : l[k]? = some c) : (l.take (k + 1)).map cutC = (l.take k).map cutC ++ [cutC c] := by
  obtain ⟨hk, rfl⟩ := List.getElem?_eq_some_iff.1 h
  rw [List.take_succ_eq_append_getElem hk, List.map_append]
  rfl
theorem ce_lit (W : World) (e : Ce) : CeRow (W.alloc (.cells e.cells 66)) (.slice (some ⟨W.heap.size, 0, none⟩) 1 1) [e] := by
  refine ⟨_, _, rfl, Nat.le_refl _, fun _ => ⟨W.heap.size, 0, rfl, by simp, fun j x hj i u hu => ?_⟩⟩
  have hb := Box.new W 66 e.cells
  cases j with
  | zero =>
    simp at hj
    subst hj
    rw [show 0 + 0 * 5 + i = i by omega, hb.cell]
    exact hu
  | succ j => simp at hj
def LineRel (W wr : World) (l : List Ce) (soft : Bool) (k : Nat) : Prop :=
  ∃ ov, Box wr (W.heap.size + 1 + 1) 61 #[ov, .bool soft] ∧ OwnC wr W.heap.size ov ((l.take k).map cutC)

set_option maxRecDepth 100000 in
set_option maxHeartbeats 2000000 in
theorem line_m (v : Value) (l : List Ce) (soft : Bool) (m : Nat) (W : World) (hr : CeRow W v l) (hn : (l.length : Int) ≤ 9223372036854775807) (ht : ∀ c ∈ l, (c.tx.size : Int) ≤ 9223372036854775807) (hm : (l.length ≤ 82 ∧ m = l.length) ∨ (82 < l.length ∧ m = 82)) :
    Calls Tryd.prog 36 #[.agg #[v, .bool soft]] W (LinePost W (lineG l) soft) := by
  have hr' := hr
  obtain ⟨A, c0, rfl, hcap, hA⟩ := hr
  obtain ⟨n, hnl⟩ : ∃ n, l.length = n := ⟨_, rfl⟩
  have HNL := hid hnl
  rw [hnl] at hcap hn hm ⊢
  have b0 := (((Bxs.nil W).alloc 61 #[.slice A n c0, .bool soft]).alloc 61 #[.slice none 0 0, .bool false]).alloc 61 #[.slice none 0 0, .bool soft]
  simp only [World.size_alloc, List.nil_append, List.cons_append] at b0
  have h0 : Below W.heap.size W (((W.alloc (.cells #[.slice A n c0, .bool soft] 61)).alloc (.cells #[.slice none 0 0, .bool false] 61)).alloc (.cells #[.slice none 0 0, .bool soft] 61)) := ((below_alloc _ _).alloc (by simp) _).alloc (by simp <;> omega) _
  have BX0 := hid b0
  have H0 := hid h0
  have HR := hid hr'
  have HMM := hid hm
  have hml : m ≤ n := by omega
  have hm82 : m ≤ 82 := by omega
  have hlg : lineG l = (l.take m).map cutC := by
    unfold lineG
    rcases hm with ⟨h1, h2⟩ | ⟨h1, rfl⟩
    · rw [h2]
      rw [List.take_of_length_le (by rw [HNL.out]; exact h1), List.take_of_length_le (by rw [HNL.out]; exact Nat.le_refl _)]
    · rfl
  have HLG := hid hlg
  have htt := hid ht
  have s0 : (((W.alloc (.cells #[.slice A n c0, .bool soft] 61)).alloc (.cells #[.slice none 0 0, .bool false] 61)).alloc (.cells #[.slice none 0 0, .bool soft] 61)).heap.size = W.heap.size + 1 + 1 + 1 := by simp
  have S0 := hid s0
  clear b0 h0 hr' hlg hm ht s0 hnl
  rcases HMM.out with ⟨h1, h2⟩ | ⟨h1, h2⟩
  · subst h2
    have hi1 : (m : Int) ≤ 82 := by omega
    go_enter Tryd.func36, Tryd.ntmps36
    go_wp2
    go_loopw [17] (fun i wr => ∃ k : Nat, k ≤ m ∧ i = .int .i64 k ∧ LineRel W wr l soft k ∧ Box wr (W.heap.size + 1) 61 #[.slice none 0 0, .bool false] ∧ W.heap.size + 1 + 1 + 1 ≤ wr.heap.size ∧ Below W.heap.size W wr) (fun i _ => m - (intOf i).toNat)
    case atStart => exact ⟨0, by omega, rfl, ⟨_, BX0.out.get 2 rfl, OwnC.nil _ _⟩, BX0.out.get 1 rfl, by rw [S0.out]; exact Nat.le_refl _, H0.out⟩
    case round =>
      obtain ⟨k, hk, rfl, ⟨ov, hbo, hown⟩, hbz, hsz, hbr⟩ := hrel
      obtain ⟨oA, oc, rfl⟩ := hown.spell
      have hlo : ((l.take k).map cutC).length = k := by rw [List.length_map, List.length_take, HNL.out]; omega
      rw [hlo] at hown hbo
      by_cases hlt : k < m
      · have hki : (k : Int) < m := by omega
        have hkl : k < l.length := by rw [HNL.out]; omega
        obtain ⟨g, o, rfl, hg, hcell⟩ := hA (by intro e; rw [e] at hkl; simp at hkl)
        have hx := List.getElem?_eq_getElem hkl
        have hts := htt.out l[k] (List.getElem_mem _)
        have hstep := take_cut hx
        obtain ⟨p0, p1, p2, p3, p4⟩ := ccells (W := wr) (g := g) (o := o + k * 5) (e := l[k]) (fun i u hu => (hbr.cell (p := ⟨g, o + k * 5 + i, none⟩) hg).trans (hcell k l[k] hx i u hu))
        generalize l[k] = x at *
        obtain ⟨tx, wd, fg, bg, fl⟩ := x
        simp only at p0 p1 p2 p3 p4 hts
        obtain ⟨⟨k0, k1⟩, f0, f1⟩ := hbo.two
        have hne : ¬ W.heap.size + 1 + 1 = wr.heap.size := by omega
        have hltb : W.heap.size + 1 + 1 < wr.heap.size := by omega
        have HX := hid hx
        have HLO := hid hlo
        have HOWN := hid hown
        have HBO := hid hbo
        have HBZ := hid hbz
        have HBR := hid hbr
        have HST := hid hstep
        clear hx hlo hown hbo hbz hbr hstep hcell hA
        by_cases hs : tx.size ≤ 20
        · have hs' : (tx.size : Int) ≤ 20 := by omega
          have HC : Hid (cutC ⟨tx, wd, fg, bg, fl⟩ = ⟨tx, wd, fg, bg, fl⟩) := by unfold Hid cutC; rw [cutC_short hs]
          clear hs
          have hwl : Below wr.heap.size wr ((wr.alloc (.cells #[.string tx, .int .i64 wd, .int .i64 fg, .int .i64 bg, .int .i64 fl] 66)).alloc (.cells #[.string tx, .int .i64 wd, .int .i64 fg, .int .i64 bg, .int .i64 fl] 66)) := (below_alloc _ _).alloc (by simp) _
          have hrow := ce_lit (wr.alloc (.cells #[.string tx, .int .i64 wd, .int .i64 fg, .int .i64 bg, .int .i64 fl] 66)) ⟨tx, wd, fg, bg, fl⟩
          rw [World.size_alloc] at hrow
          unfold Ce.cells at hrow
          simp only at hrow
          have HROW := hid hrow
          have HWL := hid hwl
          clear hrow hwl
          go_wp2_with (at_builtin; refine wpList_append_ce rfl _ _ rfl W.heap.size _ _ _ [⟨tx, wd, fg, bg, fl⟩] rfl (HOWN.out.kept HWL.out) rfl HROW.out (by rw [HLO.out]; simp; omega) (by simp; have := HBR.out.size; omega) ?_; intro v' w' h1 h2; obtain ⟨A', c', hv'⟩ := h1.spell; rw [List.length_append, HLO.out, List.length_singleton] at hv'; subst hv'; have H1 := hid h1; have H2 := hid h2; clear h1 h2; have hb7 := (HBO.out.below HWL.out HBO.out.lt).grown H2.out (OwnC.not_box (HOWN.out.kept HWL.out) (HBO.out.below HWL.out HBO.out.lt) (by decide)); obtain ⟨⟨m0, m1⟩, n0, n1⟩ := hb7.two; have HB7 := hid hb7; clear hb7)
          go_roundw
          case rel =>
            have hst := HST.out
            rw [HC.out] at hst
            refine ⟨k + 1, by omega, by go_num, ⟨_, HB7.out.set (i := 0) _, ?_⟩, ?_, ?_, ?_⟩
            · rw [hst]
              exact H1.out.set HB7.out (by decide) _
            · exact (((HBZ.out.below HWL.out HBZ.out.lt).grown H2.out (OwnC.not_box (HOWN.out.kept HWL.out) (HBZ.out.below HWL.out HBZ.out.lt) (by decide)))).other (by omega) _
            · have := H2.out.size
              have := HWL.out.size
              rw [size_set]
              omega
            · have hlt7 : ∀ q, (Value.slice oA k oc).ownBlock = some q → W.heap.size ≤ q := fun q hq => (World.ownsRow.lt (HOWN.out.kept HWL.out) q hq).1
              exact (((HBR.out.trans (HWL.out.mono HBR.out.size)).trans ((Below.refl W.heap.size _).grown H2.out (by have := HBR.out.size; have := HWL.out.size; omega) hlt7))).setCell (p := ⟨W.heap.size + 1 + 1, 0, none⟩) (by show W.heap.size ≤ W.heap.size + 1 + 1; omega) _
          case measure => simp [intOf]; omega
        · have hs' : (20 : Int) < tx.size := by omega
          have hs2 : (20 : Int) ≤ tx.size := by omega
          have hyy := fun W' : World => (rfl : W' = W')
          clear hyy
          obtain ⟨y, hy⟩ : ∃ y, tx.extract 0 20 = y := ⟨_, rfl⟩
          have HC : Hid (cutC ⟨tx, wd, fg, bg, fl⟩ = ⟨y, wd, fg, bg, fl⟩) := by unfold Hid cutC; rw [← hy]
          clear hs
          have hwl : Below wr.heap.size wr ((wr.alloc (.cells #[.string y, .int .i64 wd, .int .i64 fg, .int .i64 bg, .int .i64 fl] 66)).alloc (.cells #[.string y, .int .i64 wd, .int .i64 fg, .int .i64 bg, .int .i64 fl] 66)) := (below_alloc _ _).alloc (by simp) _
          have hrow := ce_lit (wr.alloc (.cells #[.string y, .int .i64 wd, .int .i64 fg, .int .i64 bg, .int .i64 fl] 66)) ⟨y, wd, fg, bg, fl⟩
          rw [World.size_alloc] at hrow
          unfold Ce.cells at hrow
          simp only at hrow
          have HROW := hid hrow
          have HWL := hid hwl
          clear hrow hwl
          go_wp2_with (at_builtin; refine wpList_append_ce rfl _ _ rfl W.heap.size _ _ _ [⟨y, wd, fg, bg, fl⟩] rfl (HOWN.out.kept HWL.out) rfl HROW.out (by rw [HLO.out]; simp; omega) (by simp; have := HBR.out.size; omega) ?_; intro v' w' h1 h2; obtain ⟨A', c', hv'⟩ := h1.spell; rw [List.length_append, HLO.out, List.length_singleton] at hv'; subst hv'; have H1 := hid h1; have H2 := hid h2; clear h1 h2; have hb7 := (HBO.out.below HWL.out HBO.out.lt).grown H2.out (OwnC.not_box (HOWN.out.kept HWL.out) (HBO.out.below HWL.out HBO.out.lt) (by decide)); obtain ⟨⟨m0, m1⟩, n0, n1⟩ := hb7.two; have HB7 := hid hb7; clear hb7)
          go_roundw
          case rel =>
            have hst := HST.out
            rw [HC.out] at hst
            refine ⟨k + 1, by omega, by go_num, ⟨_, HB7.out.set (i := 0) _, ?_⟩, ?_, ?_, ?_⟩
            · rw [hst]
              exact H1.out.set HB7.out (by decide) _
            · exact (((HBZ.out.below HWL.out HBZ.out.lt).grown H2.out (OwnC.not_box (HOWN.out.kept HWL.out) (HBZ.out.below HWL.out HBZ.out.lt) (by decide)))).other (by omega) _
            · have := H2.out.size
              have := HWL.out.size
              rw [size_set]
              omega
            · have hlt7 : ∀ q, (Value.slice oA k oc).ownBlock = some q → W.heap.size ≤ q := fun q hq => (World.ownsRow.lt (HOWN.out.kept HWL.out) q hq).1
              exact (((HBR.out.trans (HWL.out.mono HBR.out.size)).trans ((Below.refl W.heap.size _).grown H2.out (by have := HBR.out.size; have := HWL.out.size; omega) hlt7))).setCell (p := ⟨W.heap.size + 1 + 1, 0, none⟩) (by show W.heap.size ≤ W.heap.size + 1 + 1; omega) _
          case measure => simp [intOf]; omega
      · have hkm : k = m := by omega
        subst hkm
        obtain ⟨⟨k0, k1⟩, f0, f1⟩ := hbo.two
        obtain ⟨⟨z0, z1⟩, y0, y1⟩ := hbz.two
        have HOWN := hid hown
        have HBZ := hid hbz
        have HBR := hid hbr
        have HLO := hid hlo
        clear hown hbz hbr hbo hlo hA
        go_wp2
        refine bodyPost_ret (v := .agg #[.slice oA k oc, .bool soft]) (by simp [results, Tryd.results36, go_sem, z0, z1]) rfl ⟨_, rfl, ?_, ?_⟩
        · rw [HLG.out]
          have h := (HOWN.out.set HBZ.out (by decide) (i := 0) (.slice oA k oc)).set (HBZ.out.set _) (by decide) (i := 1) (.bool soft)
          exact h.csl
        · exact (HBR.out.setCell (p := ⟨W.heap.size + 1, 0, none⟩) (by show W.heap.size ≤ W.heap.size + 1; omega) _).setCell (p := ⟨W.heap.size + 1, 1, none⟩) (by show W.heap.size ≤ W.heap.size + 1; omega) _
  · have hi1 : (82 : Int) < n := by omega
    have hi2 : (82 : Int) ≤ c0 := by omega
    subst h2
    go_enter Tryd.func36, Tryd.ntmps36
    go_wp2
    go_loopw [17] (fun i wr => ∃ k : Nat, k ≤ 82 ∧ i = .int .i64 k ∧ LineRel W wr l soft k ∧ Box wr (W.heap.size + 1) 61 #[.slice none 0 0, .bool false] ∧ W.heap.size + 1 + 1 + 1 ≤ wr.heap.size ∧ Below W.heap.size W wr) (fun i _ => 82 - (intOf i).toNat)
    case atStart => exact ⟨0, by omega, rfl, ⟨_, BX0.out.get 2 rfl, OwnC.nil _ _⟩, BX0.out.get 1 rfl, by rw [S0.out]; exact Nat.le_refl _, H0.out⟩
    case round =>
      obtain ⟨k, hk, rfl, ⟨ov, hbo, hown⟩, hbz, hsz, hbr⟩ := hrel
      obtain ⟨oA, oc, rfl⟩ := hown.spell
      have hlo : ((l.take k).map cutC).length = k := by rw [List.length_map, List.length_take, HNL.out]; omega
      rw [hlo] at hown hbo
      by_cases hlt : k < 82
      · have hki : (k : Int) < 82 := by omega
        have hkl : k < l.length := by rw [HNL.out]; omega
        obtain ⟨g, o, rfl, hg, hcell⟩ := hA (by intro e; rw [e] at hkl; simp at hkl)
        have hx := List.getElem?_eq_getElem hkl
        have hts := htt.out l[k] (List.getElem_mem _)
        have hstep := take_cut hx
        obtain ⟨p0, p1, p2, p3, p4⟩ := ccells (W := wr) (g := g) (o := o + k * 5) (e := l[k]) (fun i u hu => (hbr.cell (p := ⟨g, o + k * 5 + i, none⟩) hg).trans (hcell k l[k] hx i u hu))
        generalize l[k] = x at *
        obtain ⟨tx, wd, fg, bg, fl⟩ := x
        simp only at p0 p1 p2 p3 p4 hts
        obtain ⟨⟨k0, k1⟩, f0, f1⟩ := hbo.two
        have hne : ¬ W.heap.size + 1 + 1 = wr.heap.size := by omega
        have hltb : W.heap.size + 1 + 1 < wr.heap.size := by omega
        have HX := hid hx
        have HLO := hid hlo
        have HOWN := hid hown
        have HBO := hid hbo
        have HBZ := hid hbz
        have HBR := hid hbr
        have HST := hid hstep
        clear hx hlo hown hbo hbz hbr hstep hcell hA
        by_cases hs : tx.size ≤ 20
        · have hs' : (tx.size : Int) ≤ 20 := by omega
          have HC : Hid (cutC ⟨tx, wd, fg, bg, fl⟩ = ⟨tx, wd, fg, bg, fl⟩) := by unfold Hid cutC; rw [cutC_short hs]
          clear hs
          have hwl : Below wr.heap.size wr ((wr.alloc (.cells #[.string tx, .int .i64 wd, .int .i64 fg, .int .i64 bg, .int .i64 fl] 66)).alloc (.cells #[.string tx, .int .i64 wd, .int .i64 fg, .int .i64 bg, .int .i64 fl] 66)) := (below_alloc _ _).alloc (by simp) _
          have hrow := ce_lit (wr.alloc (.cells #[.string tx, .int .i64 wd, .int .i64 fg, .int .i64 bg, .int .i64 fl] 66)) ⟨tx, wd, fg, bg, fl⟩
          rw [World.size_alloc] at hrow
          unfold Ce.cells at hrow
          simp only at hrow
          have HROW := hid hrow
          have HWL := hid hwl
          clear hrow hwl
          go_wp2_with (at_builtin; refine wpList_append_ce rfl _ _ rfl W.heap.size _ _ _ [⟨tx, wd, fg, bg, fl⟩] rfl (HOWN.out.kept HWL.out) rfl HROW.out (by rw [HLO.out]; simp; omega) (by simp; have := HBR.out.size; omega) ?_; intro v' w' h1 h2; obtain ⟨A', c', hv'⟩ := h1.spell; rw [List.length_append, HLO.out, List.length_singleton] at hv'; subst hv'; have H1 := hid h1; have H2 := hid h2; clear h1 h2; have hb7 := (HBO.out.below HWL.out HBO.out.lt).grown H2.out (OwnC.not_box (HOWN.out.kept HWL.out) (HBO.out.below HWL.out HBO.out.lt) (by decide)); obtain ⟨⟨m0, m1⟩, n0, n1⟩ := hb7.two; have HB7 := hid hb7; clear hb7)
          go_roundw
          case rel =>
            have hst := HST.out
            rw [HC.out] at hst
            refine ⟨k + 1, by omega, by go_num, ⟨_, HB7.out.set (i := 0) _, ?_⟩, ?_, ?_, ?_⟩
            · rw [hst]
              exact H1.out.set HB7.out (by decide) _
            · exact (((HBZ.out.below HWL.out HBZ.out.lt).grown H2.out (OwnC.not_box (HOWN.out.kept HWL.out) (HBZ.out.below HWL.out HBZ.out.lt) (by decide)))).other (by omega) _
            · have := H2.out.size
              have := HWL.out.size
              rw [size_set]
              omega
            · have hlt7 : ∀ q, (Value.slice oA k oc).ownBlock = some q → W.heap.size ≤ q := fun q hq => (World.ownsRow.lt (HOWN.out.kept HWL.out) q hq).1
              exact (((HBR.out.trans (HWL.out.mono HBR.out.size)).trans ((Below.refl W.heap.size _).grown H2.out (by have := HBR.out.size; have := HWL.out.size; omega) hlt7))).setCell (p := ⟨W.heap.size + 1 + 1, 0, none⟩) (by show W.heap.size ≤ W.heap.size + 1 + 1; omega) _
          case measure => simp [intOf]; omega
        · have hs' : (20 : Int) < tx.size := by omega
          have hs2 : (20 : Int) ≤ tx.size := by omega
          have hyy := fun W' : World => (rfl : W' = W')
          clear hyy
          obtain ⟨y, hy⟩ : ∃ y, tx.extract 0 20 = y := ⟨_, rfl⟩
          have HC : Hid (cutC ⟨tx, wd, fg, bg, fl⟩ = ⟨y, wd, fg, bg, fl⟩) := by unfold Hid cutC; rw [← hy]
          clear hs
          have hwl : Below wr.heap.size wr ((wr.alloc (.cells #[.string y, .int .i64 wd, .int .i64 fg, .int .i64 bg, .int .i64 fl] 66)).alloc (.cells #[.string y, .int .i64 wd, .int .i64 fg, .int .i64 bg, .int .i64 fl] 66)) := (below_alloc _ _).alloc (by simp) _
          have hrow := ce_lit (wr.alloc (.cells #[.string y, .int .i64 wd, .int .i64 fg, .int .i64 bg, .int .i64 fl] 66)) ⟨y, wd, fg, bg, fl⟩
          rw [World.size_alloc] at hrow
          unfold Ce.cells at hrow
          simp only at hrow
          have HROW := hid hrow
          have HWL := hid hwl
          clear hrow hwl
          go_wp2_with (at_builtin; refine wpList_append_ce rfl _ _ rfl W.heap.size _ _ _ [⟨y, wd, fg, bg, fl⟩] rfl (HOWN.out.kept HWL.out) rfl HROW.out (by rw [HLO.out]; simp; omega) (by simp; have := HBR.out.size; omega) ?_; intro v' w' h1 h2; obtain ⟨A', c', hv'⟩ := h1.spell; rw [List.length_append, HLO.out, List.length_singleton] at hv'; subst hv'; have H1 := hid h1; have H2 := hid h2; clear h1 h2; have hb7 := (HBO.out.below HWL.out HBO.out.lt).grown H2.out (OwnC.not_box (HOWN.out.kept HWL.out) (HBO.out.below HWL.out HBO.out.lt) (by decide)); obtain ⟨⟨m0, m1⟩, n0, n1⟩ := hb7.two; have HB7 := hid hb7; clear hb7)
          go_roundw
          case rel =>
            have hst := HST.out
            rw [HC.out] at hst
            refine ⟨k + 1, by omega, by go_num, ⟨_, HB7.out.set (i := 0) _, ?_⟩, ?_, ?_, ?_⟩
            · rw [hst]
              exact H1.out.set HB7.out (by decide) _
            · exact (((HBZ.out.below HWL.out HBZ.out.lt).grown H2.out (OwnC.not_box (HOWN.out.kept HWL.out) (HBZ.out.below HWL.out HBZ.out.lt) (by decide)))).other (by omega) _
            · have := H2.out.size
              have := HWL.out.size
              rw [size_set]
              omega
            · have hlt7 : ∀ q, (Value.slice oA k oc).ownBlock = some q → W.heap.size ≤ q := fun q hq => (World.ownsRow.lt (HOWN.out.kept HWL.out) q hq).1
              exact (((HBR.out.trans (HWL.out.mono HBR.out.size)).trans ((Below.refl W.heap.size _).grown H2.out (by have := HBR.out.size; have := HWL.out.size; omega) hlt7))).setCell (p := ⟨W.heap.size + 1 + 1, 0, none⟩) (by show W.heap.size ≤ W.heap.size + 1 + 1; omega) _
          case measure => simp [intOf]; omega
      · have hkm : k = 82 := by omega
        subst hkm
        obtain ⟨⟨k0, k1⟩, f0, f1⟩ := hbo.two
        obtain ⟨⟨z0, z1⟩, y0, y1⟩ := hbz.two
        have HOWN := hid hown
        have HBZ := hid hbz
        have HBR := hid hbr
        have HLO := hid hlo
        clear hown hbz hbr hbo hlo hA
        go_wp2
        refine bodyPost_ret (v := .agg #[.slice oA 82 oc, .bool soft]) (by simp [results, Tryd.results36, go_sem, z0, z1]) rfl ⟨_, rfl, ?_, ?_⟩
        · rw [HLG.out]
          have h := (HOWN.out.set HBZ.out (by decide) (i := 0) (.slice oA 82 oc)).set (HBZ.out.set _) (by decide) (i := 1) (.bool soft)
          exact h.csl
        · exact (HBR.out.setCell (p := ⟨W.heap.size + 1, 0, none⟩) (by show W.heap.size ≤ W.heap.size + 1; omega) _).setCell (p := ⟨W.heap.size + 1, 1, none⟩) (by show W.heap.size ≤ W.heap.size + 1; omega) _

theorem line_any (v : Value) (l : List Ce) (soft : Bool) (W : World) (hr : CeRow W v l) (hn : (l.length : Int) ≤ 9223372036854775807) (ht : ∀ c ∈ l, (c.tx.size : Int) ≤ 9223372036854775807) :
    Calls Tryd.prog 36 #[.agg #[v, .bool soft]] W (LinePost W (lineG l) soft) := by
  by_cases h : l.length ≤ 82
  · exact line_m v l soft l.length W hr hn ht (.inl ⟨h, rfl⟩)
  · exact line_m v l soft 82 W hr hn ht (.inr ⟨by omega, rfl⟩)
end Go.Proofs.YtkejoknphnkhnaaDoor
