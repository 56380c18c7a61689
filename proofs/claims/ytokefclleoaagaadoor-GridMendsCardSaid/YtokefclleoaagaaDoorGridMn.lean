/- The law GridMends, walked. -/
import Derived.Test.YtokefclleoaagaaDoorGridLine
import Derived.Test.YtokefclleoaagaaDoorCellZ
import Derived.Deep.DeepCutAuto
import Derived.Deep.RegionWith
namespace Go.Proofs.YtokefclleoaagaaDoor
open Go.RowKit

theorem rights_step {l : List Ce} {k : Nat} {c : Ce} (h : rightsL (l.take k) = true) (hc : l[k]? = some c) (hr : rightB c = true) : rightsL (l.take (k + 1)) = true := by
  obtain ⟨hk, rfl⟩ := List.getElem?_eq_some_iff.1 hc
  rw [List.take_succ_eq_append_getElem hk, rights_append, h, rights_cons, hr]
  rfl

theorem mend_sizes {l : List Ce} {m : Nat} (h : ∀ c ∈ l, c.tx.size ≤ m) : ∀ p, ∀ c ∈ mendL p l, c.tx.size ≤ m := by
  induction l with
  | nil => intro p c hc; simp [mendL] at hc
  | cons x r ih =>
    intro p c hc
    unfold mendL at hc
    have ih' := ih (fun c hc => h c (by simp [hc]))
    split at hc
    · rw [List.mem_cons] at hc
      rcases hc with rfl | hc
      · exact Nat.zero_le _
      · exact ih' _ c hc
    · rw [List.mem_cons] at hc
      rcases hc with rfl | hc
      · exact h _ (by simp)
      · exact ih' _ c hc

set_option maxRecDepth 100000 in
set_option maxHeartbeats 4000000 in
theorem mends_any (v : Value) (l : List Ce) (soft : Bool) (W : World) (hr : CeRow W v l) (hn : (l.length : Int) ≤ 9223372036854775807) (ht : ∀ c ∈ l, (c.tx.size : Int) ≤ 9223372036854775807) (hT : Tab W) (hW : TabW W) :
    Calls Tryd.prog 6 #[.agg #[v, .bool soft]] W fun e w' => e = .returned (.bool true) ∧ Below W.heap.size W w' := by
  have hln := line_any v l soft _ (hr.below (below_alloc W (.cells #[v, .bool soft] 57))) hn ht
  have hll := lineG_length l
  have hls := lineG_size (l := l)
  generalize lineG l = lc at *
  obtain ⟨A, c0, rfl⟩ := hr.spell
  have hbx := Box.new W 57 #[.slice A l.length c0, .bool soft]
  have HX := hid hbx
  have HT := hid hT
  have HW := hid hW
  have HLN := hid hln
  have HLS := hid hls
  obtain ⟨n, hnl⟩ : ∃ n, lc.length = n := ⟨_, rfl⟩
  have HNL := hid hnl
  have hn82 : n ≤ 82 := by omega
  clear hbx hT hW hr hln hls hll ht hnl hn
  go_enter Tryd.func6, Tryd.ntmps6
  go_wp2_with fail
  with_reducible refine HLN.out.mono ?_
  rintro e w1 ⟨v1, rfl, hc1, hb1⟩
  dsimp only
  have hx1 := HX.out.below hb1 (by simp)
  obtain ⟨A1, c1, hs1⟩ := hc1.spell
  rw [HNL.out] at hs1
  subst hs1
  obtain ⟨⟨k0, k1⟩, f0, f1⟩ := hx1.two
  have hb1' := Below.behind hb1
  have hx2 := (hx1.set (i := 0) (.slice A1 n c1)).set (i := 1) (.bool soft)
  simp only [List.setIfInBounds_toArray, List.set_cons_zero, List.set_cons_succ] at hx2
  have hc2 := (hc1.set hx1 (by decide) (i := 0) (.slice A1 n c1)).set (hx1.set (i := 0) (.slice A1 n c1)) (by decide) (i := 1) (.bool soft)
  have hb2 : Below W.heap.size W ((w1.setCell ⟨W.heap.size, 0, none⟩ (.slice A1 n c1)).setCell ⟨W.heap.size, 1, none⟩ (.bool soft)) := (hb1'.setCell (Nat.le_refl _) _).setCell (Nat.le_refl _) _
  have HX2 := hid hx2
  have HC2 := hid hc2.row
  have HB2 := hid hb2
  clear hx1 hc1 hb1 hb1' hx2 hc2 hb2
  go_upto_region 2 with fail
  generalize ((w1.setCell ⟨W.heap.size, 0, none⟩ (.slice A1 n c1)).setCell ⟨W.heap.size, 1, none⟩ (.bool soft)) = w2 at *
  clear k0 k1 f0 f1
  obtain ⟨⟨k0, k1⟩, f0, f1⟩ := HX2.out.two
  have hsz2 := HX2.out.lt
  go_wp2
  go_loopw [11] (fun i wr => ∃ k : Nat, k ≤ n ∧ i = .int .i64 k ∧ rightsL (lc.take k) = true ∧ Below w2.heap.size w2 wr) (fun i _ => n - (intOf i).toNat)
  case atStart => exact ⟨0, by omega, rfl, rfl, Below.refl _ _⟩
  case round =>
    obtain ⟨k, hk, rfl, hrt, hbr⟩ := hrel
    clear k0 k1 f0 f1
    have hxr := HX2.out.below hbr hsz2
    have hbW := HB2.out.trans (hbr.mono HB2.out.size)
    have hcr := HC2.out.below hbr
    have hltr := hxr.lt
    obtain ⟨⟨k0, k1⟩, f0, f1⟩ := hxr.two
    have HXR := hid hxr
    have HBW := hid hbW
    have HCR := hid hcr
    have HBR := hid hbr
    have HRT := hid hrt
    clear hrt hbr hxr hbW
    by_cases hlt : k < n
    · have hki : (k : Int) < n := by omega
      have hkl : k < lc.length := by rw [HNL.out]; exact hlt
      have hxx := List.getElem?_eq_getElem hkl
      have hts := HLS.out lc[k] (List.getElem_mem _)
      obtain ⟨A', c', hA', _, hcell⟩ := hcr
      rw [HNL.out] at hA'
      cases hA'
      obtain ⟨g, o, rfl, hg, hcell⟩ := hcell (by intro e; rw [e] at hkl; simp at hkl)
      obtain ⟨p0, p1, p2, p3, p4⟩ := ccells (W := wr) (g := g) (o := o + k * 5) (e := lc[k]) (fun i u hu => hcell k lc[k] hxx i u hu)
      have hri := rright_any lc[k] (wr.alloc (.cells lc[k].cells 28)) (by omega)
      have hbx := Box.new wr 28 lc[k].cells
      generalize lc[k] = x at *
      obtain ⟨tx, wd, fg, bg, fl⟩ := x
      unfold Ce.agg Ce.cells at *
      simp only at *
      have HXX := hid hxx
      have HBX := hid hbx
      have hal := fun w3 (hb3 : Below (wr.alloc (.cells #[.string tx, .int .i64 wd, .int .i64 fg, .int .i64 bg, .int .i64 fl] 28)).heap.size (wr.alloc (.cells #[.string tx, .int .i64 wd, .int .i64 fg, .int .i64 bg, .int .i64 fl] 28)) w3) =>
        alive_any w3 (HT.out.below (HBW.out.trans ((Below.behind hb3).mono HBW.out.size))) (HW.out.below (HBW.out.trans ((Below.behind hb3).mono HBW.out.size)))
      obtain ⟨⟨a0, a1, a2, a3, a4⟩, _⟩ := hbx.five
      clear hxx hbx hcell
      cases h1 : rightB ⟨tx, wd, fg, bg, fl⟩
      · rw [h1] at hri
        clear h1
        go_wp2_with fail
        with_reducible refine hri.mono ?_
        rintro e w3 ⟨rfl, hb3⟩
        dsimp only
        go_wp2_with fail
        with_reducible refine (hal _ hb3).mono ?_
        rintro e w4 ⟨rfl, hb4⟩
        dsimp only
        go_wp2
        go_ret
        have hb5 := HBW.out.trans ((Below.behind hb3).mono HBW.out.size)
        exact ⟨rfl, hb5.trans (hb4.mono hb5.size)⟩
      · rw [h1] at hri
        have HE := hid (rights_step HRT.out HXX.out h1)
        clear h1
        go_wp2_with fail
        with_reducible refine hri.mono ?_
        rintro e w3 ⟨rfl, hb3⟩
        dsimp only
        go_wp2
        go_roundw
        case rel => exact ⟨k + 1, by omega, by go_num, HE.out, HBR.out.trans ((Below.behind hb3).mono HBR.out.size)⟩
        case measure => simp [intOf]; omega
    · have hkm : k = n := by omega
      subst hkm
      have hrts : rightsL lc = true := by
        have h := HRT.out
        rw [List.take_of_length_le (by rw [HNL.out]; exact Nat.le_refl _)] at h
        exact h
      have hme := pMend_any _ lc soft wr hcr (by rw [HNL.out]; omega)
      have HME := hid hme
      have HRTS := hid hrts
      clear hme hrts hcr
      go_wp2_with fail
      with_reducible refine HME.out.mono ?_
      rintro e w3 ⟨v3, rfl, hc3, hb3⟩
      dsimp only
      obtain ⟨A3, c3, hs3⟩ := hc3.spell
      have hml : (mendL 1 lc).length = k := by rw [mendL_length, HNL.out]
      rw [hml] at hs3
      subst hs3
      have hm4 := Box.new w3 57 #[.slice A3 k c3, .bool soft]
      have hx4 := (HXR.out.below hb3 HXR.out.lt).alloc (.cells #[.slice A3 k c3, .bool soft] 57)
      have hb4 := (HBW.out.trans (hb3.mono HBW.out.size)).alloc (Nat.le_trans HBW.out.size hb3.size) (.cells #[.slice A3 k c3, .bool soft] 57)
      have hcm4 := hc3.row.below (below_alloc w3 (.cells #[.slice A3 k c3, .bool soft] 57))
      have hcl4 := (HCR.out.below hb3).below (below_alloc w3 (.cells #[.slice A3 k c3, .bool soft] 57))
      have HM4 := hid hm4
      have HX4 := hid hx4
      have HB4 := hid hb4
      have HCM4 := hid hcm4
      have HCL4 := hid hcl4
      have HMLL := hid hml
      have hlt4 : W.heap.size < w3.heap.size := Nat.lt_of_lt_of_le HXR.out.lt hb3.size
      clear hm4 hx4 hb4 hcm4 hcl4 hml hc3 hb3 k0 k1 f0 f1
      go_upto_region 9 with fail
      generalize (w3.alloc (.cells #[.slice A3 k c3, .bool soft] 57)) = w4 at *
      obtain ⟨q, hq⟩ : ∃ q, w3.heap.size = q := ⟨_, rfl⟩
      rw [hq] at HM4 hlt4 ⊢
      clear hq
      have qlt : q < w4.heap.size := HM4.out.lt
      have slt : W.heap.size < w4.heap.size := HX4.out.lt
      have htx : ∀ c ∈ mendL 1 lc, c.tx.size ≤ 1000 := fun c hc => by have := mend_sizes HLS.out 1 c hc; omega
      have cF : Hid (∀ W', Below w4.heap.size w4 W' → Calls Tryd.prog 34 #[.agg #[.slice A3 k c3, .bool soft], .int .i64 k] W' fun e w' => e = .returned (.bool true) ∧ Below W'.heap.size W' w') := fun W' hb => by
        have h := pFits_any k (.slice A3 k c3) (mendL 1 lc) soft W' (HCM4.out.below hb) htx (by rw [HMLL.out]; omega) (HT.out.below (HB4.out.trans (hb.mono HB4.out.size))) (HW.out.below (HB4.out.trans (hb.mono HB4.out.size)))
        have hf := fits_mend HRTS.out
        rw [HNL.out] at hf
        rw [hf] at h
        exact h
      have cM : Hid (∀ W', Below w4.heap.size w4 W' → Calls Tryd.prog 33 #[.agg #[.slice A3 k c3, .bool soft]] W' (LinePost W' (mendL 1 lc) soft)) := fun W' hb => by
        have h := pMend_any (.slice A3 k c3) (mendL 1 lc) soft W' (HCM4.out.below hb) (by rw [HMLL.out]; omega)
        rw [mend_mend] at h
        exact h
      have cS : Hid (∀ W' v6, Below w4.heap.size w4 W' → CeRow W' v6 (mendL 1 lc) → Calls Tryd.prog 31 #[.agg #[v6, .bool soft], .agg #[.slice A3 k c3, .bool soft]] W' fun e w' => e = .returned (.bool true) ∧ Below W'.heap.size W' w') := fun W' v6 hb hc =>
        rSameLine_eq v6 (.slice A3 k c3) soft (mendL 1 lc) W' hc (HCM4.out.below hb) (by rw [HMLL.out]; omega)
      have cA : Hid (∀ W', Below w4.heap.size w4 W' → Calls Tryd.prog 13 #[] W' fun e w' => e = .returned (.bool true) ∧ Below W'.heap.size W' w') := fun W' hb =>
        alive_any W' (HT.out.below (HB4.out.trans (hb.mono HB4.out.size))) (HW.out.below (HB4.out.trans (hb.mono HB4.out.size)))
      obtain ⟨⟨m0, m1⟩, g0, g1⟩ := HM4.out.two
      obtain ⟨⟨k0, k1⟩, f0, f1⟩ := HX4.out.two
      have hd4 : Below w4.heap.size w4 w4.drew := (Below.refl _ _).drew
      clear htx
      go_cut [38] (fun b wx => b = .bool false ∧ Below w4.heap.size w4 wx)
      case first =>
        first | go_region_with (first | (go_at_call 34; refine (cF.out _ hd4).mono ?_; rintro e w5 ⟨rfl, hb5⟩; have hd5 := hd4.trans (hb5.mono hd4.size); obtain ⟨⟨m0, m1⟩, g0, g1⟩ := (HM4.out.below hd5 qlt).two; obtain ⟨⟨k0, k1⟩, f0, f1⟩ := (HX4.out.below hd5 slt).two) | (go_at_call 33; refine (cM.out _ hd5).mono ?_; rintro e w6 ⟨v6, rfl, hc6, hb6⟩; have hd6 := hd5.trans (hb6.mono hd5.size); obtain ⟨⟨m0, m1⟩, g0, g1⟩ := (HM4.out.below hd6 qlt).two; obtain ⟨⟨k0, k1⟩, f0, f1⟩ := (HX4.out.below hd6 slt).two) | (go_at_call 31; refine (cS.out _ _ hd6 hc6.row).mono ?_; rintro e w7 ⟨rfl, hb7⟩; have hd7 := hd6.trans (hb7.mono hd6.size)) | (go_at_call 13; refine (cA.out _ hd7).mono ?_; rintro e w8 ⟨rfl, hb8⟩; have hd8 := hd7.trans (hb8.mono hd7.size))) | fail
        all_goals
          go_wp2_with fail
          go_meet
          exact ⟨rfl, hd8⟩
      case rest =>
        obtain ⟨rfl, hdc⟩ := hcut
        have hxc := HX4.out.below hdc slt
        have hmc := HM4.out.below hdc qlt
        have hbc := HB4.out.trans (hdc.mono HB4.out.size)
        clear m0 m1 g0 g1 k0 k1 f0 f1
        obtain ⟨⟨m0, m1⟩, g0, g1⟩ := hmc.two
        obtain ⟨⟨k0, k1⟩, f0, f1⟩ := hxc.two
        have htl : ∀ c ∈ lc, c.tx.size ≤ 1000 := fun c hc => by have := HLS.out c hc; omega
        have hFl := pFits_any k (.slice A1 k c1) lc soft wc (HCL4.out.below hdc) htl (by rw [HNL.out]; omega) (HT.out.below hbc) (HW.out.below hbc)
        have HBC := hid hbc
        have HDC := hid hdc
        have HXC := hid hxc
        have HMC := hid hmc
        have sltc := hxc.lt
        have qltc := hmc.lt
        clear hbc hdc hxc hmc htl
        cases h1 : fitsB k lc
        · rw [h1] at hFl
          have HF := hid hFl
          clear h1 hFl
          go_wp2_with fail
          with_reducible refine HF.out.mono ?_
          rintro e w5 ⟨rfl, hb5⟩
          dsimp only
          go_wp2
          go_ret
          exact ⟨rfl, HBC.out.trans (hb5.mono HBC.out.size)⟩
        · rw [h1] at hFl
          have HF := hid hFl
          have hsm := mend_fits h1
          have HSM := hid hsm
          clear h1 hFl hsm
          go_wp2_with fail
          with_reducible refine HF.out.mono ?_
          rintro e w5 ⟨rfl, hb5⟩
          dsimp only
          clear m0 m1 g0 g1 k0 k1 f0 f1
          obtain ⟨⟨m0, m1⟩, g0, g1⟩ := (HMC.out.below hb5 qltc).two
          obtain ⟨⟨k0, k1⟩, f0, f1⟩ := (HXC.out.below hb5 sltc).two
          have hS : Calls Tryd.prog 31 #[.agg #[.slice A3 k c3, .bool soft], .agg #[.slice A1 k c1, .bool soft]] w5 fun e w' => e = .returned (.bool true) ∧ Below w5.heap.size w5 w' :=
            rSameLine_eq (.slice A3 k c3) (.slice A1 k c1) soft lc w5 (by have h := (HCM4.out.below HDC.out).below hb5; rw [HSM.out] at h; exact h) ((HCL4.out.below HDC.out).below hb5) (by rw [HNL.out]; omega)
          have HS := hid hS
          clear hS
          go_wp2_with fail
          with_reducible refine HS.out.mono ?_
          rintro e w6 ⟨rfl, hb6⟩
          dsimp only
          have hb7 := HBC.out.trans (hb5.mono HBC.out.size)
          go_wp2
          go_ret
          exact ⟨rfl, hb7.trans (hb6.mono hb7.size)⟩
end Go.Proofs.YtokefclleoaagaaDoor
