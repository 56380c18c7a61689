/- The law GridStays, walked. Made by wip/gen/gridStays.py. -/
import Derived.Test.YtdpicbfpjnampaaDoorGridStQ
import Derived.Test.YtdpicbfpjnampaaDoorGridFewQ
import Derived.Test.YtdpicbfpjnampaaDoorHeldSQ
import Derived.Deep.DeepCutAuto
namespace Go.Proofs.YtdpicbfpjnampaaDoor
open Go.RowKit

theorem tmod_hundred (a : Int) : -100 < a.tmod 100 ∧ a.tmod 100 < 100 := by
  have h := Int.natAbs_tmod a 100
  have h2 : (100 : Int).natAbs = 100 := rfl
  have h3 := Nat.mod_lt a.natAbs (show 0 < 100 by omega)
  rw [h2] at h
  omega
theorem wrap64_is (n : Int) : IntKind.i64.wrap n = wrap64 n := by unfold wrap64; rw [IntKind.wrap_i64]
set_option maxRecDepth 100000 in
set_option maxHeartbeats 8000000 in
theorem stays_any (cols row col num : Int) (v : Value) (lv : List (Ln × Value)) (c : Ce) (a : At) (W : World) (hr : LR W v lv) (hc : CesOf W lv) (hn : (lv.length : Int) ≤ 9223372036854775807)
    (hl : ∀ e ∈ lv, (e.1.cs.length : Int) ≤ 9223372036854775807 ∧ ∀ c ∈ e.1.cs, (c.tx.size : Int) ≤ 9223372036854775807) (hct : (c.tx.size : Int) ≤ 9223372036854775807) (hq : -9223372036854775808 ≤ num ∧ num ≤ 9223372036854775807) (hT : Tab W) (hW : TabW W) :
    Calls Tryd.prog 5 #[.agg #[.int .i64 cols, v], .int .i64 row, .int .i64 col, .int .i64 num, c.agg, a.agg] W fun e w' => e = .returned (.bool true) ∧ Below W.heap.size W w' := by
  have HQ := hid hq
  clear hq
  obtain ⟨gA, gc, rfl⟩ := hr.spell
  obtain ⟨tx, wd, fg, bg, fl⟩ := c
  obtain ⟨af, ab, al⟩ := a
  simp only at hct
  have hbel : Below W.heap.size W (((W.alloc (.cells #[.int .i64 cols, .slice gA lv.length gc] 24)).alloc (.cells #[.string tx, .int .i64 wd, .int .i64 fg, .int .i64 bg, .int .i64 fl] 28)).alloc (.cells #[.int .i64 af, .int .i64 ab, .int .i64 al] 26)) := ((below_alloc _ _).alloc (by simp) _).alloc (by simp <;> omega) _
  have b0 := (((Bxs.nil W).alloc 24 #[.int .i64 cols, .slice gA lv.length gc]).alloc 28 #[.string tx, .int .i64 wd, .int .i64 fg, .int .i64 bg, .int .i64 fl]).alloc 26 #[.int .i64 af, .int .i64 ab, .int .i64 al]
  simp only [World.size_alloc, List.nil_append, List.cons_append] at b0
  have hfew := few_any cols _ lv _ (hr.below hbel) (hc.below hbel) hn hl
  obtain ⟨gn, hgn⟩ : ∃ gn, lv.length = gn := ⟨_, rfl⟩
  rw [hgn] at hfew b0 hbel ⊢
  have HFEW := hid hfew
  have B0 := hid b0
  have H0 := hid hbel
  have s0 : W.heap.size + 1 + 1 + 1 ≤ (((W.alloc (.cells #[.int .i64 cols, .slice gA gn gc] 24)).alloc (.cells #[.string tx, .int .i64 wd, .int .i64 fg, .int .i64 bg, .int .i64 fl] 28)).alloc (.cells #[.int .i64 af, .int .i64 ab, .int .i64 al] 26)).heap.size := by simp
  have S0 := hid s0
  have HT := hid hT
  have HW := hid hW
  clear hfew b0 hbel s0 hT hW hr hc hn hl hgn
  unfold Ce.agg Ce.cells At.agg
  simp only
  go_enter Tryd.func5, Tryd.ntmps5
  go_upto_region 1 with fail
  generalize (((W.alloc (.cells #[.int .i64 cols, .slice gA gn gc] 24)).alloc (.cells #[.string tx, .int .i64 wd, .int .i64 fg, .int .i64 bg, .int .i64 fl] 28)).alloc (.cells #[.int .i64 af, .int .i64 ab, .int .i64 al] 26)) = w0 at *
  obtain ⟨⟨k0, k1⟩, f0, f1⟩ := (B0.out.get 0 rfl).two
  go_wp2_with fail
  with_reducible refine HFEW.out.mono ?_
  rintro e w1 ⟨v1, lv1, rfl, hm1, hl1, hc1, hb1⟩
  dsimp only
  have b1 := B0.out.below hb1
  have g1 : Box w1 W.heap.size 24 #[.int .i64 cols, .slice gA gn gc] := b1.get 0 rfl
  obtain ⟨A1, c1, hv1⟩ := hl1.spell
  subst hv1
  obtain ⟨n, hn1⟩ : ∃ n, lv1.length = n := ⟨_, rfl⟩
  have HN := hid hn1
  rw [hn1] at hl1 ⊢
  clear k0 k1 f0 f1
  obtain ⟨⟨k0, k1⟩, f0, f1⟩ := g1.two
  have hls : LSl ((w1.setCell ⟨W.heap.size, 0, none⟩ (.int .i64 cols)).setCell ⟨W.heap.size, 1, none⟩ (.slice A1 n c1)) w0.heap.size (.slice A1 n c1) lv1 := (hl1.set g1 (by decide) _).set (g1.set _) (by decide) _
  have hcs : ∀ x ∈ lv1, CSl ((w1.setCell ⟨W.heap.size, 0, none⟩ (.int .i64 cols)).setCell ⟨W.heap.size, 1, none⟩ (.slice A1 n c1)) w0.heap.size x.2 x.1.cs := fun x hx => ((hc1 x hx).set g1 (by decide) _).set (g1.set _) (by decide) _
  have hh1 : Below W.heap.size W ((w1.setCell ⟨W.heap.size, 0, none⟩ (.int .i64 cols)).setCell ⟨W.heap.size, 1, none⟩ (.slice A1 n c1)) := below_set (below_set (H0.out.trans (hb1.mono H0.out.size)) (Nat.le_refl _) _) (Nat.le_refl _) _
  have b2 : Bxs ((w1.setCell ⟨W.heap.size, 0, none⟩ (.int .i64 cols)).setCell ⟨W.heap.size, 1, none⟩ (.slice A1 n c1)) [(W.heap.size, 24, #[.int .i64 cols, .slice A1 n c1]), (W.heap.size + 1, 28, #[.string tx, .int .i64 wd, .int .i64 fg, .int .i64 bg, .int .i64 fl]), (W.heap.size + 1 + 1, 26, #[.int .i64 af, .int .i64 ab, .int .i64 al])] := by
    intro x hx
    simp only [List.mem_cons, List.mem_nil_iff, or_false] at hx
    rcases hx with rfl | rfl | rfl
    · exact (g1.set (i := 0) _).set (i := 1) _
    · exact ((b1.get 1 rfl).other (by simp only; omega) _).other (by simp only; omega) _
    · exact ((b1.get 2 rfl).other (by simp only; omega) _).other (by simp only; omega) _
  have HLS := hid hls
  have HCS := hid hcs
  have HM1 := hid hm1
  have HH1 := hid hh1
  have B2 := hid b2
  clear hls hcs hh1 b2 b1 g1 hb1 hl1 hc1 hm1 hn1
  go_upto_region 2 with fail
  generalize ((w1.setCell ⟨W.heap.size, 0, none⟩ (.int .i64 cols)).setCell ⟨W.heap.size, 1, none⟩ (.slice A1 n c1)) = w2 at *
  clear k0 k1 f0 f1
  obtain ⟨y, hy⟩ : ∃ y, tx.extract 0 20 = y := ⟨_, rfl⟩
  have hyz : y.size ≤ 20 := by rw [← hy, size_extract']; omega
  have HY := hid hy
  have HYZ := hid hyz
  clear hy hyz
  go_cut [] (fun wx => Bxs wx [(W.heap.size, 24, #[.int .i64 cols, .slice A1 n c1]), (W.heap.size + 1, 28, #[.string y, .int .i64 wd, .int .i64 fg, .int .i64 bg, .int .i64 fl]), (W.heap.size + 1 + 1, 26, #[.int .i64 af, .int .i64 ab, .int .i64 al])] ∧ GIn wx (.slice A1 n c1) lv1 ∧ Below W.heap.size W wx)
  case first =>
    have hbc : Box w2 (W.heap.size + 1) 28 #[.string tx, .int .i64 wd, .int .i64 fg, .int .i64 bg, .int .i64 fl] := B2.out.get 1 rfl
    obtain ⟨⟨k0, k1, k2, k3, k4⟩, f0, f1, f2, f3, f4⟩ := hbc.five
    have hpost : Bxs (w2.setCell ⟨W.heap.size + 1, 0, none⟩ (.string y)) [(W.heap.size, 24, #[.int .i64 cols, .slice A1 n c1]), (W.heap.size + 1, 28, #[.string y, .int .i64 wd, .int .i64 fg, .int .i64 bg, .int .i64 fl]), (W.heap.size + 1 + 1, 26, #[.int .i64 af, .int .i64 ab, .int .i64 al])] ∧ GIn (w2.setCell ⟨W.heap.size + 1, 0, none⟩ (.string y)) (.slice A1 n c1) lv1 ∧ Below W.heap.size W (w2.setCell ⟨W.heap.size + 1, 0, none⟩ (.string y)) := by
      refine ⟨?_, few_in HM1.out (HLS.out.set_lt (by have := S0.out; omega) _).row (fun x hx => ((HCS.out x hx).set_lt (by have := S0.out; omega) _).row), below_set HH1.out (by omega) _⟩
      intro x hx
      simp only [List.mem_cons, List.mem_nil_iff, or_false] at hx
      rcases hx with rfl | rfl | rfl
      · exact (B2.out.get 0 rfl).other (by simp only; omega) _
      · exact hbc.set (i := 0) _
      · exact (B2.out.get 2 rfl).other (by simp only; omega) _
    have HPOST := hid hpost
    clear hpost hbc
    by_cases hs : tx.size ≤ 20
    · have hs' : (tx.size : Int) ≤ 20 := by omega
      have hxy : tx = y := by rw [← HY.out, cutC_short hs]
      subst hxy
      clear hs
      go_wp2_with fail
      go_meet
      exact HPOST.out
    · have hs' : (20 : Int) < tx.size := by omega
      have hs2 : (20 : Int) ≤ tx.size := by omega
      have hy2 := HY.out
      clear hs
      go_wp2_with fail
      go_meet
      exact HPOST.out
  case rest =>
    obtain ⟨hb3, hg3, hh3⟩ := hcut
    have BX := hid hb3
    have HG := hid hg3
    have HH := hid hh3
    clear hb3 hg3 hh3 B2 HH1 HLS HCS HM1 HFEW B0 H0 S0 HY
    obtain ⟨⟨k0_0, k0_1⟩, f0_0, f0_1⟩ := (BX.out.get 0 rfl).two
    obtain ⟨⟨k1_0, k1_1, k1_2, k1_3, k1_4⟩, f1_0, f1_1, f1_2, f1_3, f1_4⟩ := (BX.out.get 1 rfl).five
    obtain ⟨⟨k2_0, k2_1, k2_2⟩, f2_0, f2_1, f2_2⟩ := (BX.out.get 2 rfl).three
    obtain ⟨R, hR⟩ : ∃ R, mayB cols lv1 = R := ⟨_, rfl⟩
    have HR := hid hR
    clear hR
    go_upto_region 3 with fail
    have hcall := pRight_any cols _ lv1 _ HG.out.lr HG.out.ces HG.out.sm (HT.out.below HH.out) (HW.out.below HH.out)
    rw [show (sizeB cols lv1.length && allB cols lv1) = R from HR.out] at hcall
    have HCALL := hid hcall
    clear hcall
    go_wp2_with fail
    with_reducible refine HCALL.out.mono ?_
    rintro e w1 ⟨rfl, hb⟩
    clear HCALL
    dsimp only
    clear k0_0 k0_1 f0_0 f0_1 k1_0 k1_1 k1_2 k1_3 k1_4 f1_0 f1_1 f1_2 f1_3 f1_4 k2_0 k2_1 k2_2 f2_0 f2_1 f2_2
    have HG2 := hid (HG.out.below hb)
    have HH2 := hid (HH.out.trans (hb.mono HH.out.size))
    have BX2 := hid (BX.out.below hb)
    clear HG HH BX hb
    have HG := hid HG2.out
    have HH := hid HH2.out
    have BX := hid BX2.out
    clear HG2 HH2 BX2
    obtain ⟨⟨k0_0, k0_1⟩, f0_0, f0_1⟩ := (BX.out.get 0 rfl).two
    obtain ⟨⟨k1_0, k1_1, k1_2, k1_3, k1_4⟩, f1_0, f1_1, f1_2, f1_3, f1_4⟩ := (BX.out.get 1 rfl).five
    obtain ⟨⟨k2_0, k2_1, k2_2⟩, f2_0, f2_1, f2_2⟩ := (BX.out.get 2 rfl).three
    cases R
    · have hcall := alive_any _ (HT.out.below HH.out) (HW.out.below HH.out)
      have HCALL := hid hcall
      clear hcall
      go_wp2_with fail
      with_reducible refine HCALL.out.mono ?_
      rintro e w2 ⟨rfl, hb⟩
      clear HCALL
      dsimp only
      clear k0_0 k0_1 f0_0 f0_1 k1_0 k1_1 k1_2 k1_3 k1_4 f1_0 f1_1 f1_2 f1_3 f1_4 k2_0 k2_1 k2_2 f2_0 f2_1 f2_2
      have HG2 := hid (HG.out.below hb)
      have HH2 := hid (HH.out.trans (hb.mono HH.out.size))
      have BX2 := hid (BX.out.below hb)
      clear HG HH BX hb
      have HG := hid HG2.out
      have HH := hid HH2.out
      have BX := hid BX2.out
      clear HG2 HH2 BX2
      obtain ⟨⟨k0_0, k0_1⟩, f0_0, f0_1⟩ := (BX.out.get 0 rfl).two
      obtain ⟨⟨k1_0, k1_1, k1_2, k1_3, k1_4⟩, f1_0, f1_1, f1_2, f1_3, f1_4⟩ := (BX.out.get 1 rfl).five
      obtain ⟨⟨k2_0, k2_1, k2_2⟩, f2_0, f2_1, f2_2⟩ := (BX.out.get 2 rfl).three
      go_wp2
      go_ret
      exact ⟨rfl, HH.out⟩
    · clear k0_0 k0_1 f0_0 f0_1 k1_0 k1_1 k1_2 k1_3 k1_4 f1_0 f1_1 f1_2 f1_3 f1_4 k2_0 k2_1 k2_2 f2_0 f2_1 f2_2
      obtain ⟨gg, og, hA1⟩ := HG.out.lr.first (by have := (mayB_cols HR.out).2.1; omega)
      subst hA1
      obtain ⟨⟨k0_0, k0_1⟩, f0_0, f0_1⟩ := (BX.out.get 0 rfl).two
      obtain ⟨⟨k1_0, k1_1, k1_2, k1_3, k1_4⟩, f1_0, f1_1, f1_2, f1_3, f1_4⟩ := (BX.out.get 1 rfl).five
      obtain ⟨⟨k2_0, k2_1, k2_2⟩, f2_0, f2_1, f2_2⟩ := (BX.out.get 2 rfl).three
      have hbd := tmod_hundred num
      obtain ⟨r, hr⟩ : ∃ r, num.tmod 100 = r := ⟨_, rfl⟩
      rw [hr] at hbd
      obtain ⟨m, hm⟩ : ∃ m : Nat, (r + 100) % 100 = m := ⟨((r + 100) % 100).toNat, by omega⟩
      have hmb : m < 100 := by omega
      have HRR := hid hr
      have HM := hid hm
      have HMB := hid hmb
      have hq2 := HQ.out
      clear hr hm hmb
      go_upto_region 5 with fail
      go_cut [3] (fun v wx => v = .int .i64 m ∧ w1 = wx)
      case first =>
        have w1 : wrap64 (r + 100) = r + 100 := by rw [← wrap64_is, IntKind.wrap_i64]; omega
        have w2 : (r + 100).tmod 100 = m := by rw [Int.tmod_eq_emod_of_nonneg (by omega), HM.out]
        have hval : (wrap64 (num.tmod 100 + 100)).tmod 100 = m := by rw [HRR.out, w1, w2]
        have HVAL := hid hval
        clear w1 w2 hval hbd
        go_wp2_with fail
        go_meet
        exact ⟨by rw [HVAL.out], rfl⟩
      case rest =>
        obtain ⟨rfl, rfl⟩ := hcut
        clear hbd hq2
        clear k0_0 k0_1 f0_0 f0_1 k1_0 k1_1 k1_2 k1_3 k1_4 f1_0 f1_1 f1_2 f1_3 f1_4 k2_0 k2_1 k2_2 f2_0 f2_1 f2_2
        obtain ⟨⟨k0_0, k0_1⟩, f0_0, f0_1⟩ := (BX.out.get 0 rfl).two
        obtain ⟨⟨k1_0, k1_1, k1_2, k1_3, k1_4⟩, f1_0, f1_1, f1_2, f1_3, f1_4⟩ := (BX.out.get 1 rfl).five
        obtain ⟨⟨k2_0, k2_1, k2_2⟩, f2_0, f2_1, f2_2⟩ := (BX.out.get 2 rfl).three
        have hcon := put_out cols row col (.slice (some ⟨gg, og, none⟩) n c1) lv1 ⟨y, wd, fg, bg, fl⟩ w1 HG.out (Nat.le_trans HYZ.out (by omega)) (HT.out.below HH.out) (HW.out.below HH.out)
        unfold Ce.agg Ce.cells at hcon
        simp only at hcon
        have HCON := hid (hcon)
        go_upto_region 6 with fail
        go_cut [13, 14] (CallRel w1 cols row lv1 (fun W A k c x => PF W row col ⟨y, wd, fg, bg, fl⟩ A k c x))
        case first =>
          as_aux_lemma =>
            clear hcon
            have HCALL := hid HCON.out
            clear HCON
            go_wp2_with fail
            with_reducible refine HCALL.out.mono ?_
            rintro e wx ⟨xc, xA, xk, xp, xn, rfl, hb, hx⟩
            dsimp only
            have hcs := (HG.out.below hb).ces
            have hsf := GB.sf hx hcs (by split <;> omega) (fun h lv' hm => put_stay HG.out.sm (Nat.le_trans HYZ.out (by omega)) h hm)
            have hpf : PF wx row col ⟨y, wd, fg, bg, fl⟩ xA xk xp xn := put_there HG.out.sm (by split <;> omega) hcs hx
            have hb2 := hb.alloc hb.size (.cells #[.int .i64 xc, .slice xA xk xp] 24)
            have hbz := Box.new wx 24 #[.int .i64 xc, .slice xA xk xp]
            have hsf2 := hsf.below (below_alloc wx (.cells #[.int .i64 xc, .slice xA xk xp] 24))
            have hpf2 := hpf.below (below_alloc wx (.cells #[.int .i64 xc, .slice xA xk xp] 24))
            have HS := hid hsf2
            have HP := hid hpf2
            have HB := hid hb2
            have HZ := hid hbz
            clear hcs hsf hpf hb2 hbz hsf2 hpf2 hb hx
            go_wp2_with fail
            go_meet
            exact ⟨_, _, _, _, _, _, rfl, rfl, HZ.out, HS.out, HP.out, HB.out⟩
        case rest =>
          obtain ⟨wp, hw⟩ : ∃ wp : World, wp = wc := ⟨_, rfl⟩
          subst hw
          obtain ⟨qp, cp, pA, pk, pd, np, rfl, rfl, hbx, hsf, hpf, hb⟩ := hcut
          clear k0_0 k0_1 f0_0 f0_1 k1_0 k1_1 k1_2 k1_3 k1_4 f1_0 f1_1 f1_2 f1_3 f1_4 k2_0 k2_1 k2_2 f2_0 f2_1 f2_2
          have HG2 := hid (HG.out.below hb)
          have HH2 := hid (HH.out.trans (hb.mono HH.out.size))
          have BX2 := hid (BX.out.below hb)
          clear HG HH BX
          have HG := hid HG2.out
          have HH := hid HH2.out
          have BX := hid BX2.out
          clear HG2 HH2 BX2
          have SP := hid (hsf)
          have PP := hid (hpf)
          have bx := BX.out.push hbx
          simp only [List.cons_append, List.nil_append] at bx
          clear BX
          have BX := hid bx
          clear bx hbx hsf hpf hb HCON
          obtain ⟨⟨k0_0, k0_1⟩, f0_0, f0_1⟩ := (BX.out.get 0 rfl).two
          obtain ⟨⟨k1_0, k1_1, k1_2, k1_3, k1_4⟩, f1_0, f1_1, f1_2, f1_3, f1_4⟩ := (BX.out.get 1 rfl).five
          obtain ⟨⟨k2_0, k2_1, k2_2⟩, f2_0, f2_1, f2_2⟩ := (BX.out.get 2 rfl).three
          obtain ⟨⟨k3_0, k3_1⟩, f3_0, f3_1⟩ := (BX.out.get 3 rfl).two
          have hcon := fun tt => erase_out cols row col tt ⟨af, ab, al⟩ (.slice (some ⟨gg, og, none⟩) n c1) lv1 wp HG.out (HT.out.below HH.out) (HW.out.below HH.out)
          unfold At.agg at hcon
          simp only at hcon
          have HCON := hid (hcon)
          go_upto_region 7 with fail
          go_cut [15, 16] (CallRel wp cols row lv1 (fun _ _ _ _ _ => True))
          case first =>
            as_aux_lemma =>
              clear hcon
              have HCALL := hid HCON.out
              clear HCON
              go_wp2_with fail
              all_goals
                with_reducible refine (HCALL.out _).mono ?_
                rintro e wx ⟨xc, xA, xk, xp, xn, rfl, hb, hx⟩
                dsimp only
                have hcs := (HG.out.below hb).ces
                have hsf := GB.sf hx hcs (by omega) (fun h lv' hm => erase_stay HG.out.sm h hm)
                have hpf : True := trivial
                have hb2 := hb.alloc hb.size (.cells #[.int .i64 xc, .slice xA xk xp] 24)
                have hbz := Box.new wx 24 #[.int .i64 xc, .slice xA xk xp]
                have hsf2 := hsf.below (below_alloc wx (.cells #[.int .i64 xc, .slice xA xk xp] 24))
                have hpf2 := trivial
                have HS := hid hsf2
                have HP := hid hpf2
                have HB := hid hb2
                have HZ := hid hbz
                clear hcs hsf hpf hb2 hbz hsf2 hpf2 hb hx
                go_wp2_with fail
                go_meet
                exact ⟨_, _, _, _, _, _, rfl, rfl, HZ.out, HS.out, HP.out, HB.out⟩
          case rest =>
            obtain ⟨we, hw⟩ : ∃ we : World, we = wc := ⟨_, rfl⟩
            subst hw
            obtain ⟨qe, ce, eA, ek, ed, ne, rfl, rfl, hbx, hsf, hpf, hb⟩ := hcut
            clear k0_0 k0_1 f0_0 f0_1 k1_0 k1_1 k1_2 k1_3 k1_4 f1_0 f1_1 f1_2 f1_3 f1_4 k2_0 k2_1 k2_2 f2_0 f2_1 f2_2 k3_0 k3_1 f3_0 f3_1
            have HG2 := hid (HG.out.below hb)
            have SP2 := hid (SP.out.below hb)
            have PP2 := hid (PP.out.below hb)
            have HH2 := hid (HH.out.trans (hb.mono HH.out.size))
            have BX2 := hid (BX.out.below hb)
            clear HG SP PP HH BX
            have HG := hid HG2.out
            have SP := hid SP2.out
            have PP := hid PP2.out
            have HH := hid HH2.out
            have BX := hid BX2.out
            clear HG2 SP2 PP2 HH2 BX2
            have SE := hid (hsf)
            have bx := BX.out.push hbx
            simp only [List.cons_append, List.nil_append] at bx
            clear BX
            have BX := hid bx
            clear bx hbx hsf hpf hb HCON
            obtain ⟨⟨k0_0, k0_1⟩, f0_0, f0_1⟩ := (BX.out.get 0 rfl).two
            obtain ⟨⟨k1_0, k1_1, k1_2, k1_3, k1_4⟩, f1_0, f1_1, f1_2, f1_3, f1_4⟩ := (BX.out.get 1 rfl).five
            obtain ⟨⟨k2_0, k2_1, k2_2⟩, f2_0, f2_1, f2_2⟩ := (BX.out.get 2 rfl).three
            obtain ⟨⟨k3_0, k3_1⟩, f3_0, f3_1⟩ := (BX.out.get 3 rfl).two
            obtain ⟨⟨k4_0, k4_1⟩, f4_0, f4_1⟩ := (BX.out.get 4 rfl).two
            have hcon := insert_out cols row col m ⟨af, ab, al⟩ (.slice (some ⟨gg, og, none⟩) n c1) lv1 we HG.out (HT.out.below HH.out) (HW.out.below HH.out)
            unfold At.agg at hcon
            simp only at hcon
            have HCON := hid (hcon)
            go_upto_region 8 with fail
            go_cut [17, 18] (CallRel we cols row lv1 (fun _ _ _ _ _ => True))
            case first =>
              as_aux_lemma =>
                clear hcon
                have HCALL := hid HCON.out
                clear HCON
                go_wp2_with fail
                with_reducible refine HCALL.out.mono ?_
                rintro e wx ⟨xc, xA, xk, xp, xn, rfl, hb, hx⟩
                dsimp only
                have hcs := (HG.out.below hb).ces
                have hsf := GB.sf hx hcs (by omega) (fun h lv' hm => insert_stay HG.out.sm h hm)
                have hpf : True := trivial
                have hb2 := hb.alloc hb.size (.cells #[.int .i64 xc, .slice xA xk xp] 24)
                have hbz := Box.new wx 24 #[.int .i64 xc, .slice xA xk xp]
                have hsf2 := hsf.below (below_alloc wx (.cells #[.int .i64 xc, .slice xA xk xp] 24))
                have hpf2 := trivial
                have HS := hid hsf2
                have HP := hid hpf2
                have HB := hid hb2
                have HZ := hid hbz
                clear hcs hsf hpf hb2 hbz hsf2 hpf2 hb hx
                go_wp2_with fail
                go_meet
                exact ⟨_, _, _, _, _, _, rfl, rfl, HZ.out, HS.out, HP.out, HB.out⟩
            case rest =>
              obtain ⟨wj, hw⟩ : ∃ wj : World, wj = wc := ⟨_, rfl⟩
              subst hw
              obtain ⟨qj, cj, jA, jk, jd, nj, rfl, rfl, hbx, hsf, hpf, hb⟩ := hcut
              clear k0_0 k0_1 f0_0 f0_1 k1_0 k1_1 k1_2 k1_3 k1_4 f1_0 f1_1 f1_2 f1_3 f1_4 k2_0 k2_1 k2_2 f2_0 f2_1 f2_2 k3_0 k3_1 f3_0 f3_1 k4_0 k4_1 f4_0 f4_1
              have HG2 := hid (HG.out.below hb)
              have SP2 := hid (SP.out.below hb)
              have PP2 := hid (PP.out.below hb)
              have SE2 := hid (SE.out.below hb)
              have HH2 := hid (HH.out.trans (hb.mono HH.out.size))
              have BX2 := hid (BX.out.below hb)
              clear HG SP PP SE HH BX
              have HG := hid HG2.out
              have SP := hid SP2.out
              have PP := hid PP2.out
              have SE := hid SE2.out
              have HH := hid HH2.out
              have BX := hid BX2.out
              clear HG2 SP2 PP2 SE2 HH2 BX2
              have SJ := hid (hsf)
              have bx := BX.out.push hbx
              simp only [List.cons_append, List.nil_append] at bx
              clear BX
              have BX := hid bx
              clear bx hbx hsf hpf hb HCON
              obtain ⟨⟨k0_0, k0_1⟩, f0_0, f0_1⟩ := (BX.out.get 0 rfl).two
              obtain ⟨⟨k1_0, k1_1, k1_2, k1_3, k1_4⟩, f1_0, f1_1, f1_2, f1_3, f1_4⟩ := (BX.out.get 1 rfl).five
              obtain ⟨⟨k2_0, k2_1, k2_2⟩, f2_0, f2_1, f2_2⟩ := (BX.out.get 2 rfl).three
              obtain ⟨⟨k3_0, k3_1⟩, f3_0, f3_1⟩ := (BX.out.get 3 rfl).two
              obtain ⟨⟨k4_0, k4_1⟩, f4_0, f4_1⟩ := (BX.out.get 4 rfl).two
              obtain ⟨⟨k5_0, k5_1⟩, f5_0, f5_1⟩ := (BX.out.get 5 rfl).two
              have hcon := delete_out cols row col m ⟨af, ab, al⟩ (.slice (some ⟨gg, og, none⟩) n c1) lv1 wj HG.out (HT.out.below HH.out) (HW.out.below HH.out)
              unfold At.agg at hcon
              simp only at hcon
              have HCON := hid (hcon)
              go_upto_region 9 with fail
              go_cut [19, 20] (CallRel wj cols row lv1 (fun _ _ _ _ _ => True))
              case first =>
                as_aux_lemma =>
                  clear hcon
                  have HCALL := hid HCON.out
                  clear HCON
                  go_wp2_with fail
                  with_reducible refine HCALL.out.mono ?_
                  rintro e wx ⟨xc, xA, xk, xp, xn, rfl, hb, hx⟩
                  dsimp only
                  have hcs := (HG.out.below hb).ces
                  have hsf := GB.sf hx hcs (by omega) (fun h lv' hm => delete_stay HG.out.sm h hm)
                  have hpf : True := trivial
                  have hb2 := hb.alloc hb.size (.cells #[.int .i64 xc, .slice xA xk xp] 24)
                  have hbz := Box.new wx 24 #[.int .i64 xc, .slice xA xk xp]
                  have hsf2 := hsf.below (below_alloc wx (.cells #[.int .i64 xc, .slice xA xk xp] 24))
                  have hpf2 := trivial
                  have HS := hid hsf2
                  have HP := hid hpf2
                  have HB := hid hb2
                  have HZ := hid hbz
                  clear hcs hsf hpf hb2 hbz hsf2 hpf2 hb hx
                  go_wp2_with fail
                  go_meet
                  exact ⟨_, _, _, _, _, _, rfl, rfl, HZ.out, HS.out, HP.out, HB.out⟩
              case rest =>
                obtain ⟨wu, hw⟩ : ∃ wu : World, wu = wc := ⟨_, rfl⟩
                subst hw
                obtain ⟨qu, cu, uA, uk, ud, nu, rfl, rfl, hbx, hsf, hpf, hb⟩ := hcut
                clear k0_0 k0_1 f0_0 f0_1 k1_0 k1_1 k1_2 k1_3 k1_4 f1_0 f1_1 f1_2 f1_3 f1_4 k2_0 k2_1 k2_2 f2_0 f2_1 f2_2 k3_0 k3_1 f3_0 f3_1 k4_0 k4_1 f4_0 f4_1 k5_0 k5_1 f5_0 f5_1
                have HG2 := hid (HG.out.below hb)
                have SP2 := hid (SP.out.below hb)
                have PP2 := hid (PP.out.below hb)
                have SE2 := hid (SE.out.below hb)
                have SJ2 := hid (SJ.out.below hb)
                have HH2 := hid (HH.out.trans (hb.mono HH.out.size))
                have BX2 := hid (BX.out.below hb)
                clear HG SP PP SE SJ HH BX
                have HG := hid HG2.out
                have SP := hid SP2.out
                have PP := hid PP2.out
                have SE := hid SE2.out
                have SJ := hid SJ2.out
                have HH := hid HH2.out
                have BX := hid BX2.out
                clear HG2 SP2 PP2 SE2 SJ2 HH2 BX2
                have SD := hid (hsf)
                have bx := BX.out.push hbx
                simp only [List.cons_append, List.nil_append] at bx
                clear BX
                have BX := hid bx
                clear bx hbx hsf hpf hb HCON
                obtain ⟨⟨k0_0, k0_1⟩, f0_0, f0_1⟩ := (BX.out.get 0 rfl).two
                obtain ⟨⟨k1_0, k1_1, k1_2, k1_3, k1_4⟩, f1_0, f1_1, f1_2, f1_3, f1_4⟩ := (BX.out.get 1 rfl).five
                obtain ⟨⟨k2_0, k2_1, k2_2⟩, f2_0, f2_1, f2_2⟩ := (BX.out.get 2 rfl).three
                obtain ⟨⟨k3_0, k3_1⟩, f3_0, f3_1⟩ := (BX.out.get 3 rfl).two
                obtain ⟨⟨k4_0, k4_1⟩, f4_0, f4_1⟩ := (BX.out.get 4 rfl).two
                obtain ⟨⟨k5_0, k5_1⟩, f5_0, f5_1⟩ := (BX.out.get 5 rfl).two
                obtain ⟨⟨k6_0, k6_1⟩, f6_0, f6_1⟩ := (BX.out.get 6 rfl).two
                go_wp2_with fail
                clear k0_0 k0_1 f0_0 f0_1 k1_0 k1_1 k1_2 k1_3 k1_4 f1_0 f1_1 f1_2 f1_3 f1_4 k2_0 k2_1 k2_2 f2_0 f2_1 f2_2 k3_0 k3_1 f3_0 f3_1 k4_0 k4_1 f4_0 f4_1 k5_0 k5_1 f5_0 f5_1 k6_0 k6_1 f6_0 f6_1
                have hbA : Below wu.heap.size wu (wu.alloc (.cells #[.int .i64 cp, .slice pA pk pd, .int .i64 ce, .slice eA ek ed, .int .i64 cj, .slice jA jk jd, .int .i64 cu, .slice uA uk ud] 24)) := below_alloc _ _
                have hbz := Box.new wu 24 #[.int .i64 cp, .slice pA pk pd, .int .i64 ce, .slice eA ek ed, .int .i64 cj, .slice jA jk jd, .int .i64 cu, .slice uA uk ud]
                have HG2 := hid (HG.out.below hbA)
                have SP2 := hid (SP.out.below hbA)
                have PP2 := hid (PP.out.below hbA)
                have SE2 := hid (SE.out.below hbA)
                have SJ2 := hid (SJ.out.below hbA)
                have SD2 := hid (SD.out.below hbA)
                have HH2 := hid (HH.out.trans (hbA.mono HH.out.size))
                have BX2 := hid (BX.out.below hbA)
                clear HG SP PP SE SJ SD HH BX
                have HG := hid HG2.out
                have SP := hid SP2.out
                have PP := hid PP2.out
                have SE := hid SE2.out
                have SJ := hid SJ2.out
                have SD := hid SD2.out
                have HH := hid HH2.out
                have BX := hid BX2.out
                clear HG2 SP2 PP2 SE2 SJ2 SD2 HH2 BX2
                have bx := BX.out.push hbz
                simp only [List.cons_append, List.nil_append] at bx
                clear BX
                have BX := hid bx
                clear bx hbz hbA
                generalize (wu.alloc (.cells #[.int .i64 cp, .slice pA pk pd, .int .i64 ce, .slice eA ek ed, .int .i64 cj, .slice jA jk jd, .int .i64 cu, .slice uA uk ud] 24)) = w10 at *
                generalize wu.heap.size = qz at *
                go_loopw [94] (fun i wr => ∃ k : Nat, k ≤ 4 ∧ i = .int .i64 k ∧ Below w10.heap.size w10 wr) (fun i _ => 4 - (intOf i).toNat)
                case atStart => exact ⟨0, by omega, rfl, Below.refl _ _⟩
                case round =>
                  obtain ⟨k, hk, rfl, hb⟩ := hrel
                  by_cases hlt : k < 4
                  · as_aux_lemma =>
                      obtain ⟨wo, rfl⟩ : ∃ wo : World, wo = wr := ⟨_, rfl⟩
                      have hk4 : (k : Int) < 4 := by omega
                      have hk0 : (0 : Int) ≤ k := by omega
                      have HB := hid hb
                      have hszr : qz < wo.heap.size := ((BX.out.below hb).get 7 rfl).lt
                      rcases four_is ((BX.out.below hb).get 7 rfl) hlt (SP.out.below hb) (SE.out.below hb) (SJ.out.below hb) (SD.out.below hb) HR.out HN.out with ⟨gx, ox, xd, lvx, hx0, hx1, hxe, hlx, hcx, hsx, hst⟩ | ⟨xc, xA, xj, xd, xn, hx0, hx1, hxe, hne⟩
                      rotate_left
                      · have hb1 : (xn == 0) = false := by simpa using hne
                        have hb2 : (xn != 0) = true := by simpa using hne
                        clear hb
                        go_wp2
                        go_roundw
                        case rel => exact ⟨k + 1, by omega, by go_num, (HB.out.alloc HB.out.size _).alloc (Nat.le_trans HB.out.size (by simp)) _⟩
                        case measure => simp [intOf]; omega
                      have hq1 : Below wo.heap.size wo ((wo.alloc (.cells #[.int .i64 cols, .slice (some ⟨gx, ox, none⟩) n xd] 24)).alloc (.cells #[.int .i64 np, .int .i64 ne, .int .i64 nj, .int .i64 nu] 30)) := (below_alloc _ _).alloc (by simp) _
                      have hbx := (Box.new wo 24 #[.int .i64 cols, .slice (some ⟨gx, ox, none⟩) n xd]).alloc (.cells #[.int .i64 np, .int .i64 ne, .int .i64 nj, .int .i64 nu] 30)
                      have hHb := HH.out.trans (hb.mono HH.out.size)
                      have hcall := pRight_any cols _ lvx _ (hlx.below hq1) (hcx.below hq1) hsx (HT.out.below (hHb.trans (hq1.mono hHb.size))) (HW.out.below (hHb.trans (hq1.mono hHb.size)))
                      rw [show (sizeB cols lvx.length && allB cols lvx) = true from hst.1] at hcall
                      have HCALL := hid hcall
                      have HQ1 := hid hq1
                      have HBQ := hid hbx
                      have HST := hid hst
                      have HCX := hid hcx
                      have HLX := hid hlx
                      clear hcall hq1 hbx hst hcx hlx hsx hHb
                      obtain ⟨⟨hg0, hg1⟩, hgf0, hgf1⟩ := ((BX.out.below hb).get 0 rfl).two
                      clear hb
                      go_wp2_with fail
                      with_reducible refine HCALL.out.mono ?_
                      rintro e w2 ⟨rfl, hb2⟩
                      dsimp only
                      have hB2 := HQ1.out.trans (hb2.mono HQ1.out.size)
                      obtain ⟨⟨kx0, kx1⟩, kxf0, kxf1⟩ := (HBQ.out.below hb2 HBQ.out.lt).two
                      have HB2 := hid hB2
                      have hB12 := HB.out.trans (hB2.mono HB.out.size)
                      have HB12 := hid hB12
                      clear hg0 hg1 hgf0 hgf1
                      obtain ⟨⟨hg0, hg1⟩, hgf0, hgf1⟩ := ((BX.out.below HB12.out).get 0 rfl).two
                      clear hB2 hB12 hb2 HCALL hx0 hx1 hxe
                      go_wp2_with fail
                      clear hg0 hg1 hgf0 hgf1 kx0 kx1 kxf0 kxf1 hk4 hk0 hszr
                      go_loopw [130] (fun i wr => ∃ k2 : Nat, k2 ≤ n ∧ i = .int .i64 k2 ∧ Below w2.heap.size w2 wr) (fun i _ => n - (intOf i).toNat)
                      case atStart => exact ⟨0, by omega, rfl, Below.refl _ _⟩
                      case round =>
                        obtain ⟨k2, hk2, rfl, hbi⟩ := hrel
                        by_cases hl2 : k2 < n
                        · have hki : (k2 : Int) < n := by omega
                          have hk20 : (0 : Int) ≤ k2 := by omega
                          have hk2b : (k2 : Int) ≤ 50 := by have := (mayB_cols HR.out).2.2; have := HN.out; omega
                          have hbwi := HB2.out.trans (hbi.mono HB2.out.size)
                          have hb1i := HB12.out.trans (hbi.mono HB12.out.size)
                          obtain ⟨Bx, nx, dx, Bg, ng, dg, sx, ⟨p0, p1⟩, hla⟩ := line_all (HLX.out.below hbwi) (HCX.out.below hbwi) (HG.out.below hb1i) HST.out HN.out hl2 ((BX.out.below hb1i).get 0 rfl)
                          have HLA := hid hla
                          have HB1 := hid hbi
                          have hbr := below_alloc wr (.cells #[.slice Bx nx dx, .bool sx] 57)
                          have HBR := hid hbr
                          clear hla hbr hbi hbwi hb1i
                          go_upto_region 19 with fail
                          clear p0 p1
                          generalize (wr.alloc (.cells #[.slice Bx nx dx, .bool sx] 57)) = w19 at *
                          by_cases hrow : (k2 : Int) = row
                          · as_aux_lemma =>
                              have hsx2 : (sx != sx) = false := by cases sx <;> rfl
                              have hr1 : ((k2 : Int) != row) = false := by simp [hrow]
                              have hr2 : ((k2 : Int) == row) = true := by simp [hrow]
                              clear hrow
                              have hS0 : Below w19.heap.size w19 _ := (Below.refl w19.heap.size w19).drew
                              refine wp_region_S (fun _ w' => Below w19.heap.size w19 w') (by kernel_rfl) ?_
                              refine takeC (i := 0) (v := ?v0a) 135 rfl rfl (by kernel_rfl) (by kernel_rfl) (by kernel_rfl) (by kernel_rfl) (fun _ _ _ h => h) (Or.inl ⟨by rfl, fun w' hw' => ?hy0a⟩) hS0 ?rest0a
                              case hy0a => go_simp; try with_reducible rfl
                              try simp only [Act.put, List.setIfInBounds_toArray, List.set_cons_zero, List.set_cons_succ]
                              refine takeC (i := 1) (v := ?v1a) 136 rfl rfl (by kernel_rfl) (by kernel_rfl) (by kernel_rfl) (by kernel_rfl) (fun _ _ _ h => h) (Or.inl ⟨by rfl, fun w' hw' => ?hy1a⟩) hS0 ?rest1a
                              case hy1a => go_simp; try with_reducible rfl
                              try simp only [Act.put, List.setIfInBounds_toArray, List.set_cons_zero, List.set_cons_succ]
                              refine takeC (i := 2) (v := ?v2a) 137 rfl rfl (by kernel_rfl) (by kernel_rfl) (by kernel_rfl) (by kernel_rfl) (fun _ _ _ h => h) (Or.inl ⟨by rfl, fun w' hw' => ?hy2a⟩) hS0 ?rest2a
                              case hy2a => go_simp; try with_reducible rfl
                              try simp only [Act.put, List.setIfInBounds_toArray, List.set_cons_zero, List.set_cons_succ]
                              refine takeC (i := 3) (v := ?v3a) 138 rfl rfl (by kernel_rfl) (by kernel_rfl) (by kernel_rfl) (by kernel_rfl) (fun _ _ _ h => h) (Or.inl ⟨by rfl, fun w' hw' => ?hy3a⟩) hS0 ?rest3a
                              case hy3a => go_simp; try with_reducible rfl
                              try simp only [Act.put, List.setIfInBounds_toArray, List.set_cons_zero, List.set_cons_succ]
                              refine takeC (i := 4) (v := undef) 139 rfl rfl (by kernel_rfl) (by kernel_rfl) (by kernel_rfl) (by kernel_rfl) (fun _ _ _ h => h) (Or.inr ⟨by rfl, by rfl⟩) hS0 ?_
                              try simp only [Act.put, List.setIfInBounds_toArray, List.set_cons_zero, List.set_cons_succ]
                              refine takeC (i := 5) (v := undef) 140 rfl rfl (by kernel_rfl) (by kernel_rfl) (by kernel_rfl) (by kernel_rfl) (fun _ _ _ h => h) (Or.inr ⟨by rfl, by rfl⟩) hS0 ?_
                              try simp only [Act.put, List.setIfInBounds_toArray, List.set_cons_zero, List.set_cons_succ]
                              refine takeC (i := 6) (v := undef) 141 rfl rfl (by kernel_rfl) (by kernel_rfl) (by kernel_rfl) (by kernel_rfl) (fun _ _ _ h => h) (Or.inr ⟨by rfl, by rfl⟩) hS0 ?_
                              try simp only [Act.put, List.setIfInBounds_toArray, List.set_cons_zero, List.set_cons_succ]
                              refine takeC (i := 7) (v := undef) 142 rfl rfl (by kernel_rfl) (by kernel_rfl) (by kernel_rfl) (by kernel_rfl) (fun _ _ _ h => h) (Or.inr ⟨by rfl, by rfl⟩) hS0 ?_
                              try simp only [Act.put, List.setIfInBounds_toArray, List.set_cons_zero, List.set_cons_succ]
                              refine takeC (i := 8) (v := undef) 143 rfl rfl (by kernel_rfl) (by kernel_rfl) (by kernel_rfl) (by kernel_rfl) (fun _ _ _ h => h) (Or.inr ⟨by rfl, by rfl⟩) hS0 ?_
                              try simp only [Act.put, List.setIfInBounds_toArray, List.set_cons_zero, List.set_cons_succ]
                              refine takeC (i := 9) (v := undef) 144 rfl rfl (by kernel_rfl) (by kernel_rfl) (by kernel_rfl) (by kernel_rfl) (fun _ _ _ h => h) (Or.inr ⟨by rfl, by rfl⟩) hS0 ?_
                              try simp only [Act.put, List.setIfInBounds_toArray, List.set_cons_zero, List.set_cons_succ]
                              refine takeC (i := 10) (v := undef) 145 rfl rfl (by kernel_rfl) (by kernel_rfl) (by kernel_rfl) (by kernel_rfl) (fun _ _ _ h => h) (Or.inr ⟨by rfl, by rfl⟩) hS0 ?_
                              try simp only [Act.put, List.setIfInBounds_toArray, List.set_cons_zero, List.set_cons_succ]
                              refine takeC (i := 11) (v := undef) 146 rfl rfl (by kernel_rfl) (by kernel_rfl) (by kernel_rfl) (by kernel_rfl) (fun _ _ _ h => h) (Or.inr ⟨by rfl, by rfl⟩) hS0 ?_
                              try simp only [Act.put, List.setIfInBounds_toArray, List.set_cons_zero, List.set_cons_succ]
                              refine takeC (i := 12) (v := ?v12a) 147 rfl rfl (by kernel_rfl) (by kernel_rfl) (by kernel_rfl) (by kernel_rfl) (fun _ _ _ h => h) (Or.inl ⟨by rfl, fun w' hw' => ?hy12a⟩) hS0 ?rest12a
                              case hy12a => go_simp; try with_reducible rfl
                              try simp only [Act.put, List.setIfInBounds_toArray, List.set_cons_zero, List.set_cons_succ]
                              refine takeC (i := 13) (v := ?v13a) 148 rfl rfl (by kernel_rfl) (by kernel_rfl) (by kernel_rfl) (by kernel_rfl) (fun _ _ _ h => h) (Or.inl ⟨by rfl, fun w' hw' => ?hy13a⟩) hS0 ?rest13a
                              case hy13a => go_simp; try with_reducible rfl
                              try simp only [Act.put, List.setIfInBounds_toArray, List.set_cons_zero, List.set_cons_succ]
                              refine takeC (i := 14) (v := ?v14a) 149 rfl rfl (by kernel_rfl) (by kernel_rfl) (by kernel_rfl) (by kernel_rfl) (fun _ _ _ h => h) (Or.inl ⟨by rfl, fun w' hw' => ?hy14a⟩) hS0 ?rest14a
                              case hy14a => go_simp; try with_reducible rfl
                              try simp only [Act.put, List.setIfInBounds_toArray, List.set_cons_zero, List.set_cons_succ]
                              refine takeC (i := 15) (v := ?v15a) 150 rfl rfl (by kernel_rfl) (by kernel_rfl) (by kernel_rfl) (by kernel_rfl) (fun _ _ _ h => h) (Or.inl ⟨by rfl, fun w' hw' => ?hy15a⟩) hS0 ?rest15a
                              case hy15a => obtain ⟨kl0, kl1⟩ := HLA.out.line hw'; go_simp; try with_reducible rfl
                              try simp only [Act.put, List.setIfInBounds_toArray, List.set_cons_zero, List.set_cons_succ]
                              refine takeC (i := 16) (v := ?v16a) 151 rfl rfl (by kernel_rfl) (by kernel_rfl) (by kernel_rfl) (by kernel_rfl) (fun _ _ _ h => h) (Or.inl ⟨by rfl, fun w' hw' => ?hy16a⟩) hS0 ?rest16a
                              case hy16a => go_simp; try with_reducible rfl
                              try simp only [Act.put, List.setIfInBounds_toArray, List.set_cons_zero, List.set_cons_succ]
                              refine takeC (i := 17) (v := ?v17a) 152 rfl rfl (by kernel_rfl) (by kernel_rfl) (by kernel_rfl) (by kernel_rfl) (fun _ _ _ h => h) (Or.inl ⟨by rfl, fun w' hw' => ?hy17a⟩) hS0 ?rest17a
                              case hy17a => obtain ⟨kg0, kg1⟩ := HLA.out.grid hw'; go_simp; try with_reducible rfl
                              try simp only [Act.put, List.setIfInBounds_toArray, List.set_cons_zero, List.set_cons_succ]
                              refine takeC (i := 18) (v := ?v18a) 153 rfl rfl (by kernel_rfl) (by kernel_rfl) (by kernel_rfl) (by kernel_rfl) (fun _ _ _ h => h) (Or.inl ⟨by rfl, fun w' hw' => ?hy18a⟩) hS0 ?rest18a
                              case hy18a => go_simp; try with_reducible rfl
                              try simp only [Act.put, List.setIfInBounds_toArray, List.set_cons_zero, List.set_cons_succ]
                              refine takeC (i := 19) (v := ?v19a) 154 rfl rfl (by kernel_rfl) (by kernel_rfl) (by kernel_rfl) (by kernel_rfl) (fun _ _ _ h => h) (Or.inl ⟨by rfl, fun w' hw' => ?hy19a⟩) hS0 ?rest19a
                              case hy19a => go_simp; try with_reducible rfl
                              try simp only [Act.put, List.setIfInBounds_toArray, List.set_cons_zero, List.set_cons_succ]
                              refine takeC (i := 20) (v := ?v20a) 155 rfl rfl (by kernel_rfl) (by kernel_rfl) (by kernel_rfl) (by kernel_rfl) (fun _ _ _ h => h) (Or.inl ⟨by rfl, fun w' hw' => ?hy20a⟩) hS0 ?rest20a
                              case hy20a => go_simp; try with_reducible rfl
                              try simp only [Act.put, List.setIfInBounds_toArray, List.set_cons_zero, List.set_cons_succ]
                              refine takeC (i := 21) (v := ?v21a) 156 rfl rfl (by kernel_rfl) (by kernel_rfl) (by kernel_rfl) (by kernel_rfl) (fun _ _ _ h => h) (Or.inl ⟨by rfl, fun w' hw' => ?hy21a⟩) hS0 ?rest21a
                              case hy21a => obtain ⟨q0, q1⟩ := HLA.out.there hw'; go_simp; try with_reducible rfl
                              try simp only [Act.put, List.setIfInBounds_toArray, List.set_cons_zero, List.set_cons_succ]
                              refine takeC (i := 22) (v := ?v22a) 157 rfl rfl (by kernel_rfl) (by kernel_rfl) (by kernel_rfl) (by kernel_rfl) (fun _ _ _ h => h) (Or.inl ⟨by rfl, fun w' hw' => ?hy22a⟩) hS0 ?rest22a
                              case hy22a => go_simp; try with_reducible rfl
                              try simp only [Act.put, List.setIfInBounds_toArray, List.set_cons_zero, List.set_cons_succ]
                              refine takeC (i := 23) (v := ?v23a) 158 rfl rfl (by kernel_rfl) (by kernel_rfl) (by kernel_rfl) (by kernel_rfl) (fun _ _ _ h => h) (Or.inl ⟨by rfl, fun w' hw' => ?hy23a⟩) hS0 ?rest23a
                              case hy23a => go_simp; try with_reducible rfl
                              try simp only [Act.put, List.setIfInBounds_toArray, List.set_cons_zero, List.set_cons_succ]
                              refine doneS (by kernel_rfl) ?_ _
                              go_wp2
                              go_roundw
                              case rel => exact ⟨k2 + 1, by omega, by go_num, HB1.out.trans ((HBR.out.trans (hS0.mono HBR.out.size)).mono HB1.out.size)⟩
                              case measure => simp [intOf]; omega
                          · as_aux_lemma =>
                              have hsx2 : (sx != sx) = false := by cases sx <;> rfl
                              have hr1 : ((k2 : Int) != row) = true := by simp [hrow]
                              have hr2 : ((k2 : Int) == row) = false := by simp [hrow]
                              have hS0 : Below w19.heap.size w19 _ := (Below.refl w19.heap.size w19).drew
                              refine wp_region_S (fun _ w' => Below w19.heap.size w19 w') (by kernel_rfl) ?_
                              refine takeC (i := 0) (v := ?v0b) 135 rfl rfl (by kernel_rfl) (by kernel_rfl) (by kernel_rfl) (by kernel_rfl) (fun _ _ _ h => h) (Or.inl ⟨by rfl, fun w' hw' => ?hy0b⟩) hS0 ?rest0b
                              case hy0b => go_simp; try with_reducible rfl
                              try simp only [Act.put, List.setIfInBounds_toArray, List.set_cons_zero, List.set_cons_succ]
                              refine takeC (i := 1) (v := ?v1b) 136 rfl rfl (by kernel_rfl) (by kernel_rfl) (by kernel_rfl) (by kernel_rfl) (fun _ _ _ h => h) (Or.inl ⟨by rfl, fun w' hw' => ?hy1b⟩) hS0 ?rest1b
                              case hy1b => go_simp; try with_reducible rfl
                              try simp only [Act.put, List.setIfInBounds_toArray, List.set_cons_zero, List.set_cons_succ]
                              refine takeC (i := 2) (v := ?v2b) 137 rfl rfl (by kernel_rfl) (by kernel_rfl) (by kernel_rfl) (by kernel_rfl) (fun _ _ _ h => h) (Or.inl ⟨by rfl, fun w' hw' => ?hy2b⟩) hS0 ?rest2b
                              case hy2b => go_simp; try with_reducible rfl
                              try simp only [Act.put, List.setIfInBounds_toArray, List.set_cons_zero, List.set_cons_succ]
                              refine takeC (i := 3) (v := ?v3b) 138 rfl rfl (by kernel_rfl) (by kernel_rfl) (by kernel_rfl) (by kernel_rfl) (fun _ _ _ h => h) (Or.inl ⟨by rfl, fun w' hw' => ?hy3b⟩) hS0 ?rest3b
                              case hy3b => go_simp; try with_reducible rfl
                              try simp only [Act.put, List.setIfInBounds_toArray, List.set_cons_zero, List.set_cons_succ]
                              refine takeC (i := 4) (v := ?v4b) 139 rfl rfl (by kernel_rfl) (by kernel_rfl) (by kernel_rfl) (by kernel_rfl) (fun _ _ _ h => h) (Or.inl ⟨by rfl, fun w' hw' => ?hy4b⟩) hS0 ?rest4b
                              case hy4b => obtain ⟨kl0, kl1⟩ := HLA.out.line hw'; go_simp; try with_reducible rfl
                              try simp only [Act.put, List.setIfInBounds_toArray, List.set_cons_zero, List.set_cons_succ]
                              refine takeC (i := 5) (v := ?v5b) 140 rfl rfl (by kernel_rfl) (by kernel_rfl) (by kernel_rfl) (by kernel_rfl) (fun _ _ _ h => h) (Or.inl ⟨by rfl, fun w' hw' => ?hy5b⟩) hS0 ?rest5b
                              case hy5b => go_simp; try with_reducible rfl
                              try simp only [Act.put, List.setIfInBounds_toArray, List.set_cons_zero, List.set_cons_succ]
                              refine takeC (i := 6) (v := ?v6b) 141 rfl rfl (by kernel_rfl) (by kernel_rfl) (by kernel_rfl) (by kernel_rfl) (fun _ _ _ h => h) (Or.inl ⟨by rfl, fun w' hw' => ?hy6b⟩) hS0 ?rest6b
                              case hy6b => obtain ⟨kg0, kg1⟩ := HLA.out.grid hw'; go_simp; try with_reducible rfl
                              try simp only [Act.put, List.setIfInBounds_toArray, List.set_cons_zero, List.set_cons_succ]
                              refine takeC (i := 7) (v := ?v7b) 142 rfl rfl (by kernel_rfl) (by kernel_rfl) (by kernel_rfl) (by kernel_rfl) (fun _ _ _ h => h) (Or.inl ⟨by rfl, fun w' hw' => ?hy7b⟩) hS0 ?rest7b
                              case hy7b => go_simp; try with_reducible rfl
                              try simp only [Act.put, List.setIfInBounds_toArray, List.set_cons_zero, List.set_cons_succ]
                              refine takeC (i := 8) (v := ?v8b) 143 rfl rfl (by kernel_rfl) (by kernel_rfl) (by kernel_rfl) (by kernel_rfl) (fun _ _ _ h => h) (Or.inl ⟨by rfl, fun w' hw' => ?hy8b⟩) hS0 ?rest8b
                              case hy8b => go_simp; try with_reducible rfl
                              try simp only [Act.put, List.setIfInBounds_toArray, List.set_cons_zero, List.set_cons_succ]
                              refine takeC (i := 9) (v := ?v9b) 144 rfl rfl (by kernel_rfl) (by kernel_rfl) (by kernel_rfl) (by kernel_rfl) (fun _ _ _ h => h) (Or.inl ⟨by rfl, fun w' hw' => ?hy9b⟩) hS0 ?rest9b
                              case hy9b => obtain ⟨q0, q1⟩ := HLA.out.there hw'; go_simp; try with_reducible rfl
                              try simp only [Act.put, List.setIfInBounds_toArray, List.set_cons_zero, List.set_cons_succ]
                              refine oneS (k := 10) (by kernel_rfl) rfl (by rfl) (fun K hK => ?_)
                              go_simp
                              go_at_call 32
                              refine (HLA.out.2.2.2.2 hrow _ hS0).mono ?_
                              rintro e w9 ⟨rfl, hb⟩
                              dsimp only
                              have hS1 := hS0.trans (hb.mono hS0.size)
                              refine hK _ _ hS1 ?_
                              clear hK K
                              try simp only [Act.put, List.setIfInBounds_toArray, List.set_cons_zero, List.set_cons_succ]
                              clear hS0 hb
                              have hS0 := hS1
                              clear hS1
                              refine takeC (i := 11) (v := ?v11b) 146 rfl rfl (by kernel_rfl) (by kernel_rfl) (by kernel_rfl) (by kernel_rfl) (fun _ _ _ h => h) (Or.inl ⟨by rfl, fun w' hw' => ?hy11b⟩) hS0 ?rest11b
                              case hy11b => go_simp; try with_reducible rfl
                              try simp only [Act.put, List.setIfInBounds_toArray, List.set_cons_zero, List.set_cons_succ]
                              refine takeC (i := 12) (v := ?v12b) 147 rfl rfl (by kernel_rfl) (by kernel_rfl) (by kernel_rfl) (by kernel_rfl) (fun _ _ _ h => h) (Or.inl ⟨by rfl, fun w' hw' => ?hy12b⟩) hS0 ?rest12b
                              case hy12b => go_simp; try with_reducible rfl
                              try simp only [Act.put, List.setIfInBounds_toArray, List.set_cons_zero, List.set_cons_succ]
                              refine takeC (i := 13) (v := ?v13b) 148 rfl rfl (by kernel_rfl) (by kernel_rfl) (by kernel_rfl) (by kernel_rfl) (fun _ _ _ h => h) (Or.inl ⟨by rfl, fun w' hw' => ?hy13b⟩) hS0 ?rest13b
                              case hy13b => go_simp; try with_reducible rfl
                              try simp only [Act.put, List.setIfInBounds_toArray, List.set_cons_zero, List.set_cons_succ]
                              refine takeC (i := 14) (v := ?v14b) 149 rfl rfl (by kernel_rfl) (by kernel_rfl) (by kernel_rfl) (by kernel_rfl) (fun _ _ _ h => h) (Or.inl ⟨by rfl, fun w' hw' => ?hy14b⟩) hS0 ?rest14b
                              case hy14b => go_simp; try with_reducible rfl
                              try simp only [Act.put, List.setIfInBounds_toArray, List.set_cons_zero, List.set_cons_succ]
                              refine takeC (i := 15) (v := ?v15b) 150 rfl rfl (by kernel_rfl) (by kernel_rfl) (by kernel_rfl) (by kernel_rfl) (fun _ _ _ h => h) (Or.inl ⟨by rfl, fun w' hw' => ?hy15b⟩) hS0 ?rest15b
                              case hy15b => obtain ⟨kl0, kl1⟩ := HLA.out.line hw'; go_simp; try with_reducible rfl
                              try simp only [Act.put, List.setIfInBounds_toArray, List.set_cons_zero, List.set_cons_succ]
                              refine takeC (i := 16) (v := ?v16b) 151 rfl rfl (by kernel_rfl) (by kernel_rfl) (by kernel_rfl) (by kernel_rfl) (fun _ _ _ h => h) (Or.inl ⟨by rfl, fun w' hw' => ?hy16b⟩) hS0 ?rest16b
                              case hy16b => go_simp; try with_reducible rfl
                              try simp only [Act.put, List.setIfInBounds_toArray, List.set_cons_zero, List.set_cons_succ]
                              refine takeC (i := 17) (v := ?v17b) 152 rfl rfl (by kernel_rfl) (by kernel_rfl) (by kernel_rfl) (by kernel_rfl) (fun _ _ _ h => h) (Or.inl ⟨by rfl, fun w' hw' => ?hy17b⟩) hS0 ?rest17b
                              case hy17b => obtain ⟨kg0, kg1⟩ := HLA.out.grid hw'; go_simp; try with_reducible rfl
                              try simp only [Act.put, List.setIfInBounds_toArray, List.set_cons_zero, List.set_cons_succ]
                              refine takeC (i := 18) (v := ?v18b) 153 rfl rfl (by kernel_rfl) (by kernel_rfl) (by kernel_rfl) (by kernel_rfl) (fun _ _ _ h => h) (Or.inl ⟨by rfl, fun w' hw' => ?hy18b⟩) hS0 ?rest18b
                              case hy18b => go_simp; try with_reducible rfl
                              try simp only [Act.put, List.setIfInBounds_toArray, List.set_cons_zero, List.set_cons_succ]
                              refine takeC (i := 19) (v := ?v19b) 154 rfl rfl (by kernel_rfl) (by kernel_rfl) (by kernel_rfl) (by kernel_rfl) (fun _ _ _ h => h) (Or.inl ⟨by rfl, fun w' hw' => ?hy19b⟩) hS0 ?rest19b
                              case hy19b => go_simp; try with_reducible rfl
                              try simp only [Act.put, List.setIfInBounds_toArray, List.set_cons_zero, List.set_cons_succ]
                              refine takeC (i := 20) (v := ?v20b) 155 rfl rfl (by kernel_rfl) (by kernel_rfl) (by kernel_rfl) (by kernel_rfl) (fun _ _ _ h => h) (Or.inl ⟨by rfl, fun w' hw' => ?hy20b⟩) hS0 ?rest20b
                              case hy20b => go_simp; try with_reducible rfl
                              try simp only [Act.put, List.setIfInBounds_toArray, List.set_cons_zero, List.set_cons_succ]
                              refine takeC (i := 21) (v := ?v21b) 156 rfl rfl (by kernel_rfl) (by kernel_rfl) (by kernel_rfl) (by kernel_rfl) (fun _ _ _ h => h) (Or.inl ⟨by rfl, fun w' hw' => ?hy21b⟩) hS0 ?rest21b
                              case hy21b => obtain ⟨q0, q1⟩ := HLA.out.there hw'; go_simp; try with_reducible rfl
                              try simp only [Act.put, List.setIfInBounds_toArray, List.set_cons_zero, List.set_cons_succ]
                              refine takeC (i := 22) (v := ?v22b) 157 rfl rfl (by kernel_rfl) (by kernel_rfl) (by kernel_rfl) (by kernel_rfl) (fun _ _ _ h => h) (Or.inl ⟨by rfl, fun w' hw' => ?hy22b⟩) hS0 ?rest22b
                              case hy22b => go_simp; try with_reducible rfl
                              try simp only [Act.put, List.setIfInBounds_toArray, List.set_cons_zero, List.set_cons_succ]
                              refine takeC (i := 23) (v := ?v23b) 158 rfl rfl (by kernel_rfl) (by kernel_rfl) (by kernel_rfl) (by kernel_rfl) (fun _ _ _ h => h) (Or.inl ⟨by rfl, fun w' hw' => ?hy23b⟩) hS0 ?rest23b
                              case hy23b => go_simp; try with_reducible rfl
                              try simp only [Act.put, List.setIfInBounds_toArray, List.set_cons_zero, List.set_cons_succ]
                              refine doneS (by kernel_rfl) ?_ _
                              go_wp2
                              go_roundw
                              case rel => exact ⟨k2 + 1, by omega, by go_num, HB1.out.trans ((HBR.out.trans (hS0.mono HBR.out.size)).mono HB1.out.size)⟩
                              case measure => simp [intOf]; omega
                        · have hkn : k2 = n := by omega
                          subst hkn
                          go_wp2
                          go_roundw
                          case rel => exact ⟨k + 1, by omega, by go_num, HB12.out.trans (hbi.mono HB12.out.size)⟩
                          case measure => simp [intOf]; omega
                  · as_aux_lemma =>
                      have hk4 : k = 4 := by omega
                      subst hk4
                      clear hlt hk
                      have HG2 := hid (HG.out.below hb)
                      have SP2 := hid (SP.out.below hb)
                      have PP2 := hid (PP.out.below hb)
                      have SE2 := hid (SE.out.below hb)
                      have SJ2 := hid (SJ.out.below hb)
                      have SD2 := hid (SD.out.below hb)
                      have HH2 := hid (HH.out.trans (hb.mono HH.out.size))
                      have BX2 := hid (BX.out.below hb)
                      clear HG SP PP SE SJ SD HH BX
                      have HG := hid HG2.out
                      have SP := hid SP2.out
                      have PP := hid PP2.out
                      have SE := hid SE2.out
                      have SJ := hid SJ2.out
                      have SD := hid SD2.out
                      have HH := hid HH2.out
                      have BX := hid BX2.out
                      clear HG2 SP2 PP2 SE2 SJ2 SD2 HH2 BX2
                      clear hb
                      obtain ⟨w22, hw⟩ : ∃ w22 : World, w22 = wr := ⟨_, rfl⟩
                      subst hw
                      go_upto_region 23 with fail
                      go_cut [179] (fun b wx => b = .bool false ∧ Below w22.heap.size w22 wx)
                      case first =>
                        as_aux_lemma =>
                          have cA : Hid (∀ W', Below w22.heap.size w22 W' → Calls Tryd.prog 14 #[] W' fun e w' => e = .returned (.bool true) ∧ Below W'.heap.size W' w') := fun W' hb => alive_any W' (HT.out.below (HH.out.trans (hb.mono HH.out.size))) (HW.out.below (HH.out.trans (hb.mono HH.out.size)))
                          by_cases hnp : np = 0
                          · have hq1 : (np == 0) = true := by simp [hnp]
                            obtain ⟨gp, op, gl, ol, nl, dl, hpa, ⟨hr0, hr1⟩, ⟨hc0, hc1⟩, hnl, ⟨hgp, hgl⟩, hcp, hcc⟩ := put_at PP.out hnp
                            have HPA := hid hpa
                            have HCP := hid hcp
                            have HCC := hid hcc
                            have HGP := hid hgp
                            have HGL := hid hgl
                            have hcmp := fun W => run_neqC y wd fg bg fl W
                            clear hpa hcp hcc hgp hgl hnp
                            have hS0 : Below w22.heap.size w22 _ := (Below.refl w22.heap.size w22).drew
                            refine wp_region_S (fun _ w' => Below w22.heap.size w22 w') (by kernel_rfl) ?_
                            refine takeC (i := 0) (v := ?v0c) 161 rfl rfl (by kernel_rfl) (by kernel_rfl) (by kernel_rfl) (by kernel_rfl) (fun _ _ _ h => h) (Or.inl ⟨by rfl, fun w' hw' => ?hy0c⟩) hS0 ?rest0c
                            case hy0c => go_simp; try with_reducible rfl
                            try simp only [Act.put, List.setIfInBounds_toArray, List.set_cons_zero, List.set_cons_succ]
                            refine takeC (i := 1) (v := ?v1c) 162 rfl rfl (by kernel_rfl) (by kernel_rfl) (by kernel_rfl) (by kernel_rfl) (fun _ _ _ h => h) (Or.inl ⟨by rfl, fun w' hw' => ?hy1c⟩) hS0 ?rest1c
                            case hy1c => go_simp; try with_reducible rfl
                            try simp only [Act.put, List.setIfInBounds_toArray, List.set_cons_zero, List.set_cons_succ]
                            refine takeC (i := 2) (v := ?v2c) 163 rfl rfl (by kernel_rfl) (by kernel_rfl) (by kernel_rfl) (by kernel_rfl) (fun _ _ _ h => h) (Or.inl ⟨by rfl, fun w' hw' => ?hy2c⟩) hS0 ?rest2c
                            case hy2c => go_simp; try with_reducible rfl
                            try simp only [Act.put, List.setIfInBounds_toArray, List.set_cons_zero, List.set_cons_succ]
                            refine takeC (i := 3) (v := ?v3c) 164 rfl rfl (by kernel_rfl) (by kernel_rfl) (by kernel_rfl) (by kernel_rfl) (fun _ _ _ h => h) (Or.inl ⟨by rfl, fun w' hw' => ?hy3c⟩) hS0 ?rest3c
                            case hy3c => go_simp; try with_reducible rfl
                            try simp only [Act.put, List.setIfInBounds_toArray, List.set_cons_zero, List.set_cons_succ]
                            refine takeC (i := 4) (v := ?v4c) 165 rfl rfl (by kernel_rfl) (by kernel_rfl) (by kernel_rfl) (by kernel_rfl) (fun _ _ _ h => h) (Or.inl ⟨by rfl, fun w' hw' => ?hy4c⟩) hS0 ?rest4c
                            case hy4c => obtain ⟨⟨kp0, kp1⟩, _, _⟩ := ((BX.out.below hw').get 3 rfl).two; rw [HPA.out] at kp1; go_simp; try with_reducible rfl
                            try simp only [Act.put, List.setIfInBounds_toArray, List.set_cons_zero, List.set_cons_succ]
                            refine takeC (i := 5) (v := ?v5c) 166 rfl rfl (by kernel_rfl) (by kernel_rfl) (by kernel_rfl) (by kernel_rfl) (fun _ _ _ h => h) (Or.inl ⟨by rfl, fun w' hw' => ?hy5c⟩) hS0 ?rest5c
                            case hy5c => go_simp; try with_reducible rfl
                            try simp only [Act.put, List.setIfInBounds_toArray, List.set_cons_zero, List.set_cons_succ]
                            refine takeC (i := 6) (v := ?v6c) 167 rfl rfl (by kernel_rfl) (by kernel_rfl) (by kernel_rfl) (by kernel_rfl) (fun _ _ _ h => h) (Or.inl ⟨by rfl, fun w' hw' => ?hy6c⟩) hS0 ?rest6c
                            case hy6c => go_simp; try with_reducible rfl
                            try simp only [Act.put, List.setIfInBounds_toArray, List.set_cons_zero, List.set_cons_succ]
                            refine takeC (i := 7) (v := ?v7c) 168 rfl rfl (by kernel_rfl) (by kernel_rfl) (by kernel_rfl) (by kernel_rfl) (fun _ _ _ h => h) (Or.inl ⟨by rfl, fun w' hw' => ?hy7c⟩) hS0 ?rest7c
                            case hy7c => go_simp; try with_reducible rfl
                            try simp only [Act.put, List.setIfInBounds_toArray, List.set_cons_zero, List.set_cons_succ]
                            refine takeC (i := 8) (v := ?v8c) 169 rfl rfl (by kernel_rfl) (by kernel_rfl) (by kernel_rfl) (by kernel_rfl) (fun _ _ _ h => h) (Or.inl ⟨by rfl, fun w' hw' => ?hy8c⟩) hS0 ?rest8c
                            case hy8c => have q0 := (hw'.cell (p := ⟨gp, op + row.toNat * 2, none⟩) HGP.out).trans HCP.out; go_simp; try with_reducible rfl
                            try simp only [Act.put, List.setIfInBounds_toArray, List.set_cons_zero, List.set_cons_succ]
                            refine takeC (i := 9) (v := ?v9c) 170 rfl rfl (by kernel_rfl) (by kernel_rfl) (by kernel_rfl) (by kernel_rfl) (fun _ _ _ h => h) (Or.inl ⟨by rfl, fun w' hw' => ?hy9c⟩) hS0 ?rest9c
                            case hy9c => go_simp; try with_reducible rfl
                            try simp only [Act.put, List.setIfInBounds_toArray, List.set_cons_zero, List.set_cons_succ]
                            refine takeC (i := 10) (v := ?v10c) 171 rfl rfl (by kernel_rfl) (by kernel_rfl) (by kernel_rfl) (by kernel_rfl) (fun _ _ _ h => h) (Or.inl ⟨by rfl, fun w' hw' => ?hy10c⟩) hS0 ?rest10c
                            case hy10c => go_simp; try with_reducible rfl
                            try simp only [Act.put, List.setIfInBounds_toArray, List.set_cons_zero, List.set_cons_succ]
                            refine takeC (i := 11) (v := ?v11c) 172 rfl rfl (by kernel_rfl) (by kernel_rfl) (by kernel_rfl) (by kernel_rfl) (fun _ _ _ h => h) (Or.inl ⟨by rfl, fun w' hw' => ?hy11c⟩) hS0 ?rest11c
                            case hy11c => obtain ⟨z0, z1, z2, z3, z4⟩ := HCC.out; have z0 := (hw'.cell (p := ⟨gl, ol + col.toNat * 5, none⟩) HGL.out).trans z0; have z1 := (hw'.cell (p := ⟨gl, ol + col.toNat * 5 + 1, none⟩) HGL.out).trans z1; have z2 := (hw'.cell (p := ⟨gl, ol + col.toNat * 5 + 2, none⟩) HGL.out).trans z2; have z3 := (hw'.cell (p := ⟨gl, ol + col.toNat * 5 + 3, none⟩) HGL.out).trans z3; have z4 := (hw'.cell (p := ⟨gl, ol + col.toNat * 5 + 4, none⟩) HGL.out).trans z4; go_simp; try with_reducible rfl
                            try simp only [Act.put, List.setIfInBounds_toArray, List.set_cons_zero, List.set_cons_succ]
                            refine takeC (i := 12) (v := ?v12c) 173 rfl rfl (by kernel_rfl) (by kernel_rfl) (by kernel_rfl) (by kernel_rfl) (fun _ _ _ h => h) (Or.inl ⟨by rfl, fun w' hw' => ?hy12c⟩) hS0 ?rest12c
                            case hy12c => obtain ⟨⟨kc0, kc1, kc2, kc3, kc4⟩, _⟩ := ((BX.out.below hw').get 1 rfl).five; go_simp; try with_reducible rfl
                            try simp only [Act.put, List.setIfInBounds_toArray, List.set_cons_zero, List.set_cons_succ]
                            refine takeC (i := 13) (v := ?v13c) 174 rfl rfl (by kernel_rfl) (by kernel_rfl) (by kernel_rfl) (by kernel_rfl) (fun _ _ _ h => h) (Or.inl ⟨by rfl, fun w' hw' => ?hy13c⟩) hS0 ?rest13c
                            case hy13c => go_simp; try with_reducible rfl
                            try simp only [Act.put, List.setIfInBounds_toArray, List.set_cons_zero, List.set_cons_succ]
                            refine takeC (i := 14) (v := ?v14c) 175 rfl rfl (by kernel_rfl) (by kernel_rfl) (by kernel_rfl) (by kernel_rfl) (fun _ _ _ h => h) (Or.inl ⟨by rfl, fun w' hw' => ?hy14c⟩) hS0 ?rest14c
                            case hy14c => go_simp; try with_reducible rfl
                            try simp only [Act.put, List.setIfInBounds_toArray, List.set_cons_zero, List.set_cons_succ]
                            refine takeC (i := 15) (v := ?v15c) 176 rfl rfl (by kernel_rfl) (by kernel_rfl) (by kernel_rfl) (by kernel_rfl) (fun _ _ _ h => h) (Or.inl ⟨by rfl, fun w' hw' => ?hy15c⟩) hS0 ?rest15c
                            case hy15c => go_simp; try with_reducible rfl
                            try simp only [Act.put, List.setIfInBounds_toArray, List.set_cons_zero, List.set_cons_succ]
                            refine oneS (k := 16) (by kernel_rfl) rfl (by rfl) (fun K hK => ?_)
                            go_simp
                            go_at_call 14
                            refine (cA.out _ hS0).mono ?_
                            rintro e w9 ⟨rfl, hb⟩
                            dsimp only
                            have hS1 := hS0.trans (hb.mono hS0.size)
                            refine hK _ _ hS1 ?_
                            clear hK K
                            try simp only [Act.put, List.setIfInBounds_toArray, List.set_cons_zero, List.set_cons_succ]
                            clear hS0 hb
                            have hS0 := hS1
                            clear hS1
                            refine takeC (i := 17) (v := ?v17c) 178 rfl rfl (by kernel_rfl) (by kernel_rfl) (by kernel_rfl) (by kernel_rfl) (fun _ _ _ h => h) (Or.inl ⟨by rfl, fun w' hw' => ?hy17c⟩) hS0 ?rest17c
                            case hy17c => go_simp; try with_reducible rfl
                            try simp only [Act.put, List.setIfInBounds_toArray, List.set_cons_zero, List.set_cons_succ]
                            refine takeC (i := 18) (v := ?v18c) 179 rfl rfl (by kernel_rfl) (by kernel_rfl) (by kernel_rfl) (by kernel_rfl) (fun _ _ _ h => h) (Or.inl ⟨by rfl, fun w' hw' => ?hy18c⟩) hS0 ?rest18c
                            case hy18c => go_simp; try with_reducible rfl
                            try simp only [Act.put, List.setIfInBounds_toArray, List.set_cons_zero, List.set_cons_succ]
                            refine doneS (by kernel_rfl) ?_ _
                            go_wp2_with fail
                            go_meet
                            exact ⟨rfl, hS0⟩
                          · have hq1 : (np == 0) = false := by simp [hnp]
                            clear hnp
                            have hS0 : Below w22.heap.size w22 _ := (Below.refl w22.heap.size w22).drew
                            refine wp_region_S (fun _ w' => Below w22.heap.size w22 w') (by kernel_rfl) ?_
                            refine takeC (i := 0) (v := ?v0d) 161 rfl rfl (by kernel_rfl) (by kernel_rfl) (by kernel_rfl) (by kernel_rfl) (fun _ _ _ h => h) (Or.inl ⟨by rfl, fun w' hw' => ?hy0d⟩) hS0 ?rest0d
                            case hy0d => go_simp; try with_reducible rfl
                            try simp only [Act.put, List.setIfInBounds_toArray, List.set_cons_zero, List.set_cons_succ]
                            refine takeC (i := 1) (v := ?v1d) 162 rfl rfl (by kernel_rfl) (by kernel_rfl) (by kernel_rfl) (by kernel_rfl) (fun _ _ _ h => h) (Or.inl ⟨by rfl, fun w' hw' => ?hy1d⟩) hS0 ?rest1d
                            case hy1d => go_simp; try with_reducible rfl
                            try simp only [Act.put, List.setIfInBounds_toArray, List.set_cons_zero, List.set_cons_succ]
                            refine takeC (i := 2) (v := ?v2d) 163 rfl rfl (by kernel_rfl) (by kernel_rfl) (by kernel_rfl) (by kernel_rfl) (fun _ _ _ h => h) (Or.inl ⟨by rfl, fun w' hw' => ?hy2d⟩) hS0 ?rest2d
                            case hy2d => go_simp; try with_reducible rfl
                            try simp only [Act.put, List.setIfInBounds_toArray, List.set_cons_zero, List.set_cons_succ]
                            refine takeC (i := 3) (v := undef) 164 rfl rfl (by kernel_rfl) (by kernel_rfl) (by kernel_rfl) (by kernel_rfl) (fun _ _ _ h => h) (Or.inr ⟨by rfl, by rfl⟩) hS0 ?_
                            try simp only [Act.put, List.setIfInBounds_toArray, List.set_cons_zero, List.set_cons_succ]
                            refine takeC (i := 4) (v := undef) 165 rfl rfl (by kernel_rfl) (by kernel_rfl) (by kernel_rfl) (by kernel_rfl) (fun _ _ _ h => h) (Or.inr ⟨by rfl, by rfl⟩) hS0 ?_
                            try simp only [Act.put, List.setIfInBounds_toArray, List.set_cons_zero, List.set_cons_succ]
                            refine takeC (i := 5) (v := undef) 166 rfl rfl (by kernel_rfl) (by kernel_rfl) (by kernel_rfl) (by kernel_rfl) (fun _ _ _ h => h) (Or.inr ⟨by rfl, by rfl⟩) hS0 ?_
                            try simp only [Act.put, List.setIfInBounds_toArray, List.set_cons_zero, List.set_cons_succ]
                            refine takeC (i := 6) (v := undef) 167 rfl rfl (by kernel_rfl) (by kernel_rfl) (by kernel_rfl) (by kernel_rfl) (fun _ _ _ h => h) (Or.inr ⟨by rfl, by rfl⟩) hS0 ?_
                            try simp only [Act.put, List.setIfInBounds_toArray, List.set_cons_zero, List.set_cons_succ]
                            refine takeC (i := 7) (v := undef) 168 rfl rfl (by kernel_rfl) (by kernel_rfl) (by kernel_rfl) (by kernel_rfl) (fun _ _ _ h => h) (Or.inr ⟨by rfl, by rfl⟩) hS0 ?_
                            try simp only [Act.put, List.setIfInBounds_toArray, List.set_cons_zero, List.set_cons_succ]
                            refine takeC (i := 8) (v := undef) 169 rfl rfl (by kernel_rfl) (by kernel_rfl) (by kernel_rfl) (by kernel_rfl) (fun _ _ _ h => h) (Or.inr ⟨by rfl, by rfl⟩) hS0 ?_
                            try simp only [Act.put, List.setIfInBounds_toArray, List.set_cons_zero, List.set_cons_succ]
                            refine takeC (i := 9) (v := undef) 170 rfl rfl (by kernel_rfl) (by kernel_rfl) (by kernel_rfl) (by kernel_rfl) (fun _ _ _ h => h) (Or.inr ⟨by rfl, by rfl⟩) hS0 ?_
                            try simp only [Act.put, List.setIfInBounds_toArray, List.set_cons_zero, List.set_cons_succ]
                            refine takeC (i := 10) (v := undef) 171 rfl rfl (by kernel_rfl) (by kernel_rfl) (by kernel_rfl) (by kernel_rfl) (fun _ _ _ h => h) (Or.inr ⟨by rfl, by rfl⟩) hS0 ?_
                            try simp only [Act.put, List.setIfInBounds_toArray, List.set_cons_zero, List.set_cons_succ]
                            refine takeC (i := 11) (v := undef) 172 rfl rfl (by kernel_rfl) (by kernel_rfl) (by kernel_rfl) (by kernel_rfl) (fun _ _ _ h => h) (Or.inr ⟨by rfl, by rfl⟩) hS0 ?_
                            try simp only [Act.put, List.setIfInBounds_toArray, List.set_cons_zero, List.set_cons_succ]
                            refine takeC (i := 12) (v := undef) 173 rfl rfl (by kernel_rfl) (by kernel_rfl) (by kernel_rfl) (by kernel_rfl) (fun _ _ _ h => h) (Or.inr ⟨by rfl, by rfl⟩) hS0 ?_
                            try simp only [Act.put, List.setIfInBounds_toArray, List.set_cons_zero, List.set_cons_succ]
                            refine takeC (i := 13) (v := undef) 174 rfl rfl (by kernel_rfl) (by kernel_rfl) (by kernel_rfl) (by kernel_rfl) (fun _ _ _ h => h) (Or.inr ⟨by rfl, by rfl⟩) hS0 ?_
                            try simp only [Act.put, List.setIfInBounds_toArray, List.set_cons_zero, List.set_cons_succ]
                            refine takeC (i := 14) (v := ?v14d) 175 rfl rfl (by kernel_rfl) (by kernel_rfl) (by kernel_rfl) (by kernel_rfl) (fun _ _ _ h => h) (Or.inl ⟨by rfl, fun w' hw' => ?hy14d⟩) hS0 ?rest14d
                            case hy14d => go_simp; try with_reducible rfl
                            try simp only [Act.put, List.setIfInBounds_toArray, List.set_cons_zero, List.set_cons_succ]
                            refine takeC (i := 15) (v := ?v15d) 176 rfl rfl (by kernel_rfl) (by kernel_rfl) (by kernel_rfl) (by kernel_rfl) (fun _ _ _ h => h) (Or.inl ⟨by rfl, fun w' hw' => ?hy15d⟩) hS0 ?rest15d
                            case hy15d => go_simp; try with_reducible rfl
                            try simp only [Act.put, List.setIfInBounds_toArray, List.set_cons_zero, List.set_cons_succ]
                            refine oneS (k := 16) (by kernel_rfl) rfl (by rfl) (fun K hK => ?_)
                            go_simp
                            go_at_call 14
                            refine (cA.out _ hS0).mono ?_
                            rintro e w9 ⟨rfl, hb⟩
                            dsimp only
                            have hS1 := hS0.trans (hb.mono hS0.size)
                            refine hK _ _ hS1 ?_
                            clear hK K
                            try simp only [Act.put, List.setIfInBounds_toArray, List.set_cons_zero, List.set_cons_succ]
                            clear hS0 hb
                            have hS0 := hS1
                            clear hS1
                            refine takeC (i := 17) (v := ?v17d) 178 rfl rfl (by kernel_rfl) (by kernel_rfl) (by kernel_rfl) (by kernel_rfl) (fun _ _ _ h => h) (Or.inl ⟨by rfl, fun w' hw' => ?hy17d⟩) hS0 ?rest17d
                            case hy17d => go_simp; try with_reducible rfl
                            try simp only [Act.put, List.setIfInBounds_toArray, List.set_cons_zero, List.set_cons_succ]
                            refine takeC (i := 18) (v := ?v18d) 179 rfl rfl (by kernel_rfl) (by kernel_rfl) (by kernel_rfl) (by kernel_rfl) (fun _ _ _ h => h) (Or.inl ⟨by rfl, fun w' hw' => ?hy18d⟩) hS0 ?rest18d
                            case hy18d => go_simp; try with_reducible rfl
                            try simp only [Act.put, List.setIfInBounds_toArray, List.set_cons_zero, List.set_cons_succ]
                            refine doneS (by kernel_rfl) ?_ _
                            go_wp2_with fail
                            go_meet
                            exact ⟨rfl, hS0⟩
                      case rest =>
                        as_aux_lemma =>
                          obtain ⟨w23, hw⟩ : ∃ w23 : World, w23 = wc := ⟨_, rfl⟩
                          subst hw
                          obtain ⟨rfl, hd⟩ := hcut
                          clear PP SP SE SJ SD
                          have HG2 := hid (HG.out.below hd)
                          have HH2 := hid (HH.out.trans (hd.mono HH.out.size))
                          have BX2 := hid (BX.out.below hd)
                          clear HG HH BX
                          have HG := hid HG2.out
                          have HH := hid HH2.out
                          have BX := hid BX2.out
                          clear HG2 HH2 BX2
                          clear hd
                          obtain ⟨⟨k0_0, k0_1⟩, f0_0, f0_1⟩ := (BX.out.get 0 rfl).two
                          obtain ⟨⟨k1_0, k1_1, k1_2, k1_3, k1_4⟩, f1_0, f1_1, f1_2, f1_3, f1_4⟩ := (BX.out.get 1 rfl).five
                          obtain ⟨⟨k2_0, k2_1, k2_2⟩, f2_0, f2_1, f2_2⟩ := (BX.out.get 2 rfl).three
                          have hn1 : 1 ≤ n := by have := (mayB_cols HR.out).2.1; have := HN.out; omega
                          have hn2 : n ≤ 50 := by have := (mayB_cols HR.out).2.2; have := HN.out; omega
                          obtain ⟨So, hSo⟩ : ∃ So, scrollOk cols lv1 row ((n : Int) - 1) m ⟨af, ab, al⟩ = So := ⟨_, rfl⟩
                          have HSO := hid hSo
                          clear hSo
                          go_upto_region 25 with fail
                          have hcall := up_out cols row ((n : Int) - 1) m ⟨af, ab, al⟩ (.slice (some ⟨gg, og, none⟩) n c1) lv1 w23 HG.out (HT.out.below HH.out) (HW.out.below HH.out)
                          unfold At.agg at hcall
                          simp only at hcall
                          have HCALL := hid hcall
                          clear hcall
                          go_wp2_with fail
                          with_reducible refine HCALL.out.mono ?_
                          rintro e w2 ⟨xuc, uA, uk, ud, gB, gj, gd, xu, rfl, hb, hx⟩
                          clear HCALL
                          have huf := up_uf HG.out.sm hx
                          have hgo := gone_is HN.out hx
                          rw [HSO.out] at huf hgo
                          have GO := hid hgo
                          clear hx hgo
                          dsimp only
                          clear k0_0 k0_1 f0_0 f0_1 k1_0 k1_1 k1_2 k1_3 k1_4 f1_0 f1_1 f1_2 f1_3 f1_4 k2_0 k2_1 k2_2 f2_0 f2_1 f2_2
                          have UU2 := hid ((huf).below (below_alloc w2 (.cells #[.int .i64 xuc, .slice uA uk ud] 24)))
                          have hb2 := hb.alloc hb.size (.cells #[.int .i64 xuc, .slice uA uk ud] 24)
                          have hbx := (BX.out.below hb).alloc 24 #[.int .i64 xuc, .slice uA uk ud]
                          simp only [List.cons_append, List.nil_append] at hbx
                          have HG2 := hid (HG.out.below hb2)
                          have HH2 := hid (HH.out.trans (hb2.mono HH.out.size))
                          have BX2 := hid hbx
                          clear HG HH BX hb hb2 hbx huf
                          go_upto_region 26 with fail
                          generalize (w2.alloc (.cells #[.int .i64 xuc, .slice uA uk ud] 24)) = v2 at *
                          generalize w2.heap.size = q2 at *
                          have HG := hid HG2.out
                          have UU := hid UU2.out
                          have HH := hid HH2.out
                          have BX := hid BX2.out
                          clear HG2 UU2 HH2 BX2
                          obtain ⟨⟨k0_0, k0_1⟩, f0_0, f0_1⟩ := (BX.out.get 0 rfl).two
                          obtain ⟨⟨k1_0, k1_1, k1_2, k1_3, k1_4⟩, f1_0, f1_1, f1_2, f1_3, f1_4⟩ := (BX.out.get 1 rfl).five
                          obtain ⟨⟨k2_0, k2_1, k2_2⟩, f2_0, f2_1, f2_2⟩ := (BX.out.get 2 rfl).three
                          have hcall := down_out cols row ((n : Int) - 1) m ⟨af, ab, al⟩ (.slice (some ⟨gg, og, none⟩) n c1) lv1 v2 HG.out (HT.out.below HH.out) (HW.out.below HH.out)
                          unfold At.agg at hcall
                          simp only at hcall
                          have HCALL := hid hcall
                          clear hcall
                          go_wp2_with fail
                          with_reducible refine HCALL.out.mono ?_
                          rintro e w3 ⟨xdc, dA, dk, dd, xd, rfl, hb, hx⟩
                          clear HCALL
                          have huf := down_uf HG.out.sm hx
                          rw [HSO.out] at huf
                          clear hx
                          dsimp only
                          clear k0_0 k0_1 f0_0 f0_1 k1_0 k1_1 k1_2 k1_3 k1_4 f1_0 f1_1 f1_2 f1_3 f1_4 k2_0 k2_1 k2_2 f2_0 f2_1 f2_2
                          have UD2 := hid ((huf).below (below_alloc w3 (.cells #[.int .i64 xdc, .slice dA dk dd] 24)))
                          have hb2 := hb.alloc hb.size (.cells #[.int .i64 xdc, .slice dA dk dd] 24)
                          have hbx := (BX.out.below hb).alloc 24 #[.int .i64 xdc, .slice dA dk dd]
                          simp only [List.cons_append, List.nil_append] at hbx
                          have HG2 := hid (HG.out.below hb2)
                          have UU2 := hid (UU.out.below hb2)
                          have HH2 := hid (HH.out.trans (hb2.mono HH.out.size))
                          have BX2 := hid hbx
                          clear HG UU HH BX hb hb2 hbx huf
                          go_upto_region 27 with fail
                          generalize (w3.alloc (.cells #[.int .i64 xdc, .slice dA dk dd] 24)) = v3 at *
                          generalize w3.heap.size = q3 at *
                          have HG := hid HG2.out
                          have UU := hid UU2.out
                          have UD := hid UD2.out
                          have HH := hid HH2.out
                          have BX := hid BX2.out
                          clear HG2 UU2 UD2 HH2 BX2
                          obtain ⟨⟨k0_0, k0_1⟩, f0_0, f0_1⟩ := (BX.out.get 0 rfl).two
                          obtain ⟨⟨k8_0, k8_1⟩, f8_0, f8_1⟩ := (BX.out.get 8 rfl).two
                          obtain ⟨⟨k9_0, k9_1⟩, f9_0, f9_1⟩ := (BX.out.get 9 rfl).two
                          cases So
                          · have hxu : xu = 1 := UU.out.none_
                            have hxd : xd = 1 := UD.out.none_
                            go_wp2
                            go_ret
                            exact ⟨rfl, HH.out⟩
                          · obtain ⟨hxu, huk, cU⟩ := UU.out.right (HT.out.below HH.out) (HW.out.below HH.out)
                            obtain ⟨hxd, hdk, cD⟩ := UD.out.right (HT.out.below HH.out) (HW.out.below HH.out)
                            rw [HN.out] at huk hdk
                            obtain ⟨hr0, hr1⟩ := scroll_rows HSO.out
                            rw [HN.out] at hr1
                            obtain ⟨hg1, hg2⟩ := GO.out rfl
                            rw [huk] at cU
                            rw [hdk] at cD
                            have CU := hid cU
                            have CD := hid cD
                            clear cU cD
                            have hmin : (m : Int) ≤ (n : Int) - row ∨ (n : Int) - row < (m : Int) := by omega
                            rcases hmin with hm1 | hm1
                            · as_aux_lemma =>
                                have hgj : (gj : Int) = m := hg1 hm1
                                clear hg1 hg2
                                go_upto_region 29 with fail
                                go_wp2_with fail
                                with_reducible refine (CU.out _ (Below.refl _ _)).mono ?_
                                rintro e w30 ⟨rfl, hb30⟩
                                dsimp only
                                clear k0_0 k0_1 f0_0 f0_1 k8_0 k8_1 f8_0 f8_1 k9_0 k9_1 f9_0 f9_1
                                obtain ⟨⟨a0, a1⟩, _, _⟩ := ((BX.out.below hb30).get 0 rfl).two
                                obtain ⟨⟨b0, b1⟩, _, _⟩ := ((BX.out.below hb30).get 8 rfl).two
                                obtain ⟨⟨c0, c1_⟩, _, _⟩ := ((BX.out.below hb30).get 9 rfl).two
                                go_wp2_with fail
                                with_reducible refine (CD.out _ hb30).mono ?_
                                rintro e w31 ⟨rfl, hb31⟩
                                dsimp only
                                have hb3 := hb30.trans (hb31.mono hb30.size)
                                clear a0 a1 b0 b1 c0 c1_
                                obtain ⟨⟨a0, a1⟩, _, _⟩ := ((BX.out.below hb3).get 0 rfl).two
                                obtain ⟨⟨b0, b1⟩, _, _⟩ := ((BX.out.below hb3).get 8 rfl).two
                                obtain ⟨⟨c0, c1_⟩, _, _⟩ := ((BX.out.below hb3).get 9 rfl).two
                                have HB3 := hid (HH.out.trans (hb3.mono HH.out.size))
                                clear hb3 hb30 hb31
                                go_wp2
                                go_ret
                                exact ⟨rfl, HB3.out⟩
                            · as_aux_lemma =>
                                have hgj : (gj : Int) = (n : Int) - row := hg2 hm1
                                clear hg1 hg2
                                go_upto_region 29 with fail
                                go_wp2_with fail
                                with_reducible refine (CU.out _ (Below.refl _ _)).mono ?_
                                rintro e w30 ⟨rfl, hb30⟩
                                dsimp only
                                clear k0_0 k0_1 f0_0 f0_1 k8_0 k8_1 f8_0 f8_1 k9_0 k9_1 f9_0 f9_1
                                obtain ⟨⟨a0, a1⟩, _, _⟩ := ((BX.out.below hb30).get 0 rfl).two
                                obtain ⟨⟨b0, b1⟩, _, _⟩ := ((BX.out.below hb30).get 8 rfl).two
                                obtain ⟨⟨c0, c1_⟩, _, _⟩ := ((BX.out.below hb30).get 9 rfl).two
                                go_wp2_with fail
                                with_reducible refine (CD.out _ hb30).mono ?_
                                rintro e w31 ⟨rfl, hb31⟩
                                dsimp only
                                have hb3 := hb30.trans (hb31.mono hb30.size)
                                clear a0 a1 b0 b1 c0 c1_
                                obtain ⟨⟨a0, a1⟩, _, _⟩ := ((BX.out.below hb3).get 0 rfl).two
                                obtain ⟨⟨b0, b1⟩, _, _⟩ := ((BX.out.below hb3).get 8 rfl).two
                                obtain ⟨⟨c0, c1_⟩, _, _⟩ := ((BX.out.below hb3).get 9 rfl).two
                                have HB3 := hid (HH.out.trans (hb3.mono HH.out.size))
                                clear hb3 hb30 hb31
                                go_wp2
                                go_ret
                                exact ⟨rfl, HB3.out⟩
end Go.Proofs.YtdpicbfpjnampaaDoor
