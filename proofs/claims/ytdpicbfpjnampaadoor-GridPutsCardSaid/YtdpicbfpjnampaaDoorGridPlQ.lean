/- The law GridPuts, walked. Made by wip/gen/gridPutsLaw.py. -/
import Derived.Test.YtdpicbfpjnampaaDoorGridPkQ
import Derived.Test.YtdpicbfpjnampaaDoorHeldSQ
import Derived.Deep.DeepCutAuto
import Derived.Deep.RegionWith
namespace Go.Proofs.YtdpicbfpjnampaaDoor
open Go.RowKit

set_option maxRecDepth 100000 in
set_option maxHeartbeats 8000000 in
theorem puts_any (cols row col tt : Int) (v : Value) (lv : List (Ln × Value)) (c : Ce) (a : At) (soft : Bool) (W : World) (hr : LR W v lv) (hc : CesOf W lv) (hn : (lv.length : Int) ≤ 9223372036854775807)
    (hl : ∀ e ∈ lv, (e.1.cs.length : Int) ≤ 9223372036854775807 ∧ ∀ c ∈ e.1.cs, (c.tx.size : Int) ≤ 9223372036854775807) (hct : (c.tx.size : Int) ≤ 9223372036854775807) (hT : Tab W) (hW : TabW W) :
    Calls Tryd.prog 3 #[.agg #[.int .i64 cols, v], .int .i64 row, .int .i64 col, .int .i64 tt, c.agg, a.agg, .bool soft] W fun e w' => e = .returned (.bool true) ∧ Below W.heap.size W w' := by
  obtain ⟨gA, gc, rfl⟩ := hr.spell
  obtain ⟨tx, wd, fg, bg, fl⟩ := c
  obtain ⟨af, ab, al⟩ := a
  simp only at hct
  have hbel : Below W.heap.size W (((W.alloc (.cells #[.int .i64 cols, .slice gA lv.length gc] 24)).alloc (.cells #[.string tx, .int .i64 wd, .int .i64 fg, .int .i64 bg, .int .i64 fl] 28)).alloc (.cells #[.int .i64 af, .int .i64 ab, .int .i64 al] 26)) := ((below_alloc _ _).alloc (by simp) _).alloc (by simp <;> omega) _
  have b0 := (((Bxs.nil W).alloc 24 #[.int .i64 cols, .slice gA lv.length gc]).alloc 28 #[.string tx, .int .i64 wd, .int .i64 fg, .int .i64 bg, .int .i64 fl]).alloc 26 #[.int .i64 af, .int .i64 ab, .int .i64 al]
  simp only [World.size_alloc, List.nil_append, List.cons_append] at b0
  have hfew := few_any cols _ lv _ (hr.below hbel) (hc.below hbel) hn hl
  obtain ⟨gn, hgn⟩ : ∃ gn, lv.length = gn := ⟨_, rfl⟩
  rw [hgn] at hfew b0 hbel ⊢
  have HFEW := hid hfew
  have B0 := hid b0
  have H0 := hid hbel
  have s0 : W.heap.size + 1 + 1 + 1 ≤ (((W.alloc (.cells #[.int .i64 cols, .slice gA gn gc] 24)).alloc (.cells #[.string tx, .int .i64 wd, .int .i64 fg, .int .i64 bg, .int .i64 fl] 28)).alloc (.cells #[.int .i64 af, .int .i64 ab, .int .i64 al] 26)).heap.size := by simp
  have S0 := hid s0
  have HT := hid hT
  have HW := hid hW
  clear hfew b0 hbel s0 hT hW hr hc hn hl hgn
  unfold Ce.agg Ce.cells At.agg
  simp only
  go_enter Tryd.func3, Tryd.ntmps3
  go_upto_region 1 with fail
  generalize (((W.alloc (.cells #[.int .i64 cols, .slice gA gn gc] 24)).alloc (.cells #[.string tx, .int .i64 wd, .int .i64 fg, .int .i64 bg, .int .i64 fl] 28)).alloc (.cells #[.int .i64 af, .int .i64 ab, .int .i64 al] 26)) = w0 at *
  obtain ⟨⟨k0, k1⟩, f0, f1⟩ := (B0.out.get 0 rfl).two
  go_wp2_with fail
  with_reducible refine HFEW.out.mono ?_
  rintro e w1 ⟨v1, lv1, rfl, hm1, hl1, hc1, hb1⟩
  dsimp only
  have b1 := B0.out.below hb1
  have g1 : Box w1 W.heap.size 24 #[.int .i64 cols, .slice gA gn gc] := b1.get 0 rfl
  obtain ⟨A1, c1, hv1⟩ := hl1.spell
  subst hv1
  obtain ⟨n, hn1⟩ : ∃ n, lv1.length = n := ⟨_, rfl⟩
  have HN := hid hn1
  rw [hn1] at hl1 ⊢
  clear k0 k1 f0 f1
  obtain ⟨⟨k0, k1⟩, f0, f1⟩ := g1.two
  have hls : LSl ((w1.setCell ⟨W.heap.size, 0, none⟩ (.int .i64 cols)).setCell ⟨W.heap.size, 1, none⟩ (.slice A1 n c1)) w0.heap.size (.slice A1 n c1) lv1 := (hl1.set g1 (by decide) _).set (g1.set _) (by decide) _
  have hcs : ∀ x ∈ lv1, CSl ((w1.setCell ⟨W.heap.size, 0, none⟩ (.int .i64 cols)).setCell ⟨W.heap.size, 1, none⟩ (.slice A1 n c1)) w0.heap.size x.2 x.1.cs := fun x hx => ((hc1 x hx).set g1 (by decide) _).set (g1.set _) (by decide) _
  have hh1 : Below W.heap.size W ((w1.setCell ⟨W.heap.size, 0, none⟩ (.int .i64 cols)).setCell ⟨W.heap.size, 1, none⟩ (.slice A1 n c1)) := below_set (below_set (H0.out.trans (hb1.mono H0.out.size)) (Nat.le_refl _) _) (Nat.le_refl _) _
  have b2 : Bxs ((w1.setCell ⟨W.heap.size, 0, none⟩ (.int .i64 cols)).setCell ⟨W.heap.size, 1, none⟩ (.slice A1 n c1)) [(W.heap.size, 24, #[.int .i64 cols, .slice A1 n c1]), (W.heap.size + 1, 28, #[.string tx, .int .i64 wd, .int .i64 fg, .int .i64 bg, .int .i64 fl]), (W.heap.size + 1 + 1, 26, #[.int .i64 af, .int .i64 ab, .int .i64 al])] := by
    intro x hx
    simp only [List.mem_cons, List.mem_nil_iff, or_false] at hx
    rcases hx with rfl | rfl | rfl
    · exact (g1.set (i := 0) _).set (i := 1) _
    · exact ((b1.get 1 rfl).other (by simp only; omega) _).other (by simp only; omega) _
    · exact ((b1.get 2 rfl).other (by simp only; omega) _).other (by simp only; omega) _
  have HLS := hid hls
  have HCS := hid hcs
  have HM1 := hid hm1
  have HH1 := hid hh1
  have B2 := hid b2
  clear hls hcs hh1 b2 b1 g1 hb1 hl1 hc1 hm1 hn1
  go_upto_region 2 with fail
  generalize ((w1.setCell ⟨W.heap.size, 0, none⟩ (.int .i64 cols)).setCell ⟨W.heap.size, 1, none⟩ (.slice A1 n c1)) = w2 at *
  clear k0 k1 f0 f1
  obtain ⟨y, hy⟩ : ∃ y, tx.extract 0 20 = y := ⟨_, rfl⟩
  have hyz : y.size ≤ 20 := by rw [← hy, size_extract']; omega
  have HY := hid hy
  have HYZ := hid hyz
  clear hy hyz
  go_cut [] (fun wx => Bxs wx [(W.heap.size, 24, #[.int .i64 cols, .slice A1 n c1]), (W.heap.size + 1, 28, #[.string y, .int .i64 wd, .int .i64 fg, .int .i64 bg, .int .i64 fl]), (W.heap.size + 1 + 1, 26, #[.int .i64 af, .int .i64 ab, .int .i64 al])] ∧ GIn wx (.slice A1 n c1) lv1 ∧ Below W.heap.size W wx)
  case first =>
    have hbc : Box w2 (W.heap.size + 1) 28 #[.string tx, .int .i64 wd, .int .i64 fg, .int .i64 bg, .int .i64 fl] := B2.out.get 1 rfl
    obtain ⟨⟨k0, k1, k2, k3, k4⟩, f0, f1, f2, f3, f4⟩ := hbc.five
    have hpost : Bxs (w2.setCell ⟨W.heap.size + 1, 0, none⟩ (.string y)) [(W.heap.size, 24, #[.int .i64 cols, .slice A1 n c1]), (W.heap.size + 1, 28, #[.string y, .int .i64 wd, .int .i64 fg, .int .i64 bg, .int .i64 fl]), (W.heap.size + 1 + 1, 26, #[.int .i64 af, .int .i64 ab, .int .i64 al])] ∧ GIn (w2.setCell ⟨W.heap.size + 1, 0, none⟩ (.string y)) (.slice A1 n c1) lv1 ∧ Below W.heap.size W (w2.setCell ⟨W.heap.size + 1, 0, none⟩ (.string y)) := by
      refine ⟨?_, few_in HM1.out (HLS.out.set_lt (by have := S0.out; omega) _).row (fun x hx => ((HCS.out x hx).set_lt (by have := S0.out; omega) _).row), below_set HH1.out (by omega) _⟩
      intro x hx
      simp only [List.mem_cons, List.mem_nil_iff, or_false] at hx
      rcases hx with rfl | rfl | rfl
      · exact (B2.out.get 0 rfl).other (by simp only; omega) _
      · exact hbc.set (i := 0) _
      · exact (B2.out.get 2 rfl).other (by simp only; omega) _
    have HPOST := hid hpost
    clear hpost hbc
    by_cases hs : tx.size ≤ 20
    · have hs' : (tx.size : Int) ≤ 20 := by omega
      have hxy : tx = y := by rw [← HY.out, cutC_short hs]
      subst hxy
      clear hs
      go_wp2_with fail
      go_meet
      exact HPOST.out
    · have hs' : (20 : Int) < tx.size := by omega
      have hs2 : (20 : Int) ≤ tx.size := by omega
      have hy2 := HY.out
      clear hs
      go_wp2_with fail
      go_meet
      exact HPOST.out
  case rest =>
    obtain ⟨hb3, hg3, hh3⟩ := hcut
    have BX := hid hb3
    have HG := hid hg3
    have HH := hid hh3
    clear hb3 hg3 hh3 B2 HH1 HLS HCS HM1 HFEW B0 H0 S0 HY
    obtain ⟨⟨kg0, kg1⟩, kgf0, kgf1⟩ := (BX.out.get 0 rfl).two
    obtain ⟨⟨kc0, kc1, kc2, kc3, kc4⟩, kcf0, kcf1, kcf2, kcf3, kcf4⟩ := (BX.out.get 1 rfl).five
    obtain ⟨⟨ka0, ka1, ka2⟩, kaf0, kaf1, kaf2⟩ := (BX.out.get 2 rfl).three
    have hcall := put_out cols row col (.slice A1 n c1) lv1 ⟨y, wd, fg, bg, fl⟩ _ HG.out (Nat.le_trans HYZ.out (by omega)) (HT.out.below HH.out) (HW.out.below HH.out)
    unfold Ce.agg Ce.cells at hcall
    simp only at hcall
    have HCALL := hid hcall
    clear hcall
    go_wp2_with fail
    with_reducible refine HCALL.out.mono ?_
    rintro e wx ⟨xc, xA, xk, xp, xn, rfl, hb, hx⟩
    dsimp only
    have hxf := XF.of (HG.out.below hb).ces hx
    have hb2 := hb.alloc hb.size (.cells #[.int .i64 xc, .slice xA xk xp] 24)
    have hbx := (BX.out.below hb).alloc 24 #[.int .i64 xc, .slice xA xk xp]
    simp only [List.cons_append, List.nil_append] at hbx
    have Xx := hid (hxf.below (below_alloc wx (.cells #[.int .i64 xc, .slice xA xk xp] 24)))
    have HG2 := hid (HG.out.below hb2)
    have HH2 := hid (HH.out.trans (hb2.mono HH.out.size))
    have BX2 := hid hbx
    clear hb hx hxf hb2 hbx HCALL BX HG HH 
    clear kg0 kg1 kgf0 kgf1 kc0 kc1 kc2 kc3 kc4 kcf0 kcf1 kcf2 kcf3 kcf4 ka0 ka1 ka2 kaf0 kaf1 kaf2
    go_upto_region 4 with fail
    generalize (wx.alloc (.cells #[.int .i64 xc, .slice xA xk xp] 24)) = vx at *
    generalize wx.heap.size = qx at *
    have BX := hid BX2.out
    have HG := hid HG2.out
    have HH := hid HH2.out
    clear BX2 HG2 HH2
    obtain ⟨⟨kg0, kg1⟩, kgf0, kgf1⟩ := (BX.out.get 0 rfl).two
    obtain ⟨⟨kc0, kc1, kc2, kc3, kc4⟩, kcf0, kcf1, kcf2, kcf3, kcf4⟩ := (BX.out.get 1 rfl).five
    obtain ⟨⟨ka0, ka1, ka2⟩, kaf0, kaf1, kaf2⟩ := (BX.out.get 2 rfl).three
    have hcall := erase_out cols row col tt ⟨af, ab, al⟩ (.slice A1 n c1) lv1 _ HG.out (HT.out.below HH.out) (HW.out.below HH.out)
    unfold At.agg at hcall
    simp only at hcall
    have HCALL := hid hcall
    clear hcall
    go_wp2_with fail
    with_reducible refine HCALL.out.mono ?_
    rintro e wy ⟨yc, yA, yk, yp, yn, rfl, hb, hx⟩
    dsimp only
    have hxf := XF.of (HG.out.below hb).ces hx
    have hb2 := hb.alloc hb.size (.cells #[.int .i64 yc, .slice yA yk yp] 24)
    have hbx := (BX.out.below hb).alloc 24 #[.int .i64 yc, .slice yA yk yp]
    simp only [List.cons_append, List.nil_append] at hbx
    have Xy := hid (hxf.below (below_alloc wy (.cells #[.int .i64 yc, .slice yA yk yp] 24)))
    have HG2 := hid (HG.out.below hb2)
    have HH2 := hid (HH.out.trans (hb2.mono HH.out.size))
    have Xx2 := hid (Xx.out.below hb2)
    have BX2 := hid hbx
    clear hb hx hxf hb2 hbx HCALL BX HG HH Xx 
    clear kg0 kg1 kgf0 kgf1 kc0 kc1 kc2 kc3 kc4 kcf0 kcf1 kcf2 kcf3 kcf4 ka0 ka1 ka2 kaf0 kaf1 kaf2
    go_upto_region 5 with fail
    generalize (wy.alloc (.cells #[.int .i64 yc, .slice yA yk yp] 24)) = vy at *
    generalize wy.heap.size = qy at *
    have BX := hid BX2.out
    have HG := hid HG2.out
    have HH := hid HH2.out
    have Xx := hid Xx2.out
    clear BX2 HG2 HH2 Xx2
    obtain ⟨⟨kg0, kg1⟩, kgf0, kgf1⟩ := (BX.out.get 0 rfl).two
    obtain ⟨⟨kc0, kc1, kc2, kc3, kc4⟩, kcf0, kcf1, kcf2, kcf3, kcf4⟩ := (BX.out.get 1 rfl).five
    obtain ⟨⟨ka0, ka1, ka2⟩, kaf0, kaf1, kaf2⟩ := (BX.out.get 2 rfl).three
    have hcall := soft_out cols row soft (.slice A1 n c1) lv1 _ HG.out (HT.out.below HH.out) (HW.out.below HH.out)
    have HCALL := hid hcall
    clear hcall
    go_wp2_with fail
    with_reducible refine HCALL.out.mono ?_
    rintro e wz ⟨zc, zA, zk, zp, zn, rfl, hb, hx⟩
    dsimp only
    have hxf := XF.of (HG.out.below hb).ces hx
    have hb2 := hb.alloc hb.size (.cells #[.int .i64 zc, .slice zA zk zp] 24)
    have hbx := (BX.out.below hb).alloc 24 #[.int .i64 zc, .slice zA zk zp]
    simp only [List.cons_append, List.nil_append] at hbx
    have Xz := hid (hxf.below (below_alloc wz (.cells #[.int .i64 zc, .slice zA zk zp] 24)))
    have HG2 := hid (HG.out.below hb2)
    have HH2 := hid (HH.out.trans (hb2.mono HH.out.size))
    have Xx2 := hid (Xx.out.below hb2)
    have Xy2 := hid (Xy.out.below hb2)
    have BX2 := hid hbx
    clear hb hx hxf hb2 hbx HCALL BX HG HH Xx Xy 
    clear kg0 kg1 kgf0 kgf1 kc0 kc1 kc2 kc3 kc4 kcf0 kcf1 kcf2 kcf3 kcf4 ka0 ka1 ka2 kaf0 kaf1 kaf2
    go_upto_region 6 with fail
    generalize (wz.alloc (.cells #[.int .i64 zc, .slice zA zk zp] 24)) = vz at *
    generalize wz.heap.size = qz at *
    have BX := hid BX2.out
    have HG := hid HG2.out
    have HH := hid HH2.out
    have Xx := hid Xx2.out
    have Xy := hid Xy2.out
    clear BX2 HG2 HH2 Xx2 Xy2
    obtain ⟨⟨kg0, kg1⟩, kgf0, kgf1⟩ := (BX.out.get 0 rfl).two
    obtain ⟨⟨kc0, kc1, kc2, kc3, kc4⟩, kcf0, kcf1, kcf2, kcf3, kcf4⟩ := (BX.out.get 1 rfl).five
    obtain ⟨⟨ka0, ka1, ka2⟩, kaf0, kaf1, kaf2⟩ := (BX.out.get 2 rfl).three
    have hpl := place_any cols row 0 (.slice A1 n c1) lv1 vz HG.out.lr HG.out.ces HG.out.sm
    rw [there_eq] at hpl
    obtain ⟨So, hSo⟩ : ∃ So, softOk cols lv1 row = So := ⟨_, rfl⟩
    obtain ⟨Eo, hEo⟩ : ∃ Eo, eraseOk cols lv1 row col tt ⟨af, ab, al⟩ = Eo := ⟨_, rfl⟩
    have hEq : Eo = (So && (decide (0 ≤ col) && (decide (col ≤ tt) && (decide (tt ≤ cols) && lookB ⟨af, ab, al⟩)))) := by rw [← hSo, ← hEo]; rfl
    rw [hSo] at hpl
    have HSO := hid hSo
    have HEO := hid hEo
    have HEQ := hid hEq
    have HPL := hid hpl
    clear hSo hEo hEq hpl
    go_upto_region 7 with (with_reducible refine HPL.out.mono ?_; rintro e6 w6 ⟨rfl, D6⟩)
    clear kg0 kg1 kgf0 kgf1 kc0 kc1 kc2 kc3 kc4 kcf0 kcf1 kcf2 kcf3 kcf4 ka0 ka1 ka2 kaf0 kaf1 kaf2
    obtain ⟨⟨kg0, kg1⟩, kgf0, kgf1⟩ := ((BX.out.below D6).get 0 rfl).two
    obtain ⟨⟨kc0, kc1, kc2, kc3, kc4⟩, kcf0, kcf1, kcf2, kcf3, kcf4⟩ := ((BX.out.below D6).get 1 rfl).five
    obtain ⟨⟨ka0, ka1, ka2⟩, kaf0, kaf1, kaf2⟩ := ((BX.out.below D6).get 2 rfl).three
    obtain ⟨⟨kx0, kx1⟩, kxf0, kxf1⟩ := ((BX.out.below D6).get 3 rfl).two
    obtain ⟨⟨ky0, ky1⟩, kyf0, kyf1⟩ := ((BX.out.below D6).get 4 rfl).two
    obtain ⟨⟨kz0, kz1⟩, kzf0, kzf1⟩ := ((BX.out.below D6).get 5 rfl).two
    have hlook := fun w => rLook_any ⟨af, ab, al⟩ w
    unfold At.agg at hlook
    simp only at hlook
    go_cut [22] (fun b wx => b = .bool Eo ∧ Below vz.heap.size vz wx)
    case first =>
      cases So
      · have HE : Hid (Eo = false) := by unfold Hid; rw [HEQ.out]; rfl
        go_wp2_with fail
        go_meet
        exact ⟨by rw [HE.out], D6⟩
      · have h5 : col < 0 ∨ (0 ≤ col ∧ tt < col) ∨ (0 ≤ col ∧ col ≤ tt ∧ cols < tt) ∨ (0 ≤ col ∧ col ≤ tt ∧ tt ≤ cols) := by omega
        rcases h5 with h | h | h | h
        · have HE : Hid (Eo = false) := by unfold Hid; rw [HEQ.out, decide_eq_false (p := 0 ≤ col) (by omega)]; rfl
          have hd : decide (0 ≤ col) = false := decide_eq_false (by omega)
          go_wp2_with fail
          go_meet
          exact ⟨by rw [HE.out], D6⟩
        · have HE : Hid (Eo = false) := by unfold Hid; rw [HEQ.out, decide_eq_false (p := col ≤ tt) (by omega), Bool.false_and, Bool.and_false, Bool.and_false]
          obtain ⟨h1, h2⟩ := h
          have hd : decide (col ≤ tt) = false := decide_eq_false (by omega)
          go_wp2_with fail
          go_meet
          exact ⟨by rw [HE.out], D6⟩
        · have HE : Hid (Eo = false) := by unfold Hid; rw [HEQ.out, decide_eq_false (p := tt ≤ cols) (by omega), Bool.false_and, Bool.and_false, Bool.and_false, Bool.and_false]
          obtain ⟨h1, h2, h3⟩ := h
          have hd : decide (tt ≤ cols) = false := decide_eq_false (by omega)
          go_wp2_with fail
          go_meet
          exact ⟨by rw [HE.out], D6⟩
        · obtain ⟨h1, h2, h3⟩ := h
          have HE : Hid (Eo = lookB ⟨af, ab, al⟩) := by unfold Hid; rw [HEQ.out, decide_eq_true h1, decide_eq_true h2, decide_eq_true h3]; rfl
          go_wp2_with (with_reducible refine (hlook _).mono ?_; rintro e7 w7 ⟨rfl, D7⟩)
          go_meet
          exact ⟨by rw [HE.out], D6.trans (D7.mono D6.size)⟩
    case rest =>
      obtain ⟨rfl, hd7⟩ := hcut
      clear kg0 kg1 kgf0 kgf1 kc0 kc1 kc2 kc3 kc4 kcf0 kcf1 kcf2 kcf3 kcf4 ka0 ka1 ka2 kaf0 kaf1 kaf2 kx0 kx1 kxf0 kxf1 ky0 ky1 kyf0 kyf1 kz0 kz1 kzf0 kzf1
      obtain ⟨⟨kg0, kg1⟩, kgf0, kgf1⟩ := ((BX.out.below hd7).get 0 rfl).two
      obtain ⟨⟨kc0, kc1, kc2, kc3, kc4⟩, kcf0, kcf1, kcf2, kcf3, kcf4⟩ := ((BX.out.below hd7).get 1 rfl).five
      obtain ⟨⟨ka0, ka1, ka2⟩, kaf0, kaf1, kaf2⟩ := ((BX.out.below hd7).get 2 rfl).three
      obtain ⟨⟨kx0, kx1⟩, kxf0, kxf1⟩ := ((BX.out.below hd7).get 3 rfl).two
      obtain ⟨⟨ky0, ky1⟩, kyf0, kyf1⟩ := ((BX.out.below hd7).get 4 rfl).two
      obtain ⟨⟨kz0, kz1⟩, kzf0, kzf1⟩ := ((BX.out.below hd7).get 5 rfl).two
      have cA : Hid (∀ W', Below vz.heap.size vz W' → Calls Tryd.prog 14 #[] W' fun e w' => e = .returned (.bool true) ∧ Below W'.heap.size W' w') := fun W' hb => alive_any W' (HT.out.below (HH.out.trans (hb.mono HH.out.size))) (HW.out.below (HH.out.trans (hb.mono HH.out.size)))
      have cN : Hid (∀ W', Calls Tryd.prog 15 #[.agg #[.int .i64 0, .slice none 0 0], .int .i64 1, .bool false, .agg #[.int .i64 cols, .slice A1 n c1]] W' (IsPost W')) := fun W' => is_no cols A1 n c1 W'

      clear kg0 kg1 kc0 kc1 kc2 kc3 kc4 ka0 ka1 ka2 kx0 kx1 ky0 ky1 kz0 kz1 kgf0 kgf1 kcf0 kcf1 kcf2 kcf3 kcf4 kaf0 kaf1 kaf2 kxf0 kxf1 kyf0 kyf1 kzf0 kzf1
      go_upto_region 8 with fail
      go_cut [107] (fun b wx => b = .bool false ∧ Below vz.heap.size vz wx)
      case first =>
        have hS0 : Below vz.heap.size vz _ := hd7.drew
        clear hd7
        clear hlook D6
        cases Eo
        · as_aux_lemma =>
            rcases Xy.out with ⟨h1, _⟩ | ⟨_, rfl, hsl, rfl⟩
            · rw [HEO.out] at h1; cases h1
            cases hsl
            refine wp_region_S (fun _ w' => Below vz.heap.size vz w') (by kernel_rfl) ?_
            refine oneS (k := 0) (by kernel_rfl) rfl (by rfl) (fun K hK => ?_)
            go_simp
            go_at_call 14
            refine (cA.out _ hS0).mono ?_
            rintro e w9 ⟨rfl, hb⟩
            dsimp only
            have hS1 := hS0.trans (hb.mono hS0.size)
            refine hK _ _ hS1 ?_
            clear hK K
            try simp only [Act.put, List.setIfInBounds_toArray, List.set_cons_zero, List.set_cons_succ]
            clear hS0 hb
            have hS0 := hS1
            clear hS1
            refine takeC (i := 1) (v := ?v1n) 81 rfl rfl (by kernel_rfl) (by kernel_rfl) (by kernel_rfl) (by kernel_rfl) (fun _ _ _ h => h) (Or.inl ⟨by rfl, fun w' hw' => ?hy1n⟩) hS0 ?rest1n
            case hy1n => go_simp; try with_reducible rfl
            try simp only [Act.put, List.setIfInBounds_toArray, List.set_cons_zero, List.set_cons_succ]
            refine takeC (i := 2) (v := ?v2n) 82 rfl rfl (by kernel_rfl) (by kernel_rfl) (by kernel_rfl) (by kernel_rfl) (fun _ _ _ h => h) (Or.inl ⟨by rfl, fun w' hw' => ?hy2n⟩) hS0 ?rest2n
            case hy2n => go_simp; try with_reducible rfl
            try simp only [Act.put, List.setIfInBounds_toArray, List.set_cons_zero, List.set_cons_succ]
            refine takeC (i := 3) (v := ?v3n) 83 rfl rfl (by kernel_rfl) (by kernel_rfl) (by kernel_rfl) (by kernel_rfl) (fun _ _ _ h => h) (Or.inl ⟨by rfl, fun w' hw' => ?hy3n⟩) hS0 ?rest3n
            case hy3n => go_simp; try with_reducible rfl
            try simp only [Act.put, List.setIfInBounds_toArray, List.set_cons_zero, List.set_cons_succ]
            refine takeC (i := 4) (v := ?v4n) 84 rfl rfl (by kernel_rfl) (by kernel_rfl) (by kernel_rfl) (by kernel_rfl) (fun _ _ _ h => h) (Or.inl ⟨by rfl, fun w' hw' => ?hy4n⟩) hS0 ?rest4n
            case hy4n => go_simp; try with_reducible rfl
            try simp only [Act.put, List.setIfInBounds_toArray, List.set_cons_zero, List.set_cons_succ]
            refine takeC (i := 5) (v := undef) 85 rfl rfl (by kernel_rfl) (by kernel_rfl) (by kernel_rfl) (by kernel_rfl) (fun _ _ _ h => h) (Or.inr ⟨by rfl, by rfl⟩) hS0 ?_
            try simp only [Act.put, List.setIfInBounds_toArray, List.set_cons_zero, List.set_cons_succ]
            refine takeC (i := 6) (v := undef) 86 rfl rfl (by kernel_rfl) (by kernel_rfl) (by kernel_rfl) (by kernel_rfl) (fun _ _ _ h => h) (Or.inr ⟨by rfl, by rfl⟩) hS0 ?_
            try simp only [Act.put, List.setIfInBounds_toArray, List.set_cons_zero, List.set_cons_succ]
            refine takeC (i := 7) (v := undef) 87 rfl rfl (by kernel_rfl) (by kernel_rfl) (by kernel_rfl) (by kernel_rfl) (fun _ _ _ h => h) (Or.inr ⟨by rfl, by rfl⟩) hS0 ?_
            try simp only [Act.put, List.setIfInBounds_toArray, List.set_cons_zero, List.set_cons_succ]
            refine takeC (i := 8) (v := undef) 88 rfl rfl (by kernel_rfl) (by kernel_rfl) (by kernel_rfl) (by kernel_rfl) (fun _ _ _ h => h) (Or.inr ⟨by rfl, by rfl⟩) hS0 ?_
            try simp only [Act.put, List.setIfInBounds_toArray, List.set_cons_zero, List.set_cons_succ]
            refine takeC (i := 9) (v := undef) 89 rfl rfl (by kernel_rfl) (by kernel_rfl) (by kernel_rfl) (by kernel_rfl) (fun _ _ _ h => h) (Or.inr ⟨by rfl, by rfl⟩) hS0 ?_
            try simp only [Act.put, List.setIfInBounds_toArray, List.set_cons_zero, List.set_cons_succ]
            refine takeC (i := 10) (v := undef) 90 rfl rfl (by kernel_rfl) (by kernel_rfl) (by kernel_rfl) (by kernel_rfl) (fun _ _ _ h => h) (Or.inr ⟨by rfl, by rfl⟩) hS0 ?_
            try simp only [Act.put, List.setIfInBounds_toArray, List.set_cons_zero, List.set_cons_succ]
            refine takeC (i := 11) (v := undef) 91 rfl rfl (by kernel_rfl) (by kernel_rfl) (by kernel_rfl) (by kernel_rfl) (fun _ _ _ h => h) (Or.inr ⟨by rfl, by rfl⟩) hS0 ?_
            try simp only [Act.put, List.setIfInBounds_toArray, List.set_cons_zero, List.set_cons_succ]
            refine takeC (i := 12) (v := undef) 92 rfl rfl (by kernel_rfl) (by kernel_rfl) (by kernel_rfl) (by kernel_rfl) (fun _ _ _ h => h) (Or.inr ⟨by rfl, by rfl⟩) hS0 ?_
            try simp only [Act.put, List.setIfInBounds_toArray, List.set_cons_zero, List.set_cons_succ]
            refine takeC (i := 13) (v := undef) 93 rfl rfl (by kernel_rfl) (by kernel_rfl) (by kernel_rfl) (by kernel_rfl) (fun _ _ _ h => h) (Or.inr ⟨by rfl, by rfl⟩) hS0 ?_
            try simp only [Act.put, List.setIfInBounds_toArray, List.set_cons_zero, List.set_cons_succ]
            refine takeC (i := 14) (v := undef) 94 rfl rfl (by kernel_rfl) (by kernel_rfl) (by kernel_rfl) (by kernel_rfl) (fun _ _ _ h => h) (Or.inr ⟨by rfl, by rfl⟩) hS0 ?_
            try simp only [Act.put, List.setIfInBounds_toArray, List.set_cons_zero, List.set_cons_succ]
            refine takeC (i := 15) (v := ?v15n) 95 rfl rfl (by kernel_rfl) (by kernel_rfl) (by kernel_rfl) (by kernel_rfl) (fun _ _ _ h => h) (Or.inl ⟨by rfl, fun w' hw' => ?hy15n⟩) hS0 ?rest15n
            case hy15n => go_simp; try with_reducible rfl
            try simp only [Act.put, List.setIfInBounds_toArray, List.set_cons_zero, List.set_cons_succ]
            refine takeC (i := 16) (v := ?v16n) 96 rfl rfl (by kernel_rfl) (by kernel_rfl) (by kernel_rfl) (by kernel_rfl) (fun _ _ _ h => h) (Or.inl ⟨by rfl, fun w' hw' => ?hy16n⟩) hS0 ?rest16n
            case hy16n => go_simp; try with_reducible rfl
            try simp only [Act.put, List.setIfInBounds_toArray, List.set_cons_zero, List.set_cons_succ]
            refine takeC (i := 17) (v := ?v17n) 97 rfl rfl (by kernel_rfl) (by kernel_rfl) (by kernel_rfl) (by kernel_rfl) (fun _ _ _ h => h) (Or.inl ⟨by rfl, fun w' hw' => ?hy17n⟩) hS0 ?rest17n
            case hy17n => go_simp; try with_reducible rfl
            try simp only [Act.put, List.setIfInBounds_toArray, List.set_cons_zero, List.set_cons_succ]
            refine takeC (i := 18) (v := ?v18n) 98 rfl rfl (by kernel_rfl) (by kernel_rfl) (by kernel_rfl) (by kernel_rfl) (fun _ _ _ h => h) (Or.inl ⟨by rfl, fun w' hw' => ?hy18n⟩) hS0 ?rest18n
            case hy18n => go_simp; try with_reducible rfl
            try simp only [Act.put, List.setIfInBounds_toArray, List.set_cons_zero, List.set_cons_succ]
            refine takeC (i := 19) (v := ?v19n) 99 rfl rfl (by kernel_rfl) (by kernel_rfl) (by kernel_rfl) (by kernel_rfl) (fun _ _ _ h => h) (Or.inl ⟨by rfl, fun w' hw' => ?hy19n⟩) hS0 ?rest19n
            case hy19n => go_simp; try with_reducible rfl
            try simp only [Act.put, List.setIfInBounds_toArray, List.set_cons_zero, List.set_cons_succ]
            refine takeC (i := 20) (v := ?v20n) 100 rfl rfl (by kernel_rfl) (by kernel_rfl) (by kernel_rfl) (by kernel_rfl) (fun _ _ _ h => h) (Or.inl ⟨by rfl, fun w' hw' => ?hy20n⟩) hS0 ?rest20n
            case hy20n => go_simp; try with_reducible rfl
            try simp only [Act.put, List.setIfInBounds_toArray, List.set_cons_zero, List.set_cons_succ]
            refine takeC (i := 21) (v := ?v21n) 101 rfl rfl (by kernel_rfl) (by kernel_rfl) (by kernel_rfl) (by kernel_rfl) (fun _ _ _ h => h) (Or.inl ⟨by rfl, fun w' hw' => ?hy21n⟩) hS0 ?rest21n
            case hy21n => obtain ⟨⟨ky0, ky1⟩, fky0, fky1⟩ := ((BX.out.below hw').get 4 rfl).two; go_simp; try with_reducible rfl
            try simp only [Act.put, List.setIfInBounds_toArray, List.set_cons_zero, List.set_cons_succ]
            refine takeC (i := 22) (v := ?v22n) 102 rfl rfl (by kernel_rfl) (by kernel_rfl) (by kernel_rfl) (by kernel_rfl) (fun _ _ _ h => h) (Or.inl ⟨by rfl, fun w' hw' => ?hy22n⟩) hS0 ?rest22n
            case hy22n => go_simp; try with_reducible rfl
            try simp only [Act.put, List.setIfInBounds_toArray, List.set_cons_zero, List.set_cons_succ]
            refine takeC (i := 23) (v := ?v23n) 103 rfl rfl (by kernel_rfl) (by kernel_rfl) (by kernel_rfl) (by kernel_rfl) (fun _ _ _ h => h) (Or.inl ⟨by rfl, fun w' hw' => ?hy23n⟩) hS0 ?rest23n
            case hy23n => obtain ⟨⟨kg0, kg1⟩, fkg0, fkg1⟩ := ((BX.out.below hw').get 0 rfl).two; go_simp; try with_reducible rfl
            try simp only [Act.put, List.setIfInBounds_toArray, List.set_cons_zero, List.set_cons_succ]
            refine oneS (k := 24) (by kernel_rfl) rfl (by rfl) (fun K hK => ?_)
            go_simp
            go_at_call 15
            refine (cN.out _).mono ?_
            rintro e w9 ⟨rfl, hb⟩
            dsimp only
            have hS1 := hS0.trans (hb.mono hS0.size)
            refine hK _ _ hS1 ?_
            clear hK K
            try simp only [Act.put, List.setIfInBounds_toArray, List.set_cons_zero, List.set_cons_succ]
            clear hS0 hb
            have hS0 := hS1
            clear hS1
            refine takeC (i := 25) (v := ?v25n) 105 rfl rfl (by kernel_rfl) (by kernel_rfl) (by kernel_rfl) (by kernel_rfl) (fun _ _ _ h => h) (Or.inl ⟨by rfl, fun w' hw' => ?hy25n⟩) hS0 ?rest25n
            case hy25n => go_simp; try with_reducible rfl
            try simp only [Act.put, List.setIfInBounds_toArray, List.set_cons_zero, List.set_cons_succ]
            refine takeC (i := 26) (v := ?v26n) 106 rfl rfl (by kernel_rfl) (by kernel_rfl) (by kernel_rfl) (by kernel_rfl) (fun _ _ _ h => h) (Or.inl ⟨by rfl, fun w' hw' => ?hy26n⟩) hS0 ?rest26n
            case hy26n => go_simp; try with_reducible rfl
            try simp only [Act.put, List.setIfInBounds_toArray, List.set_cons_zero, List.set_cons_succ]
            refine takeC (i := 27) (v := ?v27n) 107 rfl rfl (by kernel_rfl) (by kernel_rfl) (by kernel_rfl) (by kernel_rfl) (fun _ _ _ h => h) (Or.inl ⟨by rfl, fun w' hw' => ?hy27n⟩) hS0 ?rest27n
            case hy27n => go_simp; try with_reducible rfl
            try simp only [Act.put, List.setIfInBounds_toArray, List.set_cons_zero, List.set_cons_succ]
            refine doneS (by kernel_rfl) ?_ _
            go_wp2_with fail
            go_meet
            exact ⟨rfl, hS0⟩
        · as_aux_lemma =>
            rcases Xy.out with ⟨_, rfl, rfl, lvy, my, ly, ny⟩ | ⟨h1, _⟩
            rotate_left
            · rw [HEO.out] at h1; cases h1
            have cE : Hid (∀ W', Below vz.heap.size vz W' → Calls Tryd.prog 16 #[.agg #[.int .i64 yc, .slice A1 n c1], .int .i64 row, .int .i64 col, .int .i64 tt, .agg #[.int .i64 af, .int .i64 ab, .int .i64 al]] W' (RPost W' yc lv1 (eraseT (lv1.map Prod.fst) row col tt ⟨af, ab, al⟩))) := fun W' hb => refErase_out yc row col tt ⟨af, ab, al⟩ _ lv1 W' (HG.out.below hb) HEO.out
            have cI : Hid (∀ W' v9 lv9, Below vz.heap.size vz W' → lv9.map Prod.fst = eraseT (lv1.map Prod.fst) row col tt ⟨af, ab, al⟩ → LR W' v9 lv9 → CesOf W' lv9 → Calls Tryd.prog 15 #[.agg #[.int .i64 yc, .slice yA yk yp], .int .i64 0, .bool true, .agg #[.int .i64 yc, v9]] W' (IsPost W')) := fun W' v9 lv9 hb m9 l9 n9 =>
              is_yes yc _ v9 lvy lv9 W' (ly.below hb) l9 (ny.below hb) n9 (my.trans m9.symm) (Sz.of_map my (eraseT_sz HG.out.sm HEO.out))
            clear my ly ny
            refine wp_region_S (fun _ w' => Below vz.heap.size vz w') (by kernel_rfl) ?_
            refine oneS (k := 0) (by kernel_rfl) rfl (by rfl) (fun K hK => ?_)
            go_simp
            go_at_call 14
            refine (cA.out _ hS0).mono ?_
            rintro e w9 ⟨rfl, hb⟩
            dsimp only
            have hS1 := hS0.trans (hb.mono hS0.size)
            refine hK _ _ hS1 ?_
            clear hK K
            try simp only [Act.put, List.setIfInBounds_toArray, List.set_cons_zero, List.set_cons_succ]
            clear hS0 hb
            have hS0 := hS1
            clear hS1
            refine takeC (i := 1) (v := ?v1y) 81 rfl rfl (by kernel_rfl) (by kernel_rfl) (by kernel_rfl) (by kernel_rfl) (fun _ _ _ h => h) (Or.inl ⟨by rfl, fun w' hw' => ?hy1y⟩) hS0 ?rest1y
            case hy1y => go_simp; try with_reducible rfl
            try simp only [Act.put, List.setIfInBounds_toArray, List.set_cons_zero, List.set_cons_succ]
            refine takeC (i := 2) (v := ?v2y) 82 rfl rfl (by kernel_rfl) (by kernel_rfl) (by kernel_rfl) (by kernel_rfl) (fun _ _ _ h => h) (Or.inl ⟨by rfl, fun w' hw' => ?hy2y⟩) hS0 ?rest2y
            case hy2y => go_simp; try with_reducible rfl
            try simp only [Act.put, List.setIfInBounds_toArray, List.set_cons_zero, List.set_cons_succ]
            refine takeC (i := 3) (v := ?v3y) 83 rfl rfl (by kernel_rfl) (by kernel_rfl) (by kernel_rfl) (by kernel_rfl) (fun _ _ _ h => h) (Or.inl ⟨by rfl, fun w' hw' => ?hy3y⟩) hS0 ?rest3y
            case hy3y => go_simp; try with_reducible rfl
            try simp only [Act.put, List.setIfInBounds_toArray, List.set_cons_zero, List.set_cons_succ]
            refine takeC (i := 4) (v := ?v4y) 84 rfl rfl (by kernel_rfl) (by kernel_rfl) (by kernel_rfl) (by kernel_rfl) (fun _ _ _ h => h) (Or.inl ⟨by rfl, fun w' hw' => ?hy4y⟩) hS0 ?rest4y
            case hy4y => go_simp; try with_reducible rfl
            try simp only [Act.put, List.setIfInBounds_toArray, List.set_cons_zero, List.set_cons_succ]
            refine takeC (i := 5) (v := ?v5y) 85 rfl rfl (by kernel_rfl) (by kernel_rfl) (by kernel_rfl) (by kernel_rfl) (fun _ _ _ h => h) (Or.inl ⟨by rfl, fun w' hw' => ?hy5y⟩) hS0 ?rest5y
            case hy5y => obtain ⟨⟨ky0, ky1⟩, fky0, fky1⟩ := ((BX.out.below hw').get 4 rfl).two; go_simp; try with_reducible rfl
            try simp only [Act.put, List.setIfInBounds_toArray, List.set_cons_zero, List.set_cons_succ]
            refine takeC (i := 6) (v := ?v6y) 86 rfl rfl (by kernel_rfl) (by kernel_rfl) (by kernel_rfl) (by kernel_rfl) (fun _ _ _ h => h) (Or.inl ⟨by rfl, fun w' hw' => ?hy6y⟩) hS0 ?rest6y
            case hy6y => go_simp; try with_reducible rfl
            try simp only [Act.put, List.setIfInBounds_toArray, List.set_cons_zero, List.set_cons_succ]
            refine takeC (i := 7) (v := ?v7y) 87 rfl rfl (by kernel_rfl) (by kernel_rfl) (by kernel_rfl) (by kernel_rfl) (fun _ _ _ h => h) (Or.inl ⟨by rfl, fun w' hw' => ?hy7y⟩) hS0 ?rest7y
            case hy7y => obtain ⟨⟨kg0, kg1⟩, fkg0, fkg1⟩ := ((BX.out.below hw').get 0 rfl).two; go_simp; try with_reducible rfl
            try simp only [Act.put, List.setIfInBounds_toArray, List.set_cons_zero, List.set_cons_succ]
            refine takeC (i := 8) (v := ?v8y) 88 rfl rfl (by kernel_rfl) (by kernel_rfl) (by kernel_rfl) (by kernel_rfl) (fun _ _ _ h => h) (Or.inl ⟨by rfl, fun w' hw' => ?hy8y⟩) hS0 ?rest8y
            case hy8y => go_simp; try with_reducible rfl
            try simp only [Act.put, List.setIfInBounds_toArray, List.set_cons_zero, List.set_cons_succ]
            refine takeC (i := 9) (v := ?v9y) 89 rfl rfl (by kernel_rfl) (by kernel_rfl) (by kernel_rfl) (by kernel_rfl) (fun _ _ _ h => h) (Or.inl ⟨by rfl, fun w' hw' => ?hy9y⟩) hS0 ?rest9y
            case hy9y => go_simp; try with_reducible rfl
            try simp only [Act.put, List.setIfInBounds_toArray, List.set_cons_zero, List.set_cons_succ]
            refine takeC (i := 10) (v := ?v10y) 90 rfl rfl (by kernel_rfl) (by kernel_rfl) (by kernel_rfl) (by kernel_rfl) (fun _ _ _ h => h) (Or.inl ⟨by rfl, fun w' hw' => ?hy10y⟩) hS0 ?rest10y
            case hy10y => go_simp; try with_reducible rfl
            try simp only [Act.put, List.setIfInBounds_toArray, List.set_cons_zero, List.set_cons_succ]
            refine takeC (i := 11) (v := ?v11y) 91 rfl rfl (by kernel_rfl) (by kernel_rfl) (by kernel_rfl) (by kernel_rfl) (fun _ _ _ h => h) (Or.inl ⟨by rfl, fun w' hw' => ?hy11y⟩) hS0 ?rest11y
            case hy11y => obtain ⟨⟨ka0, ka1, ka2⟩, fka0, fka1, fka2⟩ := ((BX.out.below hw').get 2 rfl).three; go_simp; try with_reducible rfl
            try simp only [Act.put, List.setIfInBounds_toArray, List.set_cons_zero, List.set_cons_succ]
            refine oneS (k := 12) (by kernel_rfl) rfl (by rfl) (fun K hK => ?_)
            go_simp
            go_at_call 16
            refine (cE.out _ hS0).mono ?_
            rintro e w9 ⟨v9, lv9, rfl, m9, l9, n9, hb⟩
            obtain ⟨A9, c9, hv9⟩ := l9.spell
            subst hv9
            dsimp only
            have hS1 := hS0.trans (hb.mono hS0.size)
            refine hK _ _ hS1 ?_
            clear hK K
            try simp only [Act.put, List.setIfInBounds_toArray, List.set_cons_zero, List.set_cons_succ]
            clear hS0 hb
            have hS0 := hS1
            clear hS1
            refine oneS (k := 13) (by kernel_rfl) rfl (by rfl) (fun K hK => ?_)
            go_simp
            go_at_call 15
            refine (cI.out _ _ lv9 hS0 m9 l9.row (n9.ces (HG.out.below hS0).ces)).mono ?_
            rintro e w9 ⟨rfl, hb⟩
            dsimp only
            have hS1 := hS0.trans (hb.mono hS0.size)
            refine hK _ _ hS1 ?_
            clear hK K
            try simp only [Act.put, List.setIfInBounds_toArray, List.set_cons_zero, List.set_cons_succ]
            clear hS0 hb
            have hS0 := hS1
            clear hS1
            refine takeC (i := 14) (v := ?v14y) 94 rfl rfl (by kernel_rfl) (by kernel_rfl) (by kernel_rfl) (by kernel_rfl) (fun _ _ _ h => h) (Or.inl ⟨by rfl, fun w' hw' => ?hy14y⟩) hS0 ?rest14y
            case hy14y => go_simp; try with_reducible rfl
            try simp only [Act.put, List.setIfInBounds_toArray, List.set_cons_zero, List.set_cons_succ]
            refine takeC (i := 15) (v := ?v15y) 95 rfl rfl (by kernel_rfl) (by kernel_rfl) (by kernel_rfl) (by kernel_rfl) (fun _ _ _ h => h) (Or.inl ⟨by rfl, fun w' hw' => ?hy15y⟩) hS0 ?rest15y
            case hy15y => go_simp; try with_reducible rfl
            try simp only [Act.put, List.setIfInBounds_toArray, List.set_cons_zero, List.set_cons_succ]
            refine takeC (i := 16) (v := ?v16y) 96 rfl rfl (by kernel_rfl) (by kernel_rfl) (by kernel_rfl) (by kernel_rfl) (fun _ _ _ h => h) (Or.inl ⟨by rfl, fun w' hw' => ?hy16y⟩) hS0 ?rest16y
            case hy16y => go_simp; try with_reducible rfl
            try simp only [Act.put, List.setIfInBounds_toArray, List.set_cons_zero, List.set_cons_succ]
            refine takeC (i := 17) (v := ?v17y) 97 rfl rfl (by kernel_rfl) (by kernel_rfl) (by kernel_rfl) (by kernel_rfl) (fun _ _ _ h => h) (Or.inl ⟨by rfl, fun w' hw' => ?hy17y⟩) hS0 ?rest17y
            case hy17y => go_simp; try with_reducible rfl
            try simp only [Act.put, List.setIfInBounds_toArray, List.set_cons_zero, List.set_cons_succ]
            refine takeC (i := 18) (v := ?v18y) 98 rfl rfl (by kernel_rfl) (by kernel_rfl) (by kernel_rfl) (by kernel_rfl) (fun _ _ _ h => h) (Or.inl ⟨by rfl, fun w' hw' => ?hy18y⟩) hS0 ?rest18y
            case hy18y => go_simp; try with_reducible rfl
            try simp only [Act.put, List.setIfInBounds_toArray, List.set_cons_zero, List.set_cons_succ]
            refine takeC (i := 19) (v := ?v19y) 99 rfl rfl (by kernel_rfl) (by kernel_rfl) (by kernel_rfl) (by kernel_rfl) (fun _ _ _ h => h) (Or.inl ⟨by rfl, fun w' hw' => ?hy19y⟩) hS0 ?rest19y
            case hy19y => go_simp; try with_reducible rfl
            try simp only [Act.put, List.setIfInBounds_toArray, List.set_cons_zero, List.set_cons_succ]
            refine takeC (i := 20) (v := ?v20y) 100 rfl rfl (by kernel_rfl) (by kernel_rfl) (by kernel_rfl) (by kernel_rfl) (fun _ _ _ h => h) (Or.inl ⟨by rfl, fun w' hw' => ?hy20y⟩) hS0 ?rest20y
            case hy20y => go_simp; try with_reducible rfl
            try simp only [Act.put, List.setIfInBounds_toArray, List.set_cons_zero, List.set_cons_succ]
            refine takeC (i := 21) (v := undef) 101 rfl rfl (by kernel_rfl) (by kernel_rfl) (by kernel_rfl) (by kernel_rfl) (fun _ _ _ h => h) (Or.inr ⟨by rfl, by rfl⟩) hS0 ?_
            try simp only [Act.put, List.setIfInBounds_toArray, List.set_cons_zero, List.set_cons_succ]
            refine takeC (i := 22) (v := undef) 102 rfl rfl (by kernel_rfl) (by kernel_rfl) (by kernel_rfl) (by kernel_rfl) (fun _ _ _ h => h) (Or.inr ⟨by rfl, by rfl⟩) hS0 ?_
            try simp only [Act.put, List.setIfInBounds_toArray, List.set_cons_zero, List.set_cons_succ]
            refine takeC (i := 23) (v := undef) 103 rfl rfl (by kernel_rfl) (by kernel_rfl) (by kernel_rfl) (by kernel_rfl) (fun _ _ _ h => h) (Or.inr ⟨by rfl, by rfl⟩) hS0 ?_
            try simp only [Act.put, List.setIfInBounds_toArray, List.set_cons_zero, List.set_cons_succ]
            refine takeC (i := 24) (v := undef) 104 rfl rfl (by kernel_rfl) (by kernel_rfl) (by kernel_rfl) (by kernel_rfl) (fun _ _ _ h => h) (Or.inr ⟨by rfl, by rfl⟩) hS0 ?_
            try simp only [Act.put, List.setIfInBounds_toArray, List.set_cons_zero, List.set_cons_succ]
            refine takeC (i := 25) (v := undef) 105 rfl rfl (by kernel_rfl) (by kernel_rfl) (by kernel_rfl) (by kernel_rfl) (fun _ _ _ h => h) (Or.inr ⟨by rfl, by rfl⟩) hS0 ?_
            try simp only [Act.put, List.setIfInBounds_toArray, List.set_cons_zero, List.set_cons_succ]
            refine takeC (i := 26) (v := ?v26y) 106 rfl rfl (by kernel_rfl) (by kernel_rfl) (by kernel_rfl) (by kernel_rfl) (fun _ _ _ h => h) (Or.inl ⟨by rfl, fun w' hw' => ?hy26y⟩) hS0 ?rest26y
            case hy26y => go_simp; try with_reducible rfl
            try simp only [Act.put, List.setIfInBounds_toArray, List.set_cons_zero, List.set_cons_succ]
            refine takeC (i := 27) (v := ?v27y) 107 rfl rfl (by kernel_rfl) (by kernel_rfl) (by kernel_rfl) (by kernel_rfl) (fun _ _ _ h => h) (Or.inl ⟨by rfl, fun w' hw' => ?hy27y⟩) hS0 ?rest27y
            case hy27y => go_simp; try with_reducible rfl
            try simp only [Act.put, List.setIfInBounds_toArray, List.set_cons_zero, List.set_cons_succ]
            refine doneS (by kernel_rfl) ?_ _
            go_wp2_with fail
            go_meet
            exact ⟨rfl, hS0⟩
      case rest =>
        obtain ⟨rfl, hd8⟩ := hcut
        clear hd7
        go_upto_region 10 with fail
        go_cut [129] (fun b wx => b = .bool false ∧ Below vz.heap.size vz wx)
        case first =>
          have hS0 : Below vz.heap.size vz _ := hd8.drew
          clear hd8
          cases So
          · as_aux_lemma =>
              rcases Xz.out with ⟨h1, _⟩ | ⟨_, rfl, hsl, rfl⟩
              · rw [HSO.out] at h1; cases h1
              cases hsl
              refine wp_region_S (fun _ w' => Below vz.heap.size vz w') (by kernel_rfl) ?_
              refine takeC (i := 0) (v := ?v0p) 108 rfl rfl (by kernel_rfl) (by kernel_rfl) (by kernel_rfl) (by kernel_rfl) (fun _ _ _ h => h) (Or.inl ⟨by rfl, fun w' hw' => ?hy0p⟩) hS0 ?rest0p
              case hy0p => go_simp; try with_reducible rfl
              try simp only [Act.put, List.setIfInBounds_toArray, List.set_cons_zero, List.set_cons_succ]
              refine takeC (i := 1) (v := ?v1p) 109 rfl rfl (by kernel_rfl) (by kernel_rfl) (by kernel_rfl) (by kernel_rfl) (fun _ _ _ h => h) (Or.inl ⟨by rfl, fun w' hw' => ?hy1p⟩) hS0 ?rest1p
              case hy1p => go_simp; try with_reducible rfl
              try simp only [Act.put, List.setIfInBounds_toArray, List.set_cons_zero, List.set_cons_succ]
              refine takeC (i := 2) (v := undef) 110 rfl rfl (by kernel_rfl) (by kernel_rfl) (by kernel_rfl) (by kernel_rfl) (fun _ _ _ h => h) (Or.inr ⟨by rfl, by rfl⟩) hS0 ?_
              try simp only [Act.put, List.setIfInBounds_toArray, List.set_cons_zero, List.set_cons_succ]
              refine takeC (i := 3) (v := undef) 111 rfl rfl (by kernel_rfl) (by kernel_rfl) (by kernel_rfl) (by kernel_rfl) (fun _ _ _ h => h) (Or.inr ⟨by rfl, by rfl⟩) hS0 ?_
              try simp only [Act.put, List.setIfInBounds_toArray, List.set_cons_zero, List.set_cons_succ]
              refine takeC (i := 4) (v := undef) 112 rfl rfl (by kernel_rfl) (by kernel_rfl) (by kernel_rfl) (by kernel_rfl) (fun _ _ _ h => h) (Or.inr ⟨by rfl, by rfl⟩) hS0 ?_
              try simp only [Act.put, List.setIfInBounds_toArray, List.set_cons_zero, List.set_cons_succ]
              refine takeC (i := 5) (v := undef) 113 rfl rfl (by kernel_rfl) (by kernel_rfl) (by kernel_rfl) (by kernel_rfl) (fun _ _ _ h => h) (Or.inr ⟨by rfl, by rfl⟩) hS0 ?_
              try simp only [Act.put, List.setIfInBounds_toArray, List.set_cons_zero, List.set_cons_succ]
              refine takeC (i := 6) (v := undef) 114 rfl rfl (by kernel_rfl) (by kernel_rfl) (by kernel_rfl) (by kernel_rfl) (fun _ _ _ h => h) (Or.inr ⟨by rfl, by rfl⟩) hS0 ?_
              try simp only [Act.put, List.setIfInBounds_toArray, List.set_cons_zero, List.set_cons_succ]
              refine takeC (i := 7) (v := undef) 115 rfl rfl (by kernel_rfl) (by kernel_rfl) (by kernel_rfl) (by kernel_rfl) (fun _ _ _ h => h) (Or.inr ⟨by rfl, by rfl⟩) hS0 ?_
              try simp only [Act.put, List.setIfInBounds_toArray, List.set_cons_zero, List.set_cons_succ]
              refine takeC (i := 8) (v := undef) 116 rfl rfl (by kernel_rfl) (by kernel_rfl) (by kernel_rfl) (by kernel_rfl) (fun _ _ _ h => h) (Or.inr ⟨by rfl, by rfl⟩) hS0 ?_
              try simp only [Act.put, List.setIfInBounds_toArray, List.set_cons_zero, List.set_cons_succ]
              refine takeC (i := 9) (v := undef) 117 rfl rfl (by kernel_rfl) (by kernel_rfl) (by kernel_rfl) (by kernel_rfl) (fun _ _ _ h => h) (Or.inr ⟨by rfl, by rfl⟩) hS0 ?_
              try simp only [Act.put, List.setIfInBounds_toArray, List.set_cons_zero, List.set_cons_succ]
              refine takeC (i := 10) (v := ?v10p) 118 rfl rfl (by kernel_rfl) (by kernel_rfl) (by kernel_rfl) (by kernel_rfl) (fun _ _ _ h => h) (Or.inl ⟨by rfl, fun w' hw' => ?hy10p⟩) hS0 ?rest10p
              case hy10p => go_simp; try with_reducible rfl
              try simp only [Act.put, List.setIfInBounds_toArray, List.set_cons_zero, List.set_cons_succ]
              refine takeC (i := 11) (v := ?v11p) 119 rfl rfl (by kernel_rfl) (by kernel_rfl) (by kernel_rfl) (by kernel_rfl) (fun _ _ _ h => h) (Or.inl ⟨by rfl, fun w' hw' => ?hy11p⟩) hS0 ?rest11p
              case hy11p => go_simp; try with_reducible rfl
              try simp only [Act.put, List.setIfInBounds_toArray, List.set_cons_zero, List.set_cons_succ]
              refine takeC (i := 12) (v := ?v12p) 120 rfl rfl (by kernel_rfl) (by kernel_rfl) (by kernel_rfl) (by kernel_rfl) (fun _ _ _ h => h) (Or.inl ⟨by rfl, fun w' hw' => ?hy12p⟩) hS0 ?rest12p
              case hy12p => go_simp; try with_reducible rfl
              try simp only [Act.put, List.setIfInBounds_toArray, List.set_cons_zero, List.set_cons_succ]
              refine takeC (i := 13) (v := ?v13p) 121 rfl rfl (by kernel_rfl) (by kernel_rfl) (by kernel_rfl) (by kernel_rfl) (fun _ _ _ h => h) (Or.inl ⟨by rfl, fun w' hw' => ?hy13p⟩) hS0 ?rest13p
              case hy13p => go_simp; try with_reducible rfl
              try simp only [Act.put, List.setIfInBounds_toArray, List.set_cons_zero, List.set_cons_succ]
              refine takeC (i := 14) (v := ?v14p) 122 rfl rfl (by kernel_rfl) (by kernel_rfl) (by kernel_rfl) (by kernel_rfl) (fun _ _ _ h => h) (Or.inl ⟨by rfl, fun w' hw' => ?hy14p⟩) hS0 ?rest14p
              case hy14p => go_simp; try with_reducible rfl
              try simp only [Act.put, List.setIfInBounds_toArray, List.set_cons_zero, List.set_cons_succ]
              refine takeC (i := 15) (v := ?v15p) 123 rfl rfl (by kernel_rfl) (by kernel_rfl) (by kernel_rfl) (by kernel_rfl) (fun _ _ _ h => h) (Or.inl ⟨by rfl, fun w' hw' => ?hy15p⟩) hS0 ?rest15p
              case hy15p => obtain ⟨⟨kz0, kz1⟩, fkz0, fkz1⟩ := ((BX.out.below hw').get 5 rfl).two; go_simp; try with_reducible rfl
              try simp only [Act.put, List.setIfInBounds_toArray, List.set_cons_zero, List.set_cons_succ]
              refine takeC (i := 16) (v := ?v16p) 124 rfl rfl (by kernel_rfl) (by kernel_rfl) (by kernel_rfl) (by kernel_rfl) (fun _ _ _ h => h) (Or.inl ⟨by rfl, fun w' hw' => ?hy16p⟩) hS0 ?rest16p
              case hy16p => go_simp; try with_reducible rfl
              try simp only [Act.put, List.setIfInBounds_toArray, List.set_cons_zero, List.set_cons_succ]
              refine takeC (i := 17) (v := ?v17p) 125 rfl rfl (by kernel_rfl) (by kernel_rfl) (by kernel_rfl) (by kernel_rfl) (fun _ _ _ h => h) (Or.inl ⟨by rfl, fun w' hw' => ?hy17p⟩) hS0 ?rest17p
              case hy17p => obtain ⟨⟨kg0, kg1⟩, fkg0, fkg1⟩ := ((BX.out.below hw').get 0 rfl).two; go_simp; try with_reducible rfl
              try simp only [Act.put, List.setIfInBounds_toArray, List.set_cons_zero, List.set_cons_succ]
              refine oneS (k := 18) (by kernel_rfl) rfl (by rfl) (fun K hK => ?_)
              go_simp
              go_at_call 15
              refine (cN.out _).mono ?_
              rintro e w9 ⟨rfl, hb⟩
              dsimp only
              have hS1 := hS0.trans (hb.mono hS0.size)
              refine hK _ _ hS1 ?_
              clear hK K
              try simp only [Act.put, List.setIfInBounds_toArray, List.set_cons_zero, List.set_cons_succ]
              clear hS0 hb
              have hS0 := hS1
              clear hS1
              refine takeC (i := 19) (v := ?v19p) 127 rfl rfl (by kernel_rfl) (by kernel_rfl) (by kernel_rfl) (by kernel_rfl) (fun _ _ _ h => h) (Or.inl ⟨by rfl, fun w' hw' => ?hy19p⟩) hS0 ?rest19p
              case hy19p => go_simp; try with_reducible rfl
              try simp only [Act.put, List.setIfInBounds_toArray, List.set_cons_zero, List.set_cons_succ]
              refine takeC (i := 20) (v := ?v20p) 128 rfl rfl (by kernel_rfl) (by kernel_rfl) (by kernel_rfl) (by kernel_rfl) (fun _ _ _ h => h) (Or.inl ⟨by rfl, fun w' hw' => ?hy20p⟩) hS0 ?rest20p
              case hy20p => go_simp; try with_reducible rfl
              try simp only [Act.put, List.setIfInBounds_toArray, List.set_cons_zero, List.set_cons_succ]
              refine takeC (i := 21) (v := ?v21p) 129 rfl rfl (by kernel_rfl) (by kernel_rfl) (by kernel_rfl) (by kernel_rfl) (fun _ _ _ h => h) (Or.inl ⟨by rfl, fun w' hw' => ?hy21p⟩) hS0 ?rest21p
              case hy21p => go_simp; try with_reducible rfl
              try simp only [Act.put, List.setIfInBounds_toArray, List.set_cons_zero, List.set_cons_succ]
              refine doneS (by kernel_rfl) ?_ _
              go_wp2_with fail
              go_meet
              exact ⟨rfl, hS0⟩
          · as_aux_lemma =>
              rcases Xz.out with ⟨_, rfl, rfl, lvz, mz, lz, nz⟩ | ⟨h1, _⟩
              rotate_left
              · rw [HSO.out] at h1; cases h1
              have cE : Hid (∀ W', Below vz.heap.size vz W' → Calls Tryd.prog 17 #[.agg #[.int .i64 zc, .slice A1 n c1], .int .i64 row, .bool soft] W' (RPost W' zc lv1 (softT (lv1.map Prod.fst) row soft))) := fun W' hb => refSoft_out zc row soft _ lv1 W' (HG.out.below hb) HSO.out
              have cI : Hid (∀ W' v9 lv9, Below vz.heap.size vz W' → lv9.map Prod.fst = softT (lv1.map Prod.fst) row soft → LR W' v9 lv9 → CesOf W' lv9 → Calls Tryd.prog 15 #[.agg #[.int .i64 zc, .slice zA zk zp], .int .i64 0, .bool true, .agg #[.int .i64 zc, v9]] W' (IsPost W')) := fun W' v9 lv9 hb m9 l9 n9 =>
                is_yes zc _ v9 lvz lv9 W' (lz.below hb) l9 (nz.below hb) n9 (mz.trans m9.symm) (Sz.of_map mz (softT_sz HG.out.sm HSO.out))
              clear mz lz nz
              refine wp_region_S (fun _ w' => Below vz.heap.size vz w') (by kernel_rfl) ?_
              refine takeC (i := 0) (v := ?v0q) 108 rfl rfl (by kernel_rfl) (by kernel_rfl) (by kernel_rfl) (by kernel_rfl) (fun _ _ _ h => h) (Or.inl ⟨by rfl, fun w' hw' => ?hy0q⟩) hS0 ?rest0q
              case hy0q => go_simp; try with_reducible rfl
              try simp only [Act.put, List.setIfInBounds_toArray, List.set_cons_zero, List.set_cons_succ]
              refine takeC (i := 1) (v := ?v1q) 109 rfl rfl (by kernel_rfl) (by kernel_rfl) (by kernel_rfl) (by kernel_rfl) (fun _ _ _ h => h) (Or.inl ⟨by rfl, fun w' hw' => ?hy1q⟩) hS0 ?rest1q
              case hy1q => go_simp; try with_reducible rfl
              try simp only [Act.put, List.setIfInBounds_toArray, List.set_cons_zero, List.set_cons_succ]
              refine takeC (i := 2) (v := ?v2q) 110 rfl rfl (by kernel_rfl) (by kernel_rfl) (by kernel_rfl) (by kernel_rfl) (fun _ _ _ h => h) (Or.inl ⟨by rfl, fun w' hw' => ?hy2q⟩) hS0 ?rest2q
              case hy2q => obtain ⟨⟨kz0, kz1⟩, fkz0, fkz1⟩ := ((BX.out.below hw').get 5 rfl).two; go_simp; try with_reducible rfl
              try simp only [Act.put, List.setIfInBounds_toArray, List.set_cons_zero, List.set_cons_succ]
              refine takeC (i := 3) (v := ?v3q) 111 rfl rfl (by kernel_rfl) (by kernel_rfl) (by kernel_rfl) (by kernel_rfl) (fun _ _ _ h => h) (Or.inl ⟨by rfl, fun w' hw' => ?hy3q⟩) hS0 ?rest3q
              case hy3q => go_simp; try with_reducible rfl
              try simp only [Act.put, List.setIfInBounds_toArray, List.set_cons_zero, List.set_cons_succ]
              refine takeC (i := 4) (v := ?v4q) 112 rfl rfl (by kernel_rfl) (by kernel_rfl) (by kernel_rfl) (by kernel_rfl) (fun _ _ _ h => h) (Or.inl ⟨by rfl, fun w' hw' => ?hy4q⟩) hS0 ?rest4q
              case hy4q => obtain ⟨⟨kg0, kg1⟩, fkg0, fkg1⟩ := ((BX.out.below hw').get 0 rfl).two; go_simp; try with_reducible rfl
              try simp only [Act.put, List.setIfInBounds_toArray, List.set_cons_zero, List.set_cons_succ]
              refine takeC (i := 5) (v := ?v5q) 113 rfl rfl (by kernel_rfl) (by kernel_rfl) (by kernel_rfl) (by kernel_rfl) (fun _ _ _ h => h) (Or.inl ⟨by rfl, fun w' hw' => ?hy5q⟩) hS0 ?rest5q
              case hy5q => go_simp; try with_reducible rfl
              try simp only [Act.put, List.setIfInBounds_toArray, List.set_cons_zero, List.set_cons_succ]
              refine takeC (i := 6) (v := ?v6q) 114 rfl rfl (by kernel_rfl) (by kernel_rfl) (by kernel_rfl) (by kernel_rfl) (fun _ _ _ h => h) (Or.inl ⟨by rfl, fun w' hw' => ?hy6q⟩) hS0 ?rest6q
              case hy6q => go_simp; try with_reducible rfl
              try simp only [Act.put, List.setIfInBounds_toArray, List.set_cons_zero, List.set_cons_succ]
              refine oneS (k := 7) (by kernel_rfl) rfl (by rfl) (fun K hK => ?_)
              go_simp
              go_at_call 17
              refine (cE.out _ hS0).mono ?_
              rintro e w9 ⟨v9, lv9, rfl, m9, l9, n9, hb⟩
              obtain ⟨A9, c9, hv9⟩ := l9.spell
              subst hv9
              dsimp only
              have hS1 := hS0.trans (hb.mono hS0.size)
              refine hK _ _ hS1 ?_
              clear hK K
              try simp only [Act.put, List.setIfInBounds_toArray, List.set_cons_zero, List.set_cons_succ]
              clear hS0 hb
              have hS0 := hS1
              clear hS1
              refine oneS (k := 8) (by kernel_rfl) rfl (by rfl) (fun K hK => ?_)
              go_simp
              go_at_call 15
              refine (cI.out _ _ lv9 hS0 m9 l9.row (n9.ces (HG.out.below hS0).ces)).mono ?_
              rintro e w9 ⟨rfl, hb⟩
              dsimp only
              have hS1 := hS0.trans (hb.mono hS0.size)
              refine hK _ _ hS1 ?_
              clear hK K
              try simp only [Act.put, List.setIfInBounds_toArray, List.set_cons_zero, List.set_cons_succ]
              clear hS0 hb
              have hS0 := hS1
              clear hS1
              refine takeC (i := 9) (v := ?v9q) 117 rfl rfl (by kernel_rfl) (by kernel_rfl) (by kernel_rfl) (by kernel_rfl) (fun _ _ _ h => h) (Or.inl ⟨by rfl, fun w' hw' => ?hy9q⟩) hS0 ?rest9q
              case hy9q => go_simp; try with_reducible rfl
              try simp only [Act.put, List.setIfInBounds_toArray, List.set_cons_zero, List.set_cons_succ]
              refine takeC (i := 10) (v := ?v10q) 118 rfl rfl (by kernel_rfl) (by kernel_rfl) (by kernel_rfl) (by kernel_rfl) (fun _ _ _ h => h) (Or.inl ⟨by rfl, fun w' hw' => ?hy10q⟩) hS0 ?rest10q
              case hy10q => go_simp; try with_reducible rfl
              try simp only [Act.put, List.setIfInBounds_toArray, List.set_cons_zero, List.set_cons_succ]
              refine takeC (i := 11) (v := ?v11q) 119 rfl rfl (by kernel_rfl) (by kernel_rfl) (by kernel_rfl) (by kernel_rfl) (fun _ _ _ h => h) (Or.inl ⟨by rfl, fun w' hw' => ?hy11q⟩) hS0 ?rest11q
              case hy11q => go_simp; try with_reducible rfl
              try simp only [Act.put, List.setIfInBounds_toArray, List.set_cons_zero, List.set_cons_succ]
              refine takeC (i := 12) (v := ?v12q) 120 rfl rfl (by kernel_rfl) (by kernel_rfl) (by kernel_rfl) (by kernel_rfl) (fun _ _ _ h => h) (Or.inl ⟨by rfl, fun w' hw' => ?hy12q⟩) hS0 ?rest12q
              case hy12q => go_simp; try with_reducible rfl
              try simp only [Act.put, List.setIfInBounds_toArray, List.set_cons_zero, List.set_cons_succ]
              refine takeC (i := 13) (v := ?v13q) 121 rfl rfl (by kernel_rfl) (by kernel_rfl) (by kernel_rfl) (by kernel_rfl) (fun _ _ _ h => h) (Or.inl ⟨by rfl, fun w' hw' => ?hy13q⟩) hS0 ?rest13q
              case hy13q => go_simp; try with_reducible rfl
              try simp only [Act.put, List.setIfInBounds_toArray, List.set_cons_zero, List.set_cons_succ]
              refine takeC (i := 14) (v := ?v14q) 122 rfl rfl (by kernel_rfl) (by kernel_rfl) (by kernel_rfl) (by kernel_rfl) (fun _ _ _ h => h) (Or.inl ⟨by rfl, fun w' hw' => ?hy14q⟩) hS0 ?rest14q
              case hy14q => go_simp; try with_reducible rfl
              try simp only [Act.put, List.setIfInBounds_toArray, List.set_cons_zero, List.set_cons_succ]
              refine takeC (i := 15) (v := undef) 123 rfl rfl (by kernel_rfl) (by kernel_rfl) (by kernel_rfl) (by kernel_rfl) (fun _ _ _ h => h) (Or.inr ⟨by rfl, by rfl⟩) hS0 ?_
              try simp only [Act.put, List.setIfInBounds_toArray, List.set_cons_zero, List.set_cons_succ]
              refine takeC (i := 16) (v := undef) 124 rfl rfl (by kernel_rfl) (by kernel_rfl) (by kernel_rfl) (by kernel_rfl) (fun _ _ _ h => h) (Or.inr ⟨by rfl, by rfl⟩) hS0 ?_
              try simp only [Act.put, List.setIfInBounds_toArray, List.set_cons_zero, List.set_cons_succ]
              refine takeC (i := 17) (v := undef) 125 rfl rfl (by kernel_rfl) (by kernel_rfl) (by kernel_rfl) (by kernel_rfl) (fun _ _ _ h => h) (Or.inr ⟨by rfl, by rfl⟩) hS0 ?_
              try simp only [Act.put, List.setIfInBounds_toArray, List.set_cons_zero, List.set_cons_succ]
              refine takeC (i := 18) (v := undef) 126 rfl rfl (by kernel_rfl) (by kernel_rfl) (by kernel_rfl) (by kernel_rfl) (fun _ _ _ h => h) (Or.inr ⟨by rfl, by rfl⟩) hS0 ?_
              try simp only [Act.put, List.setIfInBounds_toArray, List.set_cons_zero, List.set_cons_succ]
              refine takeC (i := 19) (v := undef) 127 rfl rfl (by kernel_rfl) (by kernel_rfl) (by kernel_rfl) (by kernel_rfl) (fun _ _ _ h => h) (Or.inr ⟨by rfl, by rfl⟩) hS0 ?_
              try simp only [Act.put, List.setIfInBounds_toArray, List.set_cons_zero, List.set_cons_succ]
              refine takeC (i := 20) (v := ?v20q) 128 rfl rfl (by kernel_rfl) (by kernel_rfl) (by kernel_rfl) (by kernel_rfl) (fun _ _ _ h => h) (Or.inl ⟨by rfl, fun w' hw' => ?hy20q⟩) hS0 ?rest20q
              case hy20q => go_simp; try with_reducible rfl
              try simp only [Act.put, List.setIfInBounds_toArray, List.set_cons_zero, List.set_cons_succ]
              refine takeC (i := 21) (v := ?v21q) 129 rfl rfl (by kernel_rfl) (by kernel_rfl) (by kernel_rfl) (by kernel_rfl) (fun _ _ _ h => h) (Or.inl ⟨by rfl, fun w' hw' => ?hy21q⟩) hS0 ?rest21q
              case hy21q => go_simp; try with_reducible rfl
              try simp only [Act.put, List.setIfInBounds_toArray, List.set_cons_zero, List.set_cons_succ]
              refine doneS (by kernel_rfl) ?_ _
              go_wp2_with fail
              go_meet
              exact ⟨rfl, hS0⟩
        case rest =>
          obtain ⟨rfl, hd9⟩ := hcut
          clear hd8 cA HSO HEO HEQ Xy Xz
          have hpl : ∀ W', Below vz.heap.size vz W' → _ := fun W' hb => place_any cols row col (.slice A1 n c1) lv1 W' (HG.out.below hb).lr (HG.out.below hb).ces HG.out.sm
          have hrr := fun W' => rright_any ⟨y, wd, fg, bg, fl⟩ W' (Nat.le_trans HYZ.out (by omega))
          unfold Ce.agg Ce.cells at hrr
          simp only at hrr
          obtain ⟨Po, hPo⟩ : ∃ Po, ((sizeB cols lv1.length && allB cols lv1) && (rowB row lv1.length && colB col cols)) = Po := ⟨_, rfl⟩
          obtain ⟨Ro, hRo⟩ : ∃ Ro, rightB ⟨y, wd, fg, bg, fl⟩ = Ro := ⟨_, rfl⟩
          obtain ⟨Ko, hKo⟩ : ∃ Ko, putOk cols lv1 row col ⟨y, wd, fg, bg, fl⟩ = Ko := ⟨_, rfl⟩
          have hKe : Ko = (Po && (Ro && decide (y.size ≠ 0))) := by rw [← hPo, ← hRo, ← hKo]; unfold putOk mayB; simp only [Bool.and_assoc]
          rw [hRo] at hrr
          have HPL : Hid (∀ W', Below vz.heap.size vz W' → Calls Tryd.prog 12 #[.agg #[.int .i64 cols, .slice A1 n c1], .int .i64 row, .int .i64 col] W' fun e w' => e = .returned (.bool Po) ∧ Below W'.heap.size W' w') := fun W' hb => by have := hpl W' hb; rw [hPo] at this; exact this
          have HRR := hid hrr
          have HKO := hid hKo
          have HKE := hid hKe
          obtain ⟨No, hNo⟩ : ∃ No, (!Ko) = No := ⟨_, rfl⟩
          have HNO := hid hNo
          clear hpl hrr hPo hRo hKo hKe hNo
          obtain ⟨⟨kg0, kg1⟩, kgf0, kgf1⟩ := ((BX.out.below hd9).get 0 rfl).two
          go_upto_region 12 with fail
          go_cut [144] (fun b wx => b = .bool No ∧ Below vz.heap.size vz wx)
          case first =>
            as_aux_lemma =>
              cases Po
              · have HE : Hid (Ko = false) := by unfold Hid; rw [HKE.out]; rfl
                go_wp2_with (first | (go_at_call 12; refine (HPL.out _ hd9).mono ?_; rintro e6 w6 ⟨rfl, D6⟩; have D6 := hd9.trans (D6.mono hd9.size); obtain ⟨⟨kc0, kc1, kc2, kc3, kc4⟩, fkc0, fkc1, fkc2, fkc3, fkc4⟩ := ((BX.out.below D6).get 1 rfl).five) | (go_at_call 18; refine (HRR.out _).mono ?_; rintro e7 w7 ⟨rfl, D7⟩; have D7 := D6.trans (D7.mono D6.size); obtain ⟨⟨jc0, jc1, jc2, jc3, jc4⟩, fjc0, fjc1, fjc2, fjc3, fjc4⟩ := ((BX.out.below D7).get 1 rfl).five))
                go_meet
                exact ⟨by rw [← HNO.out, HE.out]; rfl, D6⟩
              · cases Ro
                · have HE : Hid (Ko = false) := by unfold Hid; rw [HKE.out]; rfl
                  go_wp2_with (first | (go_at_call 12; refine (HPL.out _ hd9).mono ?_; rintro e6 w6 ⟨rfl, D6⟩; have D6 := hd9.trans (D6.mono hd9.size); obtain ⟨⟨kc0, kc1, kc2, kc3, kc4⟩, fkc0, fkc1, fkc2, fkc3, fkc4⟩ := ((BX.out.below D6).get 1 rfl).five) | (go_at_call 18; refine (HRR.out _).mono ?_; rintro e7 w7 ⟨rfl, D7⟩; have D7 := D6.trans (D7.mono D6.size); obtain ⟨⟨jc0, jc1, jc2, jc3, jc4⟩, fjc0, fjc1, fjc2, fjc3, fjc4⟩ := ((BX.out.below D7).get 1 rfl).five))
                  go_meet
                  exact ⟨by rw [← HNO.out, HE.out]; rfl, D7⟩
                · by_cases h0 : y.size = 0
                  · have HE : Hid (Ko = false) := by unfold Hid; rw [HKE.out, decide_eq_false (by omega)]; rfl
                    obtain rfl := empty_yes h0
                    clear h0
                    go_wp2_with (first | (go_at_call 12; refine (HPL.out _ hd9).mono ?_; rintro e6 w6 ⟨rfl, D6⟩; have D6 := hd9.trans (D6.mono hd9.size); obtain ⟨⟨kc0, kc1, kc2, kc3, kc4⟩, fkc0, fkc1, fkc2, fkc3, fkc4⟩ := ((BX.out.below D6).get 1 rfl).five) | (go_at_call 18; refine (HRR.out _).mono ?_; rintro e7 w7 ⟨rfl, D7⟩; have D7 := D6.trans (D7.mono D6.size); obtain ⟨⟨jc0, jc1, jc2, jc3, jc4⟩, fjc0, fjc1, fjc2, fjc3, fjc4⟩ := ((BX.out.below D7).get 1 rfl).five))
                    go_meet
                    exact ⟨by rw [← HNO.out, HE.out]; rfl, D7⟩
                  · have HE : Hid (Ko = true) := by unfold Hid; rw [HKE.out, decide_eq_true (by omega)]; rfl
                    have hne := empty_no h0
                    go_wp2_with (first | (go_at_call 12; refine (HPL.out _ hd9).mono ?_; rintro e6 w6 ⟨rfl, D6⟩; have D6 := hd9.trans (D6.mono hd9.size); obtain ⟨⟨kc0, kc1, kc2, kc3, kc4⟩, fkc0, fkc1, fkc2, fkc3, fkc4⟩ := ((BX.out.below D6).get 1 rfl).five) | (go_at_call 18; refine (HRR.out _).mono ?_; rintro e7 w7 ⟨rfl, D7⟩; have D7 := D6.trans (D7.mono D6.size); obtain ⟨⟨jc0, jc1, jc2, jc3, jc4⟩, fjc0, fjc1, fjc2, fjc3, fjc4⟩ := ((BX.out.below D7).get 1 rfl).five))
                    go_meet
                    exact ⟨by rw [← HNO.out, HE.out]; rfl, D7⟩
          case rest =>
            obtain ⟨rfl, hd10⟩ := hcut
            clear hd9 HPL HRR HKE kg0 kg1 kgf0 kgf1
            obtain ⟨⟨kg0, kg1⟩, fkg0, fkg1⟩ := ((BX.out.below hd10).get 0 rfl).two
            obtain ⟨⟨kc0, kc1, kc2, kc3, kc4⟩, fkc0, fkc1, fkc2, fkc3, fkc4⟩ := ((BX.out.below hd10).get 1 rfl).five
            obtain ⟨⟨kx0, kx1⟩, fkx0, fkx1⟩ := ((BX.out.below hd10).get 3 rfl).two
            have hXX := Xx.out
            cases Ko
            · obtain rfl : No = true := by rw [← HNO.out]; rfl
              rw [HKO.out] at hXX
              rcases hXX with ⟨h1, _⟩ | ⟨_, rfl, hsl, hn1⟩
              · exact absurd h1 (by simp)
              rw [if_neg (by simp)] at hn1
              subst hn1
              cases hsl
              go_wp2_with ((with_reducible refine (cN.out _).mono ?_); rintro e w9 ⟨rfl, hb⟩)
              go_ret
              exact ⟨rfl, HH.out.trans ((hd10.trans (hb.mono hd10.size)).mono HH.out.size)⟩
            · obtain rfl : No = false := by rw [← HNO.out]; rfl
              have hcc : 1 ≤ cols ∧ cols ≤ 80 := by
                have h := HKO.out
                unfold putOk at h
                rw [Bool.and_eq_true] at h
                exact (mayB_cols h.1).1
              obtain ⟨c1l, c1u⟩ := hcc
              rw [HKO.out, if_pos rfl, Bool.true_and] at hXX
              by_cases hrm : wd = 2 ∧ col = cols - 1
              · have hr : roomB cols col ⟨y, wd, fg, bg, fl⟩ = true := decide_eq_true hrm
                rw [hr] at hXX
                rcases hXX with ⟨h1, _⟩ | ⟨_, rfl, hsl, rfl⟩
                · exact absurd h1 (by simp)
                cases hsl
                obtain ⟨rfl, hq⟩ := hrm
                have hq' : (col == cols - 1) = true := by rw [hq]; simp
                have HNL : Hid (∀ W', Calls Tryd.prog 19 #[.agg #[.int .i64 0, .slice none 0 0], .agg #[.int .i64 0, .slice none 0 0]] W' fun e w' => e = .returned (.bool true) ∧ Below W'.heap.size W' w') := fun W' => like_nil W'
                clear hq hr HKO
                go_wp2_with (with_reducible refine (HNL.out _).mono ?_; rintro e w9 ⟨rfl, hb⟩)
                go_ret
                exact ⟨rfl, HH.out.trans ((hd10.trans (hb.mono hd10.size)).mono HH.out.size)⟩
              · have hr : roomB cols col ⟨y, wd, fg, bg, fl⟩ = false := decide_eq_false hrm
                rw [hr] at hXX
                rcases hXX with ⟨_, hxc, rfl, lvx, mx, lx, nx⟩ | ⟨h1, _⟩
                rotate_left
                · exact absurd h1 (by simp)
                have cE : Hid (∀ W', Below vz.heap.size vz W' → Calls Tryd.prog 20 #[.agg #[.int .i64 cols, .slice A1 n c1], .int .i64 row, .int .i64 col, .agg #[.string y, .int .i64 wd, .int .i64 fg, .int .i64 bg, .int .i64 fl]] W' (RPost W' cols lv1 (putT (lv1.map Prod.fst) row col ⟨y, wd, fg, bg, fl⟩))) := fun W' hb => refPut_out cols row col ⟨y, wd, fg, bg, fl⟩ _ lv1 W' (HG.out.below hb) HKO.out hr
                have cI : Hid (∀ W' v9 lv9, Below vz.heap.size vz W' → lv9.map Prod.fst = putT (lv1.map Prod.fst) row col ⟨y, wd, fg, bg, fl⟩ → LR W' v9 lv9 → CesOf W' lv9 → Calls Tryd.prog 15 #[.agg #[.int .i64 xc, .slice xA xk xp], .int .i64 0, .bool true, .agg #[.int .i64 cols, v9]] W' (IsPost W')) := fun W' v9 lv9 hb m9 l9 n9 => by
                  rw [hxc]
                  exact is_yes cols _ v9 lvx lv9 W' (lx.below hb) l9 (nx.below hb) n9 (mx.trans m9.symm) (Sz.of_map mx (putT_sz HG.out.sm HKO.out hr))
                have hq : (wd = 2 ∧ ¬ col = cols - 1) ∨ ¬ wd = 2 := by omega
                clear mx lx nx hr hxc hrm HKO
                have hq2 : ((wd == 2) = true ∧ (col == cols - 1) = false) ∨ (wd == 2) = false := by
                  rcases hq with ⟨h1, h2⟩ | h1
                  · exact .inl ⟨by simp [h1], by simp [h2]⟩
                  · exact .inr (by simp [h1])
                clear hq
                go_upto_region 14 with fail
                go_cut [158] (fun b wx => b = .bool false ∧ Below vz.heap.size vz wx)
                case first =>
                  rcases hq2 with ⟨h1, h2⟩ | h1
                  · go_wp2
                    go_meet
                    exact ⟨rfl, hd10⟩
                  · go_wp2
                    go_meet
                    exact ⟨rfl, hd10⟩
                case rest =>
                  obtain ⟨rfl, hd11⟩ := hcut
                  clear hd10 hq2 kg0 fkg0 kg1 fkg1 kc0 fkc0 kc1 fkc1 kc2 fkc2 kc3 fkc3 kc4 fkc4 kx0 fkx0 kx1 fkx1
                  go_upto_region 16 with fail
                  have hS0 : Below vz.heap.size vz _ := hd11.drew
                  clear hd11
                  as_aux_lemma =>
                    refine wp_region_S (fun _ w' => Below vz.heap.size vz w') (by kernel_rfl) ?_
                    refine takeC (i := 0) (v := ?v0r) 166 rfl rfl (by kernel_rfl) (by kernel_rfl) (by kernel_rfl) (by kernel_rfl) (fun _ _ _ h => h) (Or.inl ⟨by rfl, fun w' hw' => ?hy0r⟩) hS0 ?rest0r
                    case hy0r => obtain ⟨⟨kx0, kx1⟩, fkx0, fkx1⟩ := ((BX.out.below hw').get 3 rfl).two; go_simp; try with_reducible rfl
                    try simp only [Act.put, List.setIfInBounds_toArray, List.set_cons_zero, List.set_cons_succ]
                    refine takeC (i := 1) (v := ?v1r) 167 rfl rfl (by kernel_rfl) (by kernel_rfl) (by kernel_rfl) (by kernel_rfl) (fun _ _ _ h => h) (Or.inl ⟨by rfl, fun w' hw' => ?hy1r⟩) hS0 ?rest1r
                    case hy1r => go_simp; try with_reducible rfl
                    try simp only [Act.put, List.setIfInBounds_toArray, List.set_cons_zero, List.set_cons_succ]
                    refine takeC (i := 2) (v := ?v2r) 168 rfl rfl (by kernel_rfl) (by kernel_rfl) (by kernel_rfl) (by kernel_rfl) (fun _ _ _ h => h) (Or.inl ⟨by rfl, fun w' hw' => ?hy2r⟩) hS0 ?rest2r
                    case hy2r => obtain ⟨⟨kg0, kg1⟩, fkg0, fkg1⟩ := ((BX.out.below hw').get 0 rfl).two; go_simp; try with_reducible rfl
                    try simp only [Act.put, List.setIfInBounds_toArray, List.set_cons_zero, List.set_cons_succ]
                    refine takeC (i := 3) (v := ?v3r) 169 rfl rfl (by kernel_rfl) (by kernel_rfl) (by kernel_rfl) (by kernel_rfl) (fun _ _ _ h => h) (Or.inl ⟨by rfl, fun w' hw' => ?hy3r⟩) hS0 ?rest3r
                    case hy3r => go_simp; try with_reducible rfl
                    try simp only [Act.put, List.setIfInBounds_toArray, List.set_cons_zero, List.set_cons_succ]
                    refine takeC (i := 4) (v := ?v4r) 170 rfl rfl (by kernel_rfl) (by kernel_rfl) (by kernel_rfl) (by kernel_rfl) (fun _ _ _ h => h) (Or.inl ⟨by rfl, fun w' hw' => ?hy4r⟩) hS0 ?rest4r
                    case hy4r => go_simp; try with_reducible rfl
                    try simp only [Act.put, List.setIfInBounds_toArray, List.set_cons_zero, List.set_cons_succ]
                    refine takeC (i := 5) (v := ?v5r) 171 rfl rfl (by kernel_rfl) (by kernel_rfl) (by kernel_rfl) (by kernel_rfl) (fun _ _ _ h => h) (Or.inl ⟨by rfl, fun w' hw' => ?hy5r⟩) hS0 ?rest5r
                    case hy5r => obtain ⟨⟨kc0, kc1, kc2, kc3, kc4⟩, fkc0, fkc1, fkc2, fkc3, fkc4⟩ := ((BX.out.below hw').get 1 rfl).five; go_simp; try with_reducible rfl
                    try simp only [Act.put, List.setIfInBounds_toArray, List.set_cons_zero, List.set_cons_succ]
                    refine oneS (k := 6) (by kernel_rfl) rfl (by rfl) (fun K hK => ?_)
                    go_simp
                    go_at_call 20
                    refine (cE.out _ hS0).mono ?_
                    rintro e w9 ⟨v9, lv9, rfl, m9, l9, n9, hb⟩
                    obtain ⟨A9, c9, hv9⟩ := l9.spell
                    subst hv9
                    dsimp only
                    have hS1 := hS0.trans (hb.mono hS0.size)
                    refine hK _ _ hS1 ?_
                    clear hK K
                    try simp only [Act.put, List.setIfInBounds_toArray, List.set_cons_zero, List.set_cons_succ]
                    clear hS0 hb
                    have hS0 := hS1
                    clear hS1
                    refine oneS (k := 7) (by kernel_rfl) rfl (by rfl) (fun K hK => ?_)
                    go_simp
                    go_at_call 15
                    refine (cI.out _ _ lv9 hS0 m9 l9.row (n9.ces (HG.out.below hS0).ces)).mono ?_
                    rintro e w9 ⟨rfl, hb⟩
                    dsimp only
                    have hS1 := hS0.trans (hb.mono hS0.size)
                    refine hK _ _ hS1 ?_
                    clear hK K
                    try simp only [Act.put, List.setIfInBounds_toArray, List.set_cons_zero, List.set_cons_succ]
                    clear hS0 hb
                    have hS0 := hS1
                    clear hS1
                    refine takeC (i := 8) (v := ?v8r) 14 rfl rfl (by kernel_rfl) (by kernel_rfl) (by kernel_rfl) (by kernel_rfl) (fun _ _ _ h => h) (Or.inl ⟨by rfl, fun w' hw' => ?hy8r⟩) hS0 ?rest8r
                    case hy8r => go_simp; try with_reducible rfl
                    try simp only [Act.put, List.setIfInBounds_toArray, List.set_cons_zero, List.set_cons_succ]
                    refine doneS (by kernel_rfl) ?_ _
                    go_wp2_with fail
                    go_ret
                    exact ⟨rfl, HH.out.trans (hS0.mono HH.out.size)⟩
end Go.Proofs.YtdpicbfpjnampaaDoor
