/- The law GridGoes, walked. Made by wip/gen/gridGoes.py. -/
import Derived.Test.YtkejoknphnkhnaaDoorGridGmQ
import Derived.Test.YtkejoknphnkhnaaDoorHeldSQ
import Derived.Deep.DeepCutAuto
import Derived.Deep.RegionWith
namespace Go.Proofs.YtkejoknphnkhnaaDoor
open Go.RowKit

set_option maxRecDepth 100000 in
set_option maxHeartbeats 16000000 in
theorem goes_any (cols row at_ num : Int) (v : Value) (lv : List (Ln × Value)) (a : At) (W : World) (hr : LR W v lv) (hc : CesOf W lv) (hn : (lv.length : Int) ≤ 9223372036854775807)
    (hl : ∀ e ∈ lv, (e.1.cs.length : Int) ≤ 9223372036854775807 ∧ ∀ c ∈ e.1.cs, (c.tx.size : Int) ≤ 9223372036854775807) (hT : Tab W) (hW : TabW W) :
    Calls Tryd.prog 3 #[.agg #[.int .i64 cols, v], .int .i64 row, .int .i64 at_, .int .i64 num, a.agg] W fun e w' => e = .returned (.bool true) ∧ Below W.heap.size W w' := by
  obtain ⟨gA, gc, rfl⟩ := hr.spell
  obtain ⟨af, ab, al⟩ := a
  have hbel : Below W.heap.size W ((W.alloc (.cells #[.int .i64 cols, .slice gA lv.length gc] 24)).alloc (.cells #[.int .i64 af, .int .i64 ab, .int .i64 al] 26)) := (below_alloc _ _).alloc (by simp) _
  have b0 := ((Bxs.nil W).alloc 24 #[.int .i64 cols, .slice gA lv.length gc]).alloc 26 #[.int .i64 af, .int .i64 ab, .int .i64 al]
  simp only [World.size_alloc, List.nil_append, List.cons_append] at b0
  have hfew := few_any cols _ lv _ (hr.below hbel) (hc.below hbel) hn hl
  obtain ⟨gn, hgn⟩ : ∃ gn, lv.length = gn := ⟨_, rfl⟩
  rw [hgn] at hfew b0 hbel ⊢
  have HFEW := hid hfew
  have B0 := hid b0
  have H0 := hid hbel
  have s0 : W.heap.size + 1 + 1 ≤ ((W.alloc (.cells #[.int .i64 cols, .slice gA gn gc] 24)).alloc (.cells #[.int .i64 af, .int .i64 ab, .int .i64 al] 26)).heap.size := by simp
  have S0 := hid s0
  have HT := hid hT
  have HW := hid hW
  clear hfew b0 hbel s0 hT hW hr hc hn hl hgn
  unfold At.agg
  simp only
  go_enter Tryd.func3, Tryd.ntmps3
  go_upto_region 1 with fail
  generalize ((W.alloc (.cells #[.int .i64 cols, .slice gA gn gc] 24)).alloc (.cells #[.int .i64 af, .int .i64 ab, .int .i64 al] 26)) = w0 at *
  obtain ⟨⟨k0, k1⟩, f0, f1⟩ := (B0.out.get 0 rfl).two
  go_wp2_with fail
  with_reducible refine HFEW.out.mono ?_
  rintro e w1 ⟨v1, lv1, rfl, hm1, hl1, hc1, hb1⟩
  dsimp only
  have b1 := B0.out.below hb1
  have g1 : Box w1 W.heap.size 24 #[.int .i64 cols, .slice gA gn gc] := b1.get 0 rfl
  obtain ⟨A1, c1, hv1⟩ := hl1.spell
  subst hv1
  obtain ⟨n, hn1⟩ : ∃ n, lv1.length = n := ⟨_, rfl⟩
  have HN := hid hn1
  rw [hn1] at hl1 ⊢
  clear k0 k1 f0 f1
  obtain ⟨⟨k0, k1⟩, f0, f1⟩ := g1.two
  have hls : LSl ((w1.setCell ⟨W.heap.size, 0, none⟩ (.int .i64 cols)).setCell ⟨W.heap.size, 1, none⟩ (.slice A1 n c1)) w0.heap.size (.slice A1 n c1) lv1 := (hl1.set g1 (by decide) _).set (g1.set _) (by decide) _
  have hcs : ∀ x ∈ lv1, CSl ((w1.setCell ⟨W.heap.size, 0, none⟩ (.int .i64 cols)).setCell ⟨W.heap.size, 1, none⟩ (.slice A1 n c1)) w0.heap.size x.2 x.1.cs := fun x hx => ((hc1 x hx).set g1 (by decide) _).set (g1.set _) (by decide) _
  have hh1 : Below W.heap.size W ((w1.setCell ⟨W.heap.size, 0, none⟩ (.int .i64 cols)).setCell ⟨W.heap.size, 1, none⟩ (.slice A1 n c1)) := below_set (below_set (H0.out.trans (hb1.mono H0.out.size)) (Nat.le_refl _) _) (Nat.le_refl _) _
  have b2 : Bxs ((w1.setCell ⟨W.heap.size, 0, none⟩ (.int .i64 cols)).setCell ⟨W.heap.size, 1, none⟩ (.slice A1 n c1)) [(W.heap.size, 24, #[.int .i64 cols, .slice A1 n c1]), (W.heap.size + 1, 26, #[.int .i64 af, .int .i64 ab, .int .i64 al])] := by
    intro x hx
    simp only [List.mem_cons, List.mem_nil_iff, or_false] at hx
    rcases hx with rfl | rfl
    · exact (g1.set (i := 0) _).set (i := 1) _
    · exact ((b1.get 1 rfl).other (by simp only; omega) _).other (by simp only; omega) _
  have hgi := few_in hm1 hls.row (fun x hx => (hcs x hx).row)
  have HG := hid hgi
  have HH := hid hh1
  have BX := hid b2
  clear hls hcs hh1 b2 b1 g1 hb1 hl1 hc1 hm1 hn1 hgi
  go_upto_region 2 with fail
  generalize ((w1.setCell ⟨W.heap.size, 0, none⟩ (.int .i64 cols)).setCell ⟨W.heap.size, 1, none⟩ (.slice A1 n c1)) = w2 at *
  clear k0 k1 f0 f1 HFEW B0 H0 S0
  obtain ⟨M, hM⟩ : ∃ M : Int, (if num ≤ 200 then num else 200) = M := ⟨_, rfl⟩
  have HMN := hid hM
  clear hM
  go_cut [3] (fun v wx => v = .int .i64 M ∧ w2 = wx)
  case first =>
    by_cases h2 : num ≤ 200
    · have HE : Hid (M = num) := by unfold Hid; rw [← HMN.out, if_pos h2]
      go_wp2_with fail
      go_meet
      exact ⟨by rw [HE.out], rfl⟩
    · have HE : Hid (M = 200) := by unfold Hid; rw [← HMN.out, if_neg h2]
      have h3 : (200 : Int) < num := by omega
      go_wp2_with fail
      go_meet
      exact ⟨by rw [HE.out], rfl⟩
  case rest =>
    obtain ⟨rfl, rfl⟩ := hcut
    clear HMN
    obtain ⟨⟨kg0, kg1⟩, kgf0, kgf1⟩ := (BX.out.get 0 rfl).two
    obtain ⟨⟨ka0, ka1, ka2⟩, kaf0, kaf1, kaf2⟩ := (BX.out.get 1 rfl).three
    have hcall := up_out cols row at_ M ⟨af, ab, al⟩ (.slice A1 n c1) lv1 _ HG.out (HT.out.below HH.out) (HW.out.below HH.out)
    unfold At.agg at hcall
    simp only at hcall
    have HCALL := hid hcall
    clear hcall
    go_wp2_with fail
    with_reducible refine HCALL.out.mono ?_
    rintro e wx ⟨xc, xA, xk, xp, uA, uk, up, xn, rfl, hb, hx⟩
    dsimp only
    obtain ⟨hxf, hgf⟩ := uout_parts hx
    have hb2 := hb.alloc hb.size (.cells #[.int .i64 xc, .slice xA xk xp] 24)
    have hbx := (BX.out.below hb).alloc 24 #[.int .i64 xc, .slice xA xk xp]
    simp only [List.cons_append, List.nil_append] at hbx
    have Xx := hid (hxf.below (below_alloc wx (.cells #[.int .i64 xc, .slice xA xk xp] 24)))
    have Xu := hid (hgf.below (below_alloc wx (.cells #[.int .i64 xc, .slice xA xk xp] 24)))
    have HG2 := hid (HG.out.below hb2)
    have HH2 := hid (HH.out.trans (hb2.mono HH.out.size))
    have BX2 := hid hbx
    clear hb hx hxf hb2 hbx HCALL BX HG HH  hgf
    clear kg0 kg1 kgf0 kgf1 ka0 ka1 ka2 kaf0 kaf1 kaf2
    go_upto_region 4 with fail
    generalize (wx.alloc (.cells #[.int .i64 xc, .slice xA xk xp] 24)) = vx at *
    generalize wx.heap.size = qx at *
    have BX := hid BX2.out
    have HG := hid HG2.out
    have HH := hid HH2.out
    clear BX2 HG2 HH2 
    obtain ⟨⟨kg0, kg1⟩, kgf0, kgf1⟩ := (BX.out.get 0 rfl).two
    obtain ⟨⟨ka0, ka1, ka2⟩, kaf0, kaf1, kaf2⟩ := (BX.out.get 1 rfl).three
    have hcall := down_out cols row at_ M ⟨af, ab, al⟩ (.slice A1 n c1) lv1 _ HG.out (HT.out.below HH.out) (HW.out.below HH.out)
    unfold At.agg at hcall
    simp only at hcall
    have HCALL := hid hcall
    clear hcall
    go_wp2_with fail
    with_reducible refine HCALL.out.mono ?_
    rintro e wy ⟨yc, yA, yk, yp, yn, rfl, hb, hx⟩
    dsimp only
    have hxf : XF wy cols _ 1 _ yc yA yk yp yn := hx
    have hb2 := hb.alloc hb.size (.cells #[.int .i64 yc, .slice yA yk yp] 24)
    have hbx := (BX.out.below hb).alloc 24 #[.int .i64 yc, .slice yA yk yp]
    simp only [List.cons_append, List.nil_append] at hbx
    have Xy := hid (hxf.below (below_alloc wy (.cells #[.int .i64 yc, .slice yA yk yp] 24)))
    have HG2 := hid (HG.out.below hb2)
    have HH2 := hid (HH.out.trans (hb2.mono HH.out.size))
    have Xx2 := hid (Xx.out.below hb2)
    have Xu2 := hid (Xu.out.below hb2)
    have BX2 := hid hbx
    clear hb hx hxf hb2 hbx HCALL BX HG HH Xx Xu
    clear kg0 kg1 kgf0 kgf1 ka0 ka1 ka2 kaf0 kaf1 kaf2
    go_upto_region 5 with fail
    generalize (wy.alloc (.cells #[.int .i64 yc, .slice yA yk yp] 24)) = vy at *
    generalize wy.heap.size = qy at *
    have BX := hid BX2.out
    have HG := hid HG2.out
    have HH := hid HH2.out
    have Xx := hid Xx2.out
    have Xu := hid Xu2.out
    clear BX2 HG2 HH2 Xx2 Xu2
    obtain ⟨⟨kg0, kg1⟩, kgf0, kgf1⟩ := (BX.out.get 0 rfl).two
    obtain ⟨⟨ka0, ka1, ka2⟩, kaf0, kaf1, kaf2⟩ := (BX.out.get 1 rfl).three
    have hcall := insert_out cols row at_ M ⟨af, ab, al⟩ (.slice A1 n c1) lv1 _ HG.out (HT.out.below HH.out) (HW.out.below HH.out)
    unfold At.agg at hcall
    simp only at hcall
    have HCALL := hid hcall
    clear hcall
    go_wp2_with fail
    with_reducible refine HCALL.out.mono ?_
    rintro e wz ⟨zc, zA, zk, zp, zn, rfl, hb, hx⟩
    dsimp only
    have hxf := XF.of (HG.out.below hb).ces hx
    have hb2 := hb.alloc hb.size (.cells #[.int .i64 zc, .slice zA zk zp] 24)
    have hbx := (BX.out.below hb).alloc 24 #[.int .i64 zc, .slice zA zk zp]
    simp only [List.cons_append, List.nil_append] at hbx
    have Xz := hid (hxf.below (below_alloc wz (.cells #[.int .i64 zc, .slice zA zk zp] 24)))
    have HG2 := hid (HG.out.below hb2)
    have HH2 := hid (HH.out.trans (hb2.mono HH.out.size))
    have Xx2 := hid (Xx.out.below hb2)
    have Xu2 := hid (Xu.out.below hb2)
    have Xy2 := hid (Xy.out.below hb2)
    have BX2 := hid hbx
    clear hb hx hxf hb2 hbx HCALL BX HG HH Xx Xu Xy
    clear kg0 kg1 kgf0 kgf1 ka0 ka1 ka2 kaf0 kaf1 kaf2
    go_upto_region 6 with fail
    generalize (wz.alloc (.cells #[.int .i64 zc, .slice zA zk zp] 24)) = vz at *
    generalize wz.heap.size = qz at *
    have BX := hid BX2.out
    have HG := hid HG2.out
    have HH := hid HH2.out
    have Xx := hid Xx2.out
    have Xu := hid Xu2.out
    have Xy := hid Xy2.out
    clear BX2 HG2 HH2 Xx2 Xu2 Xy2
    obtain ⟨⟨kg0, kg1⟩, kgf0, kgf1⟩ := (BX.out.get 0 rfl).two
    obtain ⟨⟨ka0, ka1, ka2⟩, kaf0, kaf1, kaf2⟩ := (BX.out.get 1 rfl).three
    have hcall := delete_out cols row at_ M ⟨af, ab, al⟩ (.slice A1 n c1) lv1 _ HG.out (HT.out.below HH.out) (HW.out.below HH.out)
    unfold At.agg at hcall
    simp only at hcall
    have HCALL := hid hcall
    clear hcall
    go_wp2_with fail
    with_reducible refine HCALL.out.mono ?_
    rintro e ww ⟨wc, wA, wk, wp, wn, rfl, hb, hx⟩
    dsimp only
    have hxf := XF.of (HG.out.below hb).ces hx
    have hb2 := hb.alloc hb.size (.cells #[.int .i64 wc, .slice wA wk wp] 24)
    have hbx := (BX.out.below hb).alloc 24 #[.int .i64 wc, .slice wA wk wp]
    simp only [List.cons_append, List.nil_append] at hbx
    have Xw := hid (hxf.below (below_alloc ww (.cells #[.int .i64 wc, .slice wA wk wp] 24)))
    have HG2 := hid (HG.out.below hb2)
    have HH2 := hid (HH.out.trans (hb2.mono HH.out.size))
    have Xx2 := hid (Xx.out.below hb2)
    have Xu2 := hid (Xu.out.below hb2)
    have Xy2 := hid (Xy.out.below hb2)
    have Xz2 := hid (Xz.out.below hb2)
    have BX2 := hid hbx
    clear hb hx hxf hb2 hbx HCALL BX HG HH Xx Xu Xy Xz
    clear kg0 kg1 kgf0 kgf1 ka0 ka1 ka2 kaf0 kaf1 kaf2
    go_upto_region 7 with fail
    generalize (ww.alloc (.cells #[.int .i64 wc, .slice wA wk wp] 24)) = vw at *
    generalize ww.heap.size = qw at *
    have BX := hid BX2.out
    have HG := hid HG2.out
    have HH := hid HH2.out
    have Xx := hid Xx2.out
    have Xu := hid Xu2.out
    have Xy := hid Xy2.out
    have Xz := hid Xz2.out
    clear BX2 HG2 HH2 Xx2 Xu2 Xy2 Xz2
    obtain ⟨⟨kg0, kg1⟩, kgf0, kgf1⟩ := (BX.out.get 0 rfl).two
    obtain ⟨⟨ka0, ka1, ka2⟩, kaf0, kaf1, kaf2⟩ := (BX.out.get 1 rfl).three
    obtain ⟨vv, rfl⟩ : ∃ vv : World, vv = vw := ⟨_, rfl⟩
    have hreg := rRegion_any cols row at_ M ⟨af, ab, al⟩ (.slice A1 n c1) lv1 vv HG.out
    unfold At.agg at hreg
    simp only at hreg
    obtain ⟨So, hSo⟩ : ∃ So, scrollOk cols lv1 row at_ M ⟨af, ab, al⟩ = So := ⟨_, rfl⟩
    rw [hSo] at hreg
    have HSO := hid hSo
    have HREG := hid hreg
    obtain ⟨Ho, hHo⟩ : ∃ Ho, shiftOk cols lv1 row at_ M ⟨af, ab, al⟩ = Ho := ⟨_, rfl⟩
    obtain ⟨Po, hPo⟩ : ∃ Po, ((sizeB cols lv1.length && allB cols lv1) && (rowB row lv1.length && colB at_ cols)) = Po := ⟨_, rfl⟩
    have hEq : Ho = (Po && (decide (0 ≤ M) && lookB ⟨af, ab, al⟩)) := by rw [← hHo, ← hPo]; unfold shiftOk mayB; simp only [Bool.and_assoc]
    have HHO := hid hHo
    have HPO := hid hPo
    have HEQ := hid hEq
    clear hHo hPo hEq hreg hSo
    cases So
    · go_upto_region 11 with (with_reducible refine HREG.out.mono ?_; rintro e6 w6 ⟨rfl, D6⟩)
      obtain ⟨vz, rfl⟩ : ∃ vz : World, vz = vv := ⟨_, rfl⟩
      clear kg0 kg1 kgf0 kgf1 ka0 ka1 ka2 kaf0 kaf1 kaf2
      have cN : Hid (∀ W', Calls Tryd.prog 14 #[.agg #[.int .i64 0, .slice none 0 0], .int .i64 1, .bool false, .agg #[.int .i64 cols, .slice A1 n c1]] W' (IsPost W')) := fun W' => is_no cols A1 n c1 W'
      go_cut [115] (fun b wx => b = .bool false ∧ Below vz.heap.size vz wx)
      case first =>
        as_aux_lemma =>
          rcases Xx.out with ⟨h1, _⟩ | ⟨_, hxc, hsl, hxn⟩
          · rw [HSO.out] at h1; cases h1
          subst hxc
          subst hxn
          cases hsl
          rcases Xy.out with ⟨h1, _⟩ | ⟨_, hyc, hsl, hyn⟩
          · rw [HSO.out] at h1; cases h1
          subst hyc
          subst hyn
          cases hsl
          rcases Xu.out with ⟨h1, _⟩ | ⟨_, hul⟩
          · rw [HSO.out] at h1; cases h1
          cases hul
          obtain ⟨⟨kx0, kx1⟩, fkx0, fkx1⟩ := ((BX.out.below D6).get 2 rfl).two
          obtain ⟨⟨kg0, kg1⟩, fkg0, fkg1⟩ := ((BX.out.below D6).get 0 rfl).two
          obtain ⟨⟨ky0, ky1⟩, fky0, fky1⟩ := ((BX.out.below D6).get 3 rfl).two
          go_wp2_with (go_at_call 14; refine (cN.out _).mono ?_; rintro e w9 ⟨rfl, hb⟩; have D6 := D6.trans (hb.mono D6.size); obtain ⟨⟨kx0, kx1⟩, fkx0, fkx1⟩ := ((BX.out.below D6).get 2 rfl).two; obtain ⟨⟨kg0, kg1⟩, fkg0, fkg1⟩ := ((BX.out.below D6).get 0 rfl).two; obtain ⟨⟨ky0, ky1⟩, fky0, fky1⟩ := ((BX.out.below D6).get 3 rfl).two)
          go_meet
          exact ⟨rfl, D6⟩
      case rest =>
        obtain ⟨rfl, hd⟩ := hcut
        clear D6 cN HSO HREG Xx Xy Xu
        obtain ⟨⟨kg0, kg1⟩, kgf0, kgf1⟩ := ((BX.out.below hd).get 0 rfl).two
        obtain ⟨⟨ka0, ka1, ka2⟩, kaf0, kaf1, kaf2⟩ := ((BX.out.below hd).get 1 rfl).three
        clear kg0 kg1 kgf0 kgf1 ka0 ka1 ka2 kaf0 kaf1 kaf2
        obtain ⟨⟨kg0, kg1⟩, fkg0, fkg1⟩ := ((BX.out.below hd).get 0 rfl).two
        obtain ⟨⟨ka0, ka1, ka2⟩, fka0, fka1, fka2⟩ := ((BX.out.below hd).get 1 rfl).three
        have hpl : ∀ W', Below vz.heap.size vz W' → _ := fun W' hb => place_any cols row at_ (.slice A1 n c1) lv1 W' (HG.out.below hb).lr (HG.out.below hb).ces HG.out.sm
        have HPL : Hid (∀ W', Below vz.heap.size vz W' → Calls Tryd.prog 17 #[.agg #[.int .i64 cols, .slice A1 n c1], .int .i64 row, .int .i64 at_] W' fun e w' => e = .returned (.bool Po) ∧ Below W'.heap.size W' w') := fun W' hb => by have := hpl W' hb; rw [HPO.out] at this; exact this
        have hlook := fun w => rLook_any ⟨af, ab, al⟩ w
        unfold At.agg at hlook
        simp only at hlook
        have HLK := hid hlook
        clear hpl hlook
        go_upto_region 13 with fail
        go_cut [127] (fun b wx => b = .bool Ho ∧ Below vz.heap.size vz wx)
        case first =>
          as_aux_lemma =>
            cases Po
            · have HE : Hid (Ho = false) := by unfold Hid; rw [HEQ.out]; rfl
              go_wp2_with (first | (go_at_call 17; refine (HPL.out _ hd).mono ?_; rintro e6 w6 ⟨rfl, D6⟩; have D6 := hd.trans (D6.mono hd.size); obtain ⟨⟨ja0, ja1, ja2⟩, fja0, fja1, fja2⟩ := ((BX.out.below D6).get 1 rfl).three) | (go_at_call 18; refine (HLK.out _).mono ?_; rintro e7 w7 ⟨rfl, D7⟩; have D7 := D6.trans (D7.mono D6.size)))
              go_meet
              exact ⟨by rw [HE.out], D6⟩
            · by_cases h0 : 0 ≤ M
              · have HE : Hid (Ho = lookB ⟨af, ab, al⟩) := by unfold Hid; rw [HEQ.out, decide_eq_true h0]; rfl
                have hd0 : decide (0 ≤ M) = true := decide_eq_true h0
                go_wp2_with (first | (go_at_call 17; refine (HPL.out _ hd).mono ?_; rintro e6 w6 ⟨rfl, D6⟩; have D6 := hd.trans (D6.mono hd.size); obtain ⟨⟨ja0, ja1, ja2⟩, fja0, fja1, fja2⟩ := ((BX.out.below D6).get 1 rfl).three) | (go_at_call 18; refine (HLK.out _).mono ?_; rintro e7 w7 ⟨rfl, D7⟩; have D7 := D6.trans (D7.mono D6.size)))
                go_meet
                exact ⟨by rw [HE.out], D7⟩
              · have HE : Hid (Ho = false) := by unfold Hid; rw [HEQ.out, decide_eq_false h0]; rfl
                have hd0 : decide (0 ≤ M) = false := decide_eq_false h0
                go_wp2_with (first | (go_at_call 17; refine (HPL.out _ hd).mono ?_; rintro e6 w6 ⟨rfl, D6⟩; have D6 := hd.trans (D6.mono hd.size); obtain ⟨⟨ja0, ja1, ja2⟩, fja0, fja1, fja2⟩ := ((BX.out.below D6).get 1 rfl).three) | (go_at_call 18; refine (HLK.out _).mono ?_; rintro e7 w7 ⟨rfl, D7⟩; have D7 := D6.trans (D7.mono D6.size)))
                go_meet
                exact ⟨by rw [HE.out], D6⟩
        case rest =>
          obtain ⟨rfl, hd2⟩ := hcut
          clear hd HPL HLK HEQ HPO kg0 kg1 fkg0 fkg1 ka0 ka1 ka2 fka0 fka1 fka2
          have cA : Hid (∀ W', Below vz.heap.size vz W' → Calls Tryd.prog 19 #[] W' fun e w' => e = .returned (.bool true) ∧ Below W'.heap.size W' w') := fun W' hb => alive_any W' (HT.out.below (HH.out.trans (hb.mono HH.out.size))) (HW.out.below (HH.out.trans (hb.mono HH.out.size)))
          have cN : Hid (∀ W', Calls Tryd.prog 14 #[.agg #[.int .i64 0, .slice none 0 0], .int .i64 1, .bool false, .agg #[.int .i64 cols, .slice A1 n c1]] W' (IsPost W')) := fun W' => is_no cols A1 n c1 W'
          cases Ho
          · as_aux_lemma =>
              rcases Xz.out with ⟨h1, _⟩ | ⟨_, hzc, hsl, hzn⟩
              · rw [HHO.out] at h1; cases h1
              subst hzc
              subst hzn
              cases hsl
              rcases Xw.out with ⟨h1, _⟩ | ⟨_, hwc, hsl, hwn⟩
              · rw [HHO.out] at h1; cases h1
              subst hwc
              subst hwn
              cases hsl
              go_wp2_with (first | (go_at_call 19; refine (cA.out _ hd2).mono ?_; rintro e w9 ⟨rfl, hb⟩; have hd2 := hd2.trans (hb.mono hd2.size); obtain ⟨⟨kz0, kz1⟩, fkz0, fkz1⟩ := ((BX.out.below hd2).get 4 rfl).two; obtain ⟨⟨kg0, kg1⟩, fkg0, fkg1⟩ := ((BX.out.below hd2).get 0 rfl).two; obtain ⟨⟨kw0, kw1⟩, fkw0, fkw1⟩ := ((BX.out.below hd2).get 5 rfl).two) | (go_at_call 14; refine (cN.out _).mono ?_; rintro e w9 ⟨rfl, hb⟩; have hd2 := hd2.trans (hb.mono hd2.size); obtain ⟨⟨kz0, kz1⟩, fkz0, fkz1⟩ := ((BX.out.below hd2).get 4 rfl).two; obtain ⟨⟨kg0, kg1⟩, fkg0, fkg1⟩ := ((BX.out.below hd2).get 0 rfl).two; obtain ⟨⟨kw0, kw1⟩, fkw0, fkw1⟩ := ((BX.out.below hd2).get 5 rfl).two))
              go_ret
              exact ⟨rfl, HH.out.trans (hd2.mono HH.out.size)⟩
          · as_aux_lemma =>
              rcases Xz.out with ⟨_, hzc, hzn, lvz, mz, lz, nz⟩ | ⟨h1, _⟩
              rotate_left
              · rw [HHO.out] at h1; cases h1
              have hzc := hzc.symm
              subst hzc
              subst hzn
              rcases Xw.out with ⟨_, hwc, hwn, lvw, mw, lw, nw⟩ | ⟨h1, _⟩
              rotate_left
              · rw [HHO.out] at h1; cases h1
              have hwc := hwc.symm
              subst hwc
              subst hwn
              have cE : Hid (∀ W', Below vz.heap.size vz W' → Calls Tryd.prog 20 #[.agg #[.int .i64 cols, .slice A1 n c1], .int .i64 row, .int .i64 at_, .int .i64 M, .agg #[.int .i64 af, .int .i64 ab, .int .i64 al]] W' (RPost W' cols lv1 (insertT (lv1.map Prod.fst) row at_ M ⟨af, ab, al⟩))) := fun W' hb => refInsert_out cols row at_ M ⟨af, ab, al⟩ _ lv1 W' (HG.out.below hb) HHO.out
              have cF : Hid (∀ W', Below vz.heap.size vz W' → Calls Tryd.prog 21 #[.agg #[.int .i64 cols, .slice A1 n c1], .int .i64 row, .int .i64 at_, .int .i64 M, .agg #[.int .i64 af, .int .i64 ab, .int .i64 al]] W' (RPost W' cols lv1 (deleteT (lv1.map Prod.fst) row at_ M ⟨af, ab, al⟩))) := fun W' hb => refDelete_out cols row at_ M ⟨af, ab, al⟩ _ lv1 W' (HG.out.below hb) HHO.out
              have cI : Hid (∀ W' v9 lv9, Below vz.heap.size vz W' → lv9.map Prod.fst = insertT (lv1.map Prod.fst) row at_ M ⟨af, ab, al⟩ → LR W' v9 lv9 → CesOf W' lv9 → Calls Tryd.prog 14 #[.agg #[.int .i64 cols, .slice zA zk zp], .int .i64 0, .bool true, .agg #[.int .i64 cols, v9]] W' (IsPost W')) := fun W' v9 lv9 hb m9 l9 n9 =>
                is_yes cols _ v9 lvz lv9 W' (lz.below hb) l9 (nz.below hb) n9 (mz.trans m9.symm) (insert_stay HG.out.sm HHO.out mz).2.szG
              have cJ : Hid (∀ W' v9 lv9, Below vz.heap.size vz W' → lv9.map Prod.fst = deleteT (lv1.map Prod.fst) row at_ M ⟨af, ab, al⟩ → LR W' v9 lv9 → CesOf W' lv9 → Calls Tryd.prog 14 #[.agg #[.int .i64 cols, .slice wA wk wp], .int .i64 0, .bool true, .agg #[.int .i64 cols, v9]] W' (IsPost W')) := fun W' v9 lv9 hb m9 l9 n9 =>
                is_yes cols _ v9 lvw lv9 W' (lw.below hb) l9 (nw.below hb) n9 (mw.trans m9.symm) (delete_stay HG.out.sm HHO.out mw).2.szG
              clear mz lz nz mw lw nw
              go_upto_region 14 with fail
              have hS0 : Below vz.heap.size vz _ := hd2.drew
              refine wp_region_S (fun _ w' => Below vz.heap.size vz w') (by kernel_rfl) ?_
              refine oneS (k := 0) (by kernel_rfl) rfl (by rfl) (fun K hK => ?_)
              go_simp
              go_at_call 19
              refine (cA.out _ hS0).mono ?_
              rintro e w9 ⟨rfl, hb⟩
              dsimp only
              have hS1 := hS0.trans (hb.mono hS0.size)
              refine hK _ _ hS1 ?_
              clear hK K
              try simp only [Act.put, List.setIfInBounds_toArray, List.set_cons_zero, List.set_cons_succ]
              clear hS0 hb
              have hS0 := hS1
              clear hS1
              refine takeC (i := 1) (v := ?v1fp) 129 rfl rfl (by kernel_rfl) (by kernel_rfl) (by kernel_rfl) (by kernel_rfl) (fun _ _ _ h => h) (Or.inl ⟨by rfl, fun w' hw' => ?hy1fp⟩) hS0 ?rest1fp
              case hy1fp => go_simp; try with_reducible rfl
              try simp only [Act.put, List.setIfInBounds_toArray, List.set_cons_zero, List.set_cons_succ]
              refine takeC (i := 2) (v := ?v2fp) 130 rfl rfl (by kernel_rfl) (by kernel_rfl) (by kernel_rfl) (by kernel_rfl) (fun _ _ _ h => h) (Or.inl ⟨by rfl, fun w' hw' => ?hy2fp⟩) hS0 ?rest2fp
              case hy2fp => obtain ⟨⟨kz0, kz1⟩, fkz0, fkz1⟩ := ((BX.out.below hw').get 4 rfl).two; go_simp; try with_reducible rfl
              try simp only [Act.put, List.setIfInBounds_toArray, List.set_cons_zero, List.set_cons_succ]
              refine takeC (i := 3) (v := ?v3fp) 131 rfl rfl (by kernel_rfl) (by kernel_rfl) (by kernel_rfl) (by kernel_rfl) (fun _ _ _ h => h) (Or.inl ⟨by rfl, fun w' hw' => ?hy3fp⟩) hS0 ?rest3fp
              case hy3fp => go_simp; try with_reducible rfl
              try simp only [Act.put, List.setIfInBounds_toArray, List.set_cons_zero, List.set_cons_succ]
              refine takeC (i := 4) (v := ?v4fp) 132 rfl rfl (by kernel_rfl) (by kernel_rfl) (by kernel_rfl) (by kernel_rfl) (fun _ _ _ h => h) (Or.inl ⟨by rfl, fun w' hw' => ?hy4fp⟩) hS0 ?rest4fp
              case hy4fp => obtain ⟨⟨kg0, kg1⟩, fkg0, fkg1⟩ := ((BX.out.below hw').get 0 rfl).two; go_simp; try with_reducible rfl
              try simp only [Act.put, List.setIfInBounds_toArray, List.set_cons_zero, List.set_cons_succ]
              refine takeC (i := 5) (v := ?v5fp) 133 rfl rfl (by kernel_rfl) (by kernel_rfl) (by kernel_rfl) (by kernel_rfl) (fun _ _ _ h => h) (Or.inl ⟨by rfl, fun w' hw' => ?hy5fp⟩) hS0 ?rest5fp
              case hy5fp => go_simp; try with_reducible rfl
              try simp only [Act.put, List.setIfInBounds_toArray, List.set_cons_zero, List.set_cons_succ]
              refine takeC (i := 6) (v := ?v6fp) 134 rfl rfl (by kernel_rfl) (by kernel_rfl) (by kernel_rfl) (by kernel_rfl) (fun _ _ _ h => h) (Or.inl ⟨by rfl, fun w' hw' => ?hy6fp⟩) hS0 ?rest6fp
              case hy6fp => go_simp; try with_reducible rfl
              try simp only [Act.put, List.setIfInBounds_toArray, List.set_cons_zero, List.set_cons_succ]
              refine takeC (i := 7) (v := ?v7fp) 135 rfl rfl (by kernel_rfl) (by kernel_rfl) (by kernel_rfl) (by kernel_rfl) (fun _ _ _ h => h) (Or.inl ⟨by rfl, fun w' hw' => ?hy7fp⟩) hS0 ?rest7fp
              case hy7fp => go_simp; try with_reducible rfl
              try simp only [Act.put, List.setIfInBounds_toArray, List.set_cons_zero, List.set_cons_succ]
              refine takeC (i := 8) (v := ?v8fp) 136 rfl rfl (by kernel_rfl) (by kernel_rfl) (by kernel_rfl) (by kernel_rfl) (fun _ _ _ h => h) (Or.inl ⟨by rfl, fun w' hw' => ?hy8fp⟩) hS0 ?rest8fp
              case hy8fp => obtain ⟨⟨ka0, ka1, ka2⟩, fka0, fka1, fka2⟩ := ((BX.out.below hw').get 1 rfl).three; go_simp; try with_reducible rfl
              try simp only [Act.put, List.setIfInBounds_toArray, List.set_cons_zero, List.set_cons_succ]
              refine oneS (k := 9) (by kernel_rfl) rfl (by rfl) (fun K hK => ?_)
              go_simp
              go_at_call 20
              refine (cE.out _ hS0).mono ?_
              rintro e w9 ⟨v9, lv9, rfl, m9, l9, n9, hb⟩
              obtain ⟨A9, c9, hv9⟩ := l9.spell
              subst hv9
              dsimp only
              have hS1 := hS0.trans (hb.mono hS0.size)
              refine hK _ _ hS1 ?_
              clear hK K
              try simp only [Act.put, List.setIfInBounds_toArray, List.set_cons_zero, List.set_cons_succ]
              clear hS0 hb
              have hS0 := hS1
              clear hS1
              refine oneS (k := 10) (by kernel_rfl) rfl (by rfl) (fun K hK => ?_)
              go_simp
              go_at_call 14
              refine (cI.out _ _ lv9 hS0 m9 l9.row (n9.ces (HG.out.below hS0).ces)).mono ?_
              rintro e w9 ⟨rfl, hb⟩
              dsimp only
              have hS1 := hS0.trans (hb.mono hS0.size)
              refine hK _ _ hS1 ?_
              clear hK K
              try simp only [Act.put, List.setIfInBounds_toArray, List.set_cons_zero, List.set_cons_succ]
              clear hS0 hb
              have hS0 := hS1
              clear hS1
              refine takeC (i := 11) (v := ?v11fp) 139 rfl rfl (by kernel_rfl) (by kernel_rfl) (by kernel_rfl) (by kernel_rfl) (fun _ _ _ h => h) (Or.inl ⟨by rfl, fun w' hw' => ?hy11fp⟩) hS0 ?rest11fp
              case hy11fp => go_simp; try with_reducible rfl
              try simp only [Act.put, List.setIfInBounds_toArray, List.set_cons_zero, List.set_cons_succ]
              refine takeC (i := 12) (v := ?v12fp) 140 rfl rfl (by kernel_rfl) (by kernel_rfl) (by kernel_rfl) (by kernel_rfl) (fun _ _ _ h => h) (Or.inl ⟨by rfl, fun w' hw' => ?hy12fp⟩) hS0 ?rest12fp
              case hy12fp => go_simp; try with_reducible rfl
              try simp only [Act.put, List.setIfInBounds_toArray, List.set_cons_zero, List.set_cons_succ]
              refine takeC (i := 13) (v := ?v13fp) 141 rfl rfl (by kernel_rfl) (by kernel_rfl) (by kernel_rfl) (by kernel_rfl) (fun _ _ _ h => h) (Or.inl ⟨by rfl, fun w' hw' => ?hy13fp⟩) hS0 ?rest13fp
              case hy13fp => obtain ⟨⟨kw0, kw1⟩, fkw0, fkw1⟩ := ((BX.out.below hw').get 5 rfl).two; go_simp; try with_reducible rfl
              try simp only [Act.put, List.setIfInBounds_toArray, List.set_cons_zero, List.set_cons_succ]
              refine takeC (i := 14) (v := ?v14fp) 142 rfl rfl (by kernel_rfl) (by kernel_rfl) (by kernel_rfl) (by kernel_rfl) (fun _ _ _ h => h) (Or.inl ⟨by rfl, fun w' hw' => ?hy14fp⟩) hS0 ?rest14fp
              case hy14fp => go_simp; try with_reducible rfl
              try simp only [Act.put, List.setIfInBounds_toArray, List.set_cons_zero, List.set_cons_succ]
              refine takeC (i := 15) (v := ?v15fp) 143 rfl rfl (by kernel_rfl) (by kernel_rfl) (by kernel_rfl) (by kernel_rfl) (fun _ _ _ h => h) (Or.inl ⟨by rfl, fun w' hw' => ?hy15fp⟩) hS0 ?rest15fp
              case hy15fp => obtain ⟨⟨kg0, kg1⟩, fkg0, fkg1⟩ := ((BX.out.below hw').get 0 rfl).two; go_simp; try with_reducible rfl
              try simp only [Act.put, List.setIfInBounds_toArray, List.set_cons_zero, List.set_cons_succ]
              refine takeC (i := 16) (v := ?v16fp) 144 rfl rfl (by kernel_rfl) (by kernel_rfl) (by kernel_rfl) (by kernel_rfl) (fun _ _ _ h => h) (Or.inl ⟨by rfl, fun w' hw' => ?hy16fp⟩) hS0 ?rest16fp
              case hy16fp => go_simp; try with_reducible rfl
              try simp only [Act.put, List.setIfInBounds_toArray, List.set_cons_zero, List.set_cons_succ]
              refine takeC (i := 17) (v := ?v17fp) 145 rfl rfl (by kernel_rfl) (by kernel_rfl) (by kernel_rfl) (by kernel_rfl) (fun _ _ _ h => h) (Or.inl ⟨by rfl, fun w' hw' => ?hy17fp⟩) hS0 ?rest17fp
              case hy17fp => go_simp; try with_reducible rfl
              try simp only [Act.put, List.setIfInBounds_toArray, List.set_cons_zero, List.set_cons_succ]
              refine takeC (i := 18) (v := ?v18fp) 146 rfl rfl (by kernel_rfl) (by kernel_rfl) (by kernel_rfl) (by kernel_rfl) (fun _ _ _ h => h) (Or.inl ⟨by rfl, fun w' hw' => ?hy18fp⟩) hS0 ?rest18fp
              case hy18fp => go_simp; try with_reducible rfl
              try simp only [Act.put, List.setIfInBounds_toArray, List.set_cons_zero, List.set_cons_succ]
              refine takeC (i := 19) (v := ?v19fp) 147 rfl rfl (by kernel_rfl) (by kernel_rfl) (by kernel_rfl) (by kernel_rfl) (fun _ _ _ h => h) (Or.inl ⟨by rfl, fun w' hw' => ?hy19fp⟩) hS0 ?rest19fp
              case hy19fp => obtain ⟨⟨ka0, ka1, ka2⟩, fka0, fka1, fka2⟩ := ((BX.out.below hw').get 1 rfl).three; go_simp; try with_reducible rfl
              try simp only [Act.put, List.setIfInBounds_toArray, List.set_cons_zero, List.set_cons_succ]
              refine oneS (k := 20) (by kernel_rfl) rfl (by rfl) (fun K hK => ?_)
              go_simp
              go_at_call 21
              refine (cF.out _ hS0).mono ?_
              rintro e w9 ⟨v9, lv9, rfl, m9, l9, n9, hb⟩
              obtain ⟨A9, c9, hv9⟩ := l9.spell
              subst hv9
              dsimp only
              have hS1 := hS0.trans (hb.mono hS0.size)
              refine hK _ _ hS1 ?_
              clear hK K
              try simp only [Act.put, List.setIfInBounds_toArray, List.set_cons_zero, List.set_cons_succ]
              clear hS0 hb
              have hS0 := hS1
              clear hS1
              refine oneS (k := 21) (by kernel_rfl) rfl (by rfl) (fun K hK => ?_)
              go_simp
              go_at_call 14
              refine (cJ.out _ _ lv9 hS0 m9 l9.row (n9.ces (HG.out.below hS0).ces)).mono ?_
              rintro e w9 ⟨rfl, hb⟩
              dsimp only
              have hS1 := hS0.trans (hb.mono hS0.size)
              refine hK _ _ hS1 ?_
              clear hK K
              try simp only [Act.put, List.setIfInBounds_toArray, List.set_cons_zero, List.set_cons_succ]
              clear hS0 hb
              have hS0 := hS1
              clear hS1
              refine takeC (i := 22) (v := ?v22fp) 150 rfl rfl (by kernel_rfl) (by kernel_rfl) (by kernel_rfl) (by kernel_rfl) (fun _ _ _ h => h) (Or.inl ⟨by rfl, fun w' hw' => ?hy22fp⟩) hS0 ?rest22fp
              case hy22fp => go_simp; try with_reducible rfl
              try simp only [Act.put, List.setIfInBounds_toArray, List.set_cons_zero, List.set_cons_succ]
              refine takeC (i := 23) (v := ?v23fp) 10 rfl rfl (by kernel_rfl) (by kernel_rfl) (by kernel_rfl) (by kernel_rfl) (fun _ _ _ h => h) (Or.inl ⟨by rfl, fun w' hw' => ?hy23fp⟩) hS0 ?rest23fp
              case hy23fp => go_simp; try with_reducible rfl
              try simp only [Act.put, List.setIfInBounds_toArray, List.set_cons_zero, List.set_cons_succ]
              refine doneS (by kernel_rfl) ?_ _
              go_wp2_with fail
              go_ret
              exact ⟨rfl, HH.out.trans (hS0.mono HH.out.size)⟩
    · go_upto_region 8 with (with_reducible refine HREG.out.mono ?_; rintro e6 w6 ⟨rfl, D6⟩)
      clear kg0 kg1 kgf0 kgf1 ka0 ka1 ka2 kaf0 kaf1 kaf2
      obtain ⟨⟨kg0, kg1⟩, kgf0, kgf1⟩ := ((BX.out.below D6).get 0 rfl).two
      obtain ⟨⟨ka0, ka1, ka2⟩, kaf0, kaf1, kaf2⟩ := ((BX.out.below D6).get 1 rfl).three
      have hcall := refUp_out cols row at_ M ⟨af, ab, al⟩ (.slice A1 n c1) lv1 w6 (HG.out.below D6) HSO.out
      unfold At.agg at hcall
      simp only at hcall
      have HCALL := hid hcall
      clear hcall
      go_wp2_with fail
      with_reducible refine HCALL.out.mono ?_
      rintro e w7 ⟨tA, tk, tp, sA, sk, sp, lvt, lvs, rfl, tm, tl, tc, sm, sl, sc, hb⟩
      dsimp only
      have hb7 := D6.trans (hb.mono D6.size)
      have hb2 := hb7.alloc hb7.size (.cells #[.int .i64 cols, .slice tA tk tp, .slice sA sk sp] 35)
      have hbx := (BX.out.below hb7).alloc 35 #[.int .i64 cols, .slice tA tk tp, .slice sA sk sp]
      simp only [List.cons_append, List.nil_append] at hbx
      have hba := below_alloc w7 (.cells #[.int .i64 cols, .slice tA tk tp, .slice sA sk sp] 35)
      have TL := hid (tl.below hba)
      have TC := hid (tc.below hba)
      have SL := hid (sl.below hba)
      have SC := hid (sc.below hba)
      have TM := hid tm
      have SM := hid sm
      have HG2 := hid (HG.out.below hb2)
      have HH2 := hid (HH.out.trans (hb2.mono HH.out.size))
      have Xx2 := hid (Xx.out.below hb2)
      have Xu2 := hid (Xu.out.below hb2)
      have Xy2 := hid (Xy.out.below hb2)
      have Xz2 := hid (Xz.out.below hb2)
      have Xw2 := hid (Xw.out.below hb2)
      have BX2 := hid hbx
      clear hb hb7 hb2 hbx hba HCALL BX HG HH tm tl tc sm sl sc D6 Xx Xu Xy Xz Xw
      clear kg0 kg1 kgf0 kgf1 ka0 ka1 ka2 kaf0 kaf1 kaf2
      go_upto_region 9 with fail
      generalize (w7.alloc (.cells #[.int .i64 cols, .slice tA tk tp, .slice sA sk sp] 35)) = vz at *
      generalize w7.heap.size = qt at *
      have BX := hid BX2.out
      have HG := hid HG2.out
      have HH := hid HH2.out
      have Xx := hid Xx2.out
      have Xu := hid Xu2.out
      have Xy := hid Xy2.out
      have Xz := hid Xz2.out
      have Xw := hid Xw2.out
      clear BX2 HG2 HH2 Xx2 Xu2 Xy2 Xz2 Xw2
      have hd0 : Below vz.heap.size vz vz := Below.refl _ _
      go_cut [98] (fun b wx => b = .bool false ∧ Below vz.heap.size vz wx)
      case first =>
        as_aux_lemma =>
          rcases Xx.out with ⟨_, hxc, hxn, lvx, mx, lx, nx⟩ | ⟨h1, _⟩
          rotate_left
          · rw [HSO.out] at h1; cases h1
          have hxc := hxc.symm
          subst hxc
          subst hxn
          rcases Xy.out with ⟨_, hyc, hyn, lvy, my, ly, ny⟩ | ⟨h1, _⟩
          rotate_left
          · rw [HSO.out] at h1; cases h1
          have hyc := hyc.symm
          subst hyc
          subst hyn
          rcases Xu.out with ⟨_, hul⟩ | ⟨h1, _⟩
          rotate_left
          · rw [HSO.out] at h1; cases h1
          have cX : Hid (∀ W', Below vz.heap.size vz W' → Calls Tryd.prog 14 #[.agg #[.int .i64 cols, .slice xA xk xp], .int .i64 0, .bool true, .agg #[.int .i64 cols, .slice tA tk tp]] W' (IsPost W')) := fun W' hb =>
            is_yes cols _ _ lvx lvt W' (lx.below hb) (TL.out.below hb) (nx.below hb) (TC.out.below hb) (mx.trans TM.out.symm) (up_sm HG.out.sm HSO.out mx).szG
          have cS : Hid (∀ W', Below vz.heap.size vz W' → Calls Tryd.prog 15 #[.slice uA uk up, .slice sA sk sp] W' fun e w' => e = .returned (.bool true) ∧ Below W'.heap.size W' w') := fun W' hb =>
            same_any _ _ _ lvs W' (hul.below hb) (SL.out.below hb) (gone_ces (HG.out.below hb).ces _ _) (SC.out.below hb) ((gone_same _ _ _).trans SM.out.symm) (gone_sz HG.out.sm _ _)
          have cD : Hid (∀ W', Below vz.heap.size vz W' → Calls Tryd.prog 16 #[.agg #[.int .i64 cols, .slice A1 n c1], .int .i64 row, .int .i64 at_, .int .i64 M, .agg #[.int .i64 af, .int .i64 ab, .int .i64 al]] W' (DwnPostI W' cols (downT (lv1.map Prod.fst) cols row at_ M ⟨af, ab, al⟩))) := fun W' hb => refDown_int cols row at_ M ⟨af, ab, al⟩ _ lv1 W' (HG.out.below hb) HSO.out
          have cY : Hid (∀ W' v9 lv9, lv9.map Prod.fst = downT (lv1.map Prod.fst) cols row at_ M ⟨af, ab, al⟩ → Below vz.heap.size vz W' → LR W' v9 lv9 → CesOf W' lv9 → Calls Tryd.prog 14 #[.agg #[.int .i64 cols, .slice yA yk yp], .int .i64 0, .bool true, .agg #[.int .i64 cols, v9]] W' (IsPost W')) := fun W' v9 lv9 m9 hb l9 n9 =>
            is_yes cols _ v9 lvy lv9 W' (ly.below hb) l9 (ny.below hb) n9 (my.trans m9.symm) (down_sm HG.out.sm HSO.out my).szG
          clear mx lx nx my ly ny hul
          have hS0 : Below vz.heap.size vz _ := hd0.drew
          clear hd0
          refine wp_region_S (fun _ w' => Below vz.heap.size vz w') (by kernel_rfl) ?_
          refine takeC (i := 0) (v := ?v0d) 74 rfl rfl (by kernel_rfl) (by kernel_rfl) (by kernel_rfl) (by kernel_rfl) (fun _ _ _ h => h) (Or.inl ⟨by rfl, fun w' hw' => ?hy0d⟩) hS0 ?rest0d
          case hy0d => obtain ⟨⟨kx0, kx1⟩, fkx0, fkx1⟩ := ((BX.out.below hw').get 2 rfl).two; go_simp; try with_reducible rfl
          try simp only [Act.put, List.setIfInBounds_toArray, List.set_cons_zero, List.set_cons_succ]
          refine takeC (i := 1) (v := ?v1d) 75 rfl rfl (by kernel_rfl) (by kernel_rfl) (by kernel_rfl) (by kernel_rfl) (fun _ _ _ h => h) (Or.inl ⟨by rfl, fun w' hw' => ?hy1d⟩) hS0 ?rest1d
          case hy1d => go_simp; try with_reducible rfl
          try simp only [Act.put, List.setIfInBounds_toArray, List.set_cons_zero, List.set_cons_succ]
          refine takeC (i := 2) (v := ?v2d) 76 rfl rfl (by kernel_rfl) (by kernel_rfl) (by kernel_rfl) (by kernel_rfl) (fun _ _ _ h => h) (Or.inl ⟨by rfl, fun w' hw' => ?hy2d⟩) hS0 ?rest2d
          case hy2d => go_simp; try with_reducible rfl
          try simp only [Act.put, List.setIfInBounds_toArray, List.set_cons_zero, List.set_cons_succ]
          refine takeC (i := 3) (v := ?v3d) 77 rfl rfl (by kernel_rfl) (by kernel_rfl) (by kernel_rfl) (by kernel_rfl) (fun _ _ _ h => h) (Or.inl ⟨by rfl, fun w' hw' => ?hy3d⟩) hS0 ?rest3d
          case hy3d => obtain ⟨⟨kt0, kt1, kt2⟩, fkt0, fkt1, fkt2⟩ := ((BX.out.below hw').get 6 rfl).three; go_simp; try with_reducible rfl
          try simp only [Act.put, List.setIfInBounds_toArray, List.set_cons_zero, List.set_cons_succ]
          refine oneS (k := 4) (by kernel_rfl) rfl (by rfl) (fun K hK => ?_)
          go_simp
          go_at_call 14
          refine (cX.out _ hS0).mono ?_
          rintro e w9 ⟨rfl, hb⟩
          dsimp only
          have hS1 := hS0.trans (hb.mono hS0.size)
          refine hK _ _ hS1 ?_
          clear hK K
          try simp only [Act.put, List.setIfInBounds_toArray, List.set_cons_zero, List.set_cons_succ]
          clear hS0 hb
          have hS0 := hS1
          clear hS1
          refine takeC (i := 5) (v := ?v5d) 79 rfl rfl (by kernel_rfl) (by kernel_rfl) (by kernel_rfl) (by kernel_rfl) (fun _ _ _ h => h) (Or.inl ⟨by rfl, fun w' hw' => ?hy5d⟩) hS0 ?rest5d
          case hy5d => go_simp; try with_reducible rfl
          try simp only [Act.put, List.setIfInBounds_toArray, List.set_cons_zero, List.set_cons_succ]
          refine takeC (i := 6) (v := ?v6d) 80 rfl rfl (by kernel_rfl) (by kernel_rfl) (by kernel_rfl) (by kernel_rfl) (fun _ _ _ h => h) (Or.inl ⟨by rfl, fun w' hw' => ?hy6d⟩) hS0 ?rest6d
          case hy6d => go_simp; try with_reducible rfl
          try simp only [Act.put, List.setIfInBounds_toArray, List.set_cons_zero, List.set_cons_succ]
          refine takeC (i := 7) (v := ?v7d) 81 rfl rfl (by kernel_rfl) (by kernel_rfl) (by kernel_rfl) (by kernel_rfl) (fun _ _ _ h => h) (Or.inl ⟨by rfl, fun w' hw' => ?hy7d⟩) hS0 ?rest7d
          case hy7d => go_simp; try with_reducible rfl
          try simp only [Act.put, List.setIfInBounds_toArray, List.set_cons_zero, List.set_cons_succ]
          refine takeC (i := 8) (v := ?v8d) 82 rfl rfl (by kernel_rfl) (by kernel_rfl) (by kernel_rfl) (by kernel_rfl) (fun _ _ _ h => h) (Or.inl ⟨by rfl, fun w' hw' => ?hy8d⟩) hS0 ?rest8d
          case hy8d => go_simp; try with_reducible rfl
          try simp only [Act.put, List.setIfInBounds_toArray, List.set_cons_zero, List.set_cons_succ]
          refine takeC (i := 9) (v := ?v9d) 83 rfl rfl (by kernel_rfl) (by kernel_rfl) (by kernel_rfl) (by kernel_rfl) (fun _ _ _ h => h) (Or.inl ⟨by rfl, fun w' hw' => ?hy9d⟩) hS0 ?rest9d
          case hy9d => obtain ⟨⟨kt0, kt1, kt2⟩, fkt0, fkt1, fkt2⟩ := ((BX.out.below hw').get 6 rfl).three; go_simp; try with_reducible rfl
          try simp only [Act.put, List.setIfInBounds_toArray, List.set_cons_zero, List.set_cons_succ]
          refine oneS (k := 10) (by kernel_rfl) rfl (by rfl) (fun K hK => ?_)
          go_simp
          go_at_call 15
          refine (cS.out _ hS0).mono ?_
          rintro e w9 ⟨rfl, hb⟩
          dsimp only
          have hS1 := hS0.trans (hb.mono hS0.size)
          refine hK _ _ hS1 ?_
          clear hK K
          try simp only [Act.put, List.setIfInBounds_toArray, List.set_cons_zero, List.set_cons_succ]
          clear hS0 hb
          have hS0 := hS1
          clear hS1
          refine takeC (i := 11) (v := ?v11d) 85 rfl rfl (by kernel_rfl) (by kernel_rfl) (by kernel_rfl) (by kernel_rfl) (fun _ _ _ h => h) (Or.inl ⟨by rfl, fun w' hw' => ?hy11d⟩) hS0 ?rest11d
          case hy11d => go_simp; try with_reducible rfl
          try simp only [Act.put, List.setIfInBounds_toArray, List.set_cons_zero, List.set_cons_succ]
          refine takeC (i := 12) (v := ?v12d) 86 rfl rfl (by kernel_rfl) (by kernel_rfl) (by kernel_rfl) (by kernel_rfl) (fun _ _ _ h => h) (Or.inl ⟨by rfl, fun w' hw' => ?hy12d⟩) hS0 ?rest12d
          case hy12d => go_simp; try with_reducible rfl
          try simp only [Act.put, List.setIfInBounds_toArray, List.set_cons_zero, List.set_cons_succ]
          refine takeC (i := 13) (v := ?v13d) 87 rfl rfl (by kernel_rfl) (by kernel_rfl) (by kernel_rfl) (by kernel_rfl) (fun _ _ _ h => h) (Or.inl ⟨by rfl, fun w' hw' => ?hy13d⟩) hS0 ?rest13d
          case hy13d => go_simp; try with_reducible rfl
          try simp only [Act.put, List.setIfInBounds_toArray, List.set_cons_zero, List.set_cons_succ]
          refine takeC (i := 14) (v := ?v14d) 88 rfl rfl (by kernel_rfl) (by kernel_rfl) (by kernel_rfl) (by kernel_rfl) (fun _ _ _ h => h) (Or.inl ⟨by rfl, fun w' hw' => ?hy14d⟩) hS0 ?rest14d
          case hy14d => obtain ⟨⟨ky0, ky1⟩, fky0, fky1⟩ := ((BX.out.below hw').get 3 rfl).two; go_simp; try with_reducible rfl
          try simp only [Act.put, List.setIfInBounds_toArray, List.set_cons_zero, List.set_cons_succ]
          refine takeC (i := 15) (v := ?v15d) 89 rfl rfl (by kernel_rfl) (by kernel_rfl) (by kernel_rfl) (by kernel_rfl) (fun _ _ _ h => h) (Or.inl ⟨by rfl, fun w' hw' => ?hy15d⟩) hS0 ?rest15d
          case hy15d => go_simp; try with_reducible rfl
          try simp only [Act.put, List.setIfInBounds_toArray, List.set_cons_zero, List.set_cons_succ]
          refine takeC (i := 16) (v := ?v16d) 90 rfl rfl (by kernel_rfl) (by kernel_rfl) (by kernel_rfl) (by kernel_rfl) (fun _ _ _ h => h) (Or.inl ⟨by rfl, fun w' hw' => ?hy16d⟩) hS0 ?rest16d
          case hy16d => obtain ⟨⟨kg0, kg1⟩, fkg0, fkg1⟩ := ((BX.out.below hw').get 0 rfl).two; go_simp; try with_reducible rfl
          try simp only [Act.put, List.setIfInBounds_toArray, List.set_cons_zero, List.set_cons_succ]
          refine takeC (i := 17) (v := ?v17d) 91 rfl rfl (by kernel_rfl) (by kernel_rfl) (by kernel_rfl) (by kernel_rfl) (fun _ _ _ h => h) (Or.inl ⟨by rfl, fun w' hw' => ?hy17d⟩) hS0 ?rest17d
          case hy17d => go_simp; try with_reducible rfl
          try simp only [Act.put, List.setIfInBounds_toArray, List.set_cons_zero, List.set_cons_succ]
          refine takeC (i := 18) (v := ?v18d) 92 rfl rfl (by kernel_rfl) (by kernel_rfl) (by kernel_rfl) (by kernel_rfl) (fun _ _ _ h => h) (Or.inl ⟨by rfl, fun w' hw' => ?hy18d⟩) hS0 ?rest18d
          case hy18d => go_simp; try with_reducible rfl
          try simp only [Act.put, List.setIfInBounds_toArray, List.set_cons_zero, List.set_cons_succ]
          refine takeC (i := 19) (v := ?v19d) 93 rfl rfl (by kernel_rfl) (by kernel_rfl) (by kernel_rfl) (by kernel_rfl) (fun _ _ _ h => h) (Or.inl ⟨by rfl, fun w' hw' => ?hy19d⟩) hS0 ?rest19d
          case hy19d => go_simp; try with_reducible rfl
          try simp only [Act.put, List.setIfInBounds_toArray, List.set_cons_zero, List.set_cons_succ]
          refine takeC (i := 20) (v := ?v20d) 94 rfl rfl (by kernel_rfl) (by kernel_rfl) (by kernel_rfl) (by kernel_rfl) (fun _ _ _ h => h) (Or.inl ⟨by rfl, fun w' hw' => ?hy20d⟩) hS0 ?rest20d
          case hy20d => obtain ⟨⟨ka0, ka1, ka2⟩, fka0, fka1, fka2⟩ := ((BX.out.below hw').get 1 rfl).three; go_simp; try with_reducible rfl
          try simp only [Act.put, List.setIfInBounds_toArray, List.set_cons_zero, List.set_cons_succ]
          refine oneS (k := 21) (by kernel_rfl) rfl (by rfl) (fun K hK => ?_)
          go_simp
          go_at_call 16
          refine (cD.out _ hS0).mono ?_
          rintro e w9 ⟨v9, lv9, rfl, m9, l9, n9, hb⟩
          obtain ⟨A9, c9, hv9⟩ := l9.spell
          subst hv9
          dsimp only
          have hS1 := hS0.trans (hb.mono hS0.size)
          refine hK _ _ hS1 ?_
          clear hK K
          try simp only [Act.put, List.setIfInBounds_toArray, List.set_cons_zero, List.set_cons_succ]
          clear hS0 hb
          have hS0 := hS1
          clear hS1
          refine oneS (k := 22) (by kernel_rfl) rfl (by rfl) (fun K hK => ?_)
          go_simp
          go_at_call 14
          refine (cY.out _ _ lv9 m9 hS0 l9 n9).mono ?_
          rintro e w9 ⟨rfl, hb⟩
          dsimp only
          have hS1 := hS0.trans (hb.mono hS0.size)
          refine hK _ _ hS1 ?_
          clear hK K
          try simp only [Act.put, List.setIfInBounds_toArray, List.set_cons_zero, List.set_cons_succ]
          clear hS0 hb
          have hS0 := hS1
          clear hS1
          refine takeC (i := 23) (v := ?v23d) 97 rfl rfl (by kernel_rfl) (by kernel_rfl) (by kernel_rfl) (by kernel_rfl) (fun _ _ _ h => h) (Or.inl ⟨by rfl, fun w' hw' => ?hy23d⟩) hS0 ?rest23d
          case hy23d => go_simp; try with_reducible rfl
          try simp only [Act.put, List.setIfInBounds_toArray, List.set_cons_zero, List.set_cons_succ]
          refine takeC (i := 24) (v := ?v24d) 98 rfl rfl (by kernel_rfl) (by kernel_rfl) (by kernel_rfl) (by kernel_rfl) (fun _ _ _ h => h) (Or.inl ⟨by rfl, fun w' hw' => ?hy24d⟩) hS0 ?rest24d
          case hy24d => go_simp; try with_reducible rfl
          try simp only [Act.put, List.setIfInBounds_toArray, List.set_cons_zero, List.set_cons_succ]
          refine doneS (by kernel_rfl) ?_ _
          go_wp2_with fail
          go_meet
          exact ⟨rfl, hS0⟩
      case rest =>
        obtain ⟨rfl, hd⟩ := hcut
        clear hd0 HSO HREG Xx Xy Xu TL TC SL SC TM SM
        obtain ⟨⟨kg0, kg1⟩, kgf0, kgf1⟩ := ((BX.out.below hd).get 0 rfl).two
        obtain ⟨⟨ka0, ka1, ka2⟩, kaf0, kaf1, kaf2⟩ := ((BX.out.below hd).get 1 rfl).three
        clear kg0 kg1 kgf0 kgf1 ka0 ka1 ka2 kaf0 kaf1 kaf2
        obtain ⟨⟨kg0, kg1⟩, fkg0, fkg1⟩ := ((BX.out.below hd).get 0 rfl).two
        obtain ⟨⟨ka0, ka1, ka2⟩, fka0, fka1, fka2⟩ := ((BX.out.below hd).get 1 rfl).three
        have hpl : ∀ W', Below vz.heap.size vz W' → _ := fun W' hb => place_any cols row at_ (.slice A1 n c1) lv1 W' (HG.out.below hb).lr (HG.out.below hb).ces HG.out.sm
        have HPL : Hid (∀ W', Below vz.heap.size vz W' → Calls Tryd.prog 17 #[.agg #[.int .i64 cols, .slice A1 n c1], .int .i64 row, .int .i64 at_] W' fun e w' => e = .returned (.bool Po) ∧ Below W'.heap.size W' w') := fun W' hb => by have := hpl W' hb; rw [HPO.out] at this; exact this
        have hlook := fun w => rLook_any ⟨af, ab, al⟩ w
        unfold At.agg at hlook
        simp only at hlook
        have HLK := hid hlook
        clear hpl hlook
        go_upto_region 13 with fail
        go_cut [127] (fun b wx => b = .bool Ho ∧ Below vz.heap.size vz wx)
        case first =>
          as_aux_lemma =>
            cases Po
            · have HE : Hid (Ho = false) := by unfold Hid; rw [HEQ.out]; rfl
              go_wp2_with (first | (go_at_call 17; refine (HPL.out _ hd).mono ?_; rintro e6 w6 ⟨rfl, D6⟩; have D6 := hd.trans (D6.mono hd.size); obtain ⟨⟨ja0, ja1, ja2⟩, fja0, fja1, fja2⟩ := ((BX.out.below D6).get 1 rfl).three) | (go_at_call 18; refine (HLK.out _).mono ?_; rintro e7 w7 ⟨rfl, D7⟩; have D7 := D6.trans (D7.mono D6.size)))
              go_meet
              exact ⟨by rw [HE.out], D6⟩
            · by_cases h0 : 0 ≤ M
              · have HE : Hid (Ho = lookB ⟨af, ab, al⟩) := by unfold Hid; rw [HEQ.out, decide_eq_true h0]; rfl
                have hd0 : decide (0 ≤ M) = true := decide_eq_true h0
                go_wp2_with (first | (go_at_call 17; refine (HPL.out _ hd).mono ?_; rintro e6 w6 ⟨rfl, D6⟩; have D6 := hd.trans (D6.mono hd.size); obtain ⟨⟨ja0, ja1, ja2⟩, fja0, fja1, fja2⟩ := ((BX.out.below D6).get 1 rfl).three) | (go_at_call 18; refine (HLK.out _).mono ?_; rintro e7 w7 ⟨rfl, D7⟩; have D7 := D6.trans (D7.mono D6.size)))
                go_meet
                exact ⟨by rw [HE.out], D7⟩
              · have HE : Hid (Ho = false) := by unfold Hid; rw [HEQ.out, decide_eq_false h0]; rfl
                have hd0 : decide (0 ≤ M) = false := decide_eq_false h0
                go_wp2_with (first | (go_at_call 17; refine (HPL.out _ hd).mono ?_; rintro e6 w6 ⟨rfl, D6⟩; have D6 := hd.trans (D6.mono hd.size); obtain ⟨⟨ja0, ja1, ja2⟩, fja0, fja1, fja2⟩ := ((BX.out.below D6).get 1 rfl).three) | (go_at_call 18; refine (HLK.out _).mono ?_; rintro e7 w7 ⟨rfl, D7⟩; have D7 := D6.trans (D7.mono D6.size)))
                go_meet
                exact ⟨by rw [HE.out], D6⟩
        case rest =>
          obtain ⟨rfl, hd2⟩ := hcut
          clear hd HPL HLK HEQ HPO kg0 kg1 fkg0 fkg1 ka0 ka1 ka2 fka0 fka1 fka2
          have cA : Hid (∀ W', Below vz.heap.size vz W' → Calls Tryd.prog 19 #[] W' fun e w' => e = .returned (.bool true) ∧ Below W'.heap.size W' w') := fun W' hb => alive_any W' (HT.out.below (HH.out.trans (hb.mono HH.out.size))) (HW.out.below (HH.out.trans (hb.mono HH.out.size)))
          have cN : Hid (∀ W', Calls Tryd.prog 14 #[.agg #[.int .i64 0, .slice none 0 0], .int .i64 1, .bool false, .agg #[.int .i64 cols, .slice A1 n c1]] W' (IsPost W')) := fun W' => is_no cols A1 n c1 W'
          cases Ho
          · as_aux_lemma =>
              rcases Xz.out with ⟨h1, _⟩ | ⟨_, hzc, hsl, hzn⟩
              · rw [HHO.out] at h1; cases h1
              subst hzc
              subst hzn
              cases hsl
              rcases Xw.out with ⟨h1, _⟩ | ⟨_, hwc, hsl, hwn⟩
              · rw [HHO.out] at h1; cases h1
              subst hwc
              subst hwn
              cases hsl
              go_wp2_with (first | (go_at_call 19; refine (cA.out _ hd2).mono ?_; rintro e w9 ⟨rfl, hb⟩; have hd2 := hd2.trans (hb.mono hd2.size); obtain ⟨⟨kz0, kz1⟩, fkz0, fkz1⟩ := ((BX.out.below hd2).get 4 rfl).two; obtain ⟨⟨kg0, kg1⟩, fkg0, fkg1⟩ := ((BX.out.below hd2).get 0 rfl).two; obtain ⟨⟨kw0, kw1⟩, fkw0, fkw1⟩ := ((BX.out.below hd2).get 5 rfl).two) | (go_at_call 14; refine (cN.out _).mono ?_; rintro e w9 ⟨rfl, hb⟩; have hd2 := hd2.trans (hb.mono hd2.size); obtain ⟨⟨kz0, kz1⟩, fkz0, fkz1⟩ := ((BX.out.below hd2).get 4 rfl).two; obtain ⟨⟨kg0, kg1⟩, fkg0, fkg1⟩ := ((BX.out.below hd2).get 0 rfl).two; obtain ⟨⟨kw0, kw1⟩, fkw0, fkw1⟩ := ((BX.out.below hd2).get 5 rfl).two))
              go_ret
              exact ⟨rfl, HH.out.trans (hd2.mono HH.out.size)⟩
          · as_aux_lemma =>
              rcases Xz.out with ⟨_, hzc, hzn, lvz, mz, lz, nz⟩ | ⟨h1, _⟩
              rotate_left
              · rw [HHO.out] at h1; cases h1
              have hzc := hzc.symm
              subst hzc
              subst hzn
              rcases Xw.out with ⟨_, hwc, hwn, lvw, mw, lw, nw⟩ | ⟨h1, _⟩
              rotate_left
              · rw [HHO.out] at h1; cases h1
              have hwc := hwc.symm
              subst hwc
              subst hwn
              have cE : Hid (∀ W', Below vz.heap.size vz W' → Calls Tryd.prog 20 #[.agg #[.int .i64 cols, .slice A1 n c1], .int .i64 row, .int .i64 at_, .int .i64 M, .agg #[.int .i64 af, .int .i64 ab, .int .i64 al]] W' (RPost W' cols lv1 (insertT (lv1.map Prod.fst) row at_ M ⟨af, ab, al⟩))) := fun W' hb => refInsert_out cols row at_ M ⟨af, ab, al⟩ _ lv1 W' (HG.out.below hb) HHO.out
              have cF : Hid (∀ W', Below vz.heap.size vz W' → Calls Tryd.prog 21 #[.agg #[.int .i64 cols, .slice A1 n c1], .int .i64 row, .int .i64 at_, .int .i64 M, .agg #[.int .i64 af, .int .i64 ab, .int .i64 al]] W' (RPost W' cols lv1 (deleteT (lv1.map Prod.fst) row at_ M ⟨af, ab, al⟩))) := fun W' hb => refDelete_out cols row at_ M ⟨af, ab, al⟩ _ lv1 W' (HG.out.below hb) HHO.out
              have cI : Hid (∀ W' v9 lv9, Below vz.heap.size vz W' → lv9.map Prod.fst = insertT (lv1.map Prod.fst) row at_ M ⟨af, ab, al⟩ → LR W' v9 lv9 → CesOf W' lv9 → Calls Tryd.prog 14 #[.agg #[.int .i64 cols, .slice zA zk zp], .int .i64 0, .bool true, .agg #[.int .i64 cols, v9]] W' (IsPost W')) := fun W' v9 lv9 hb m9 l9 n9 =>
                is_yes cols _ v9 lvz lv9 W' (lz.below hb) l9 (nz.below hb) n9 (mz.trans m9.symm) (insert_stay HG.out.sm HHO.out mz).2.szG
              have cJ : Hid (∀ W' v9 lv9, Below vz.heap.size vz W' → lv9.map Prod.fst = deleteT (lv1.map Prod.fst) row at_ M ⟨af, ab, al⟩ → LR W' v9 lv9 → CesOf W' lv9 → Calls Tryd.prog 14 #[.agg #[.int .i64 cols, .slice wA wk wp], .int .i64 0, .bool true, .agg #[.int .i64 cols, v9]] W' (IsPost W')) := fun W' v9 lv9 hb m9 l9 n9 =>
                is_yes cols _ v9 lvw lv9 W' (lw.below hb) l9 (nw.below hb) n9 (mw.trans m9.symm) (delete_stay HG.out.sm HHO.out mw).2.szG
              clear mz lz nz mw lw nw
              go_upto_region 14 with fail
              have hS0 : Below vz.heap.size vz _ := hd2.drew
              refine wp_region_S (fun _ w' => Below vz.heap.size vz w') (by kernel_rfl) ?_
              refine oneS (k := 0) (by kernel_rfl) rfl (by rfl) (fun K hK => ?_)
              go_simp
              go_at_call 19
              refine (cA.out _ hS0).mono ?_
              rintro e w9 ⟨rfl, hb⟩
              dsimp only
              have hS1 := hS0.trans (hb.mono hS0.size)
              refine hK _ _ hS1 ?_
              clear hK K
              try simp only [Act.put, List.setIfInBounds_toArray, List.set_cons_zero, List.set_cons_succ]
              clear hS0 hb
              have hS0 := hS1
              clear hS1
              refine takeC (i := 1) (v := ?v1fq) 129 rfl rfl (by kernel_rfl) (by kernel_rfl) (by kernel_rfl) (by kernel_rfl) (fun _ _ _ h => h) (Or.inl ⟨by rfl, fun w' hw' => ?hy1fq⟩) hS0 ?rest1fq
              case hy1fq => go_simp; try with_reducible rfl
              try simp only [Act.put, List.setIfInBounds_toArray, List.set_cons_zero, List.set_cons_succ]
              refine takeC (i := 2) (v := ?v2fq) 130 rfl rfl (by kernel_rfl) (by kernel_rfl) (by kernel_rfl) (by kernel_rfl) (fun _ _ _ h => h) (Or.inl ⟨by rfl, fun w' hw' => ?hy2fq⟩) hS0 ?rest2fq
              case hy2fq => obtain ⟨⟨kz0, kz1⟩, fkz0, fkz1⟩ := ((BX.out.below hw').get 4 rfl).two; go_simp; try with_reducible rfl
              try simp only [Act.put, List.setIfInBounds_toArray, List.set_cons_zero, List.set_cons_succ]
              refine takeC (i := 3) (v := ?v3fq) 131 rfl rfl (by kernel_rfl) (by kernel_rfl) (by kernel_rfl) (by kernel_rfl) (fun _ _ _ h => h) (Or.inl ⟨by rfl, fun w' hw' => ?hy3fq⟩) hS0 ?rest3fq
              case hy3fq => go_simp; try with_reducible rfl
              try simp only [Act.put, List.setIfInBounds_toArray, List.set_cons_zero, List.set_cons_succ]
              refine takeC (i := 4) (v := ?v4fq) 132 rfl rfl (by kernel_rfl) (by kernel_rfl) (by kernel_rfl) (by kernel_rfl) (fun _ _ _ h => h) (Or.inl ⟨by rfl, fun w' hw' => ?hy4fq⟩) hS0 ?rest4fq
              case hy4fq => obtain ⟨⟨kg0, kg1⟩, fkg0, fkg1⟩ := ((BX.out.below hw').get 0 rfl).two; go_simp; try with_reducible rfl
              try simp only [Act.put, List.setIfInBounds_toArray, List.set_cons_zero, List.set_cons_succ]
              refine takeC (i := 5) (v := ?v5fq) 133 rfl rfl (by kernel_rfl) (by kernel_rfl) (by kernel_rfl) (by kernel_rfl) (fun _ _ _ h => h) (Or.inl ⟨by rfl, fun w' hw' => ?hy5fq⟩) hS0 ?rest5fq
              case hy5fq => go_simp; try with_reducible rfl
              try simp only [Act.put, List.setIfInBounds_toArray, List.set_cons_zero, List.set_cons_succ]
              refine takeC (i := 6) (v := ?v6fq) 134 rfl rfl (by kernel_rfl) (by kernel_rfl) (by kernel_rfl) (by kernel_rfl) (fun _ _ _ h => h) (Or.inl ⟨by rfl, fun w' hw' => ?hy6fq⟩) hS0 ?rest6fq
              case hy6fq => go_simp; try with_reducible rfl
              try simp only [Act.put, List.setIfInBounds_toArray, List.set_cons_zero, List.set_cons_succ]
              refine takeC (i := 7) (v := ?v7fq) 135 rfl rfl (by kernel_rfl) (by kernel_rfl) (by kernel_rfl) (by kernel_rfl) (fun _ _ _ h => h) (Or.inl ⟨by rfl, fun w' hw' => ?hy7fq⟩) hS0 ?rest7fq
              case hy7fq => go_simp; try with_reducible rfl
              try simp only [Act.put, List.setIfInBounds_toArray, List.set_cons_zero, List.set_cons_succ]
              refine takeC (i := 8) (v := ?v8fq) 136 rfl rfl (by kernel_rfl) (by kernel_rfl) (by kernel_rfl) (by kernel_rfl) (fun _ _ _ h => h) (Or.inl ⟨by rfl, fun w' hw' => ?hy8fq⟩) hS0 ?rest8fq
              case hy8fq => obtain ⟨⟨ka0, ka1, ka2⟩, fka0, fka1, fka2⟩ := ((BX.out.below hw').get 1 rfl).three; go_simp; try with_reducible rfl
              try simp only [Act.put, List.setIfInBounds_toArray, List.set_cons_zero, List.set_cons_succ]
              refine oneS (k := 9) (by kernel_rfl) rfl (by rfl) (fun K hK => ?_)
              go_simp
              go_at_call 20
              refine (cE.out _ hS0).mono ?_
              rintro e w9 ⟨v9, lv9, rfl, m9, l9, n9, hb⟩
              obtain ⟨A9, c9, hv9⟩ := l9.spell
              subst hv9
              dsimp only
              have hS1 := hS0.trans (hb.mono hS0.size)
              refine hK _ _ hS1 ?_
              clear hK K
              try simp only [Act.put, List.setIfInBounds_toArray, List.set_cons_zero, List.set_cons_succ]
              clear hS0 hb
              have hS0 := hS1
              clear hS1
              refine oneS (k := 10) (by kernel_rfl) rfl (by rfl) (fun K hK => ?_)
              go_simp
              go_at_call 14
              refine (cI.out _ _ lv9 hS0 m9 l9.row (n9.ces (HG.out.below hS0).ces)).mono ?_
              rintro e w9 ⟨rfl, hb⟩
              dsimp only
              have hS1 := hS0.trans (hb.mono hS0.size)
              refine hK _ _ hS1 ?_
              clear hK K
              try simp only [Act.put, List.setIfInBounds_toArray, List.set_cons_zero, List.set_cons_succ]
              clear hS0 hb
              have hS0 := hS1
              clear hS1
              refine takeC (i := 11) (v := ?v11fq) 139 rfl rfl (by kernel_rfl) (by kernel_rfl) (by kernel_rfl) (by kernel_rfl) (fun _ _ _ h => h) (Or.inl ⟨by rfl, fun w' hw' => ?hy11fq⟩) hS0 ?rest11fq
              case hy11fq => go_simp; try with_reducible rfl
              try simp only [Act.put, List.setIfInBounds_toArray, List.set_cons_zero, List.set_cons_succ]
              refine takeC (i := 12) (v := ?v12fq) 140 rfl rfl (by kernel_rfl) (by kernel_rfl) (by kernel_rfl) (by kernel_rfl) (fun _ _ _ h => h) (Or.inl ⟨by rfl, fun w' hw' => ?hy12fq⟩) hS0 ?rest12fq
              case hy12fq => go_simp; try with_reducible rfl
              try simp only [Act.put, List.setIfInBounds_toArray, List.set_cons_zero, List.set_cons_succ]
              refine takeC (i := 13) (v := ?v13fq) 141 rfl rfl (by kernel_rfl) (by kernel_rfl) (by kernel_rfl) (by kernel_rfl) (fun _ _ _ h => h) (Or.inl ⟨by rfl, fun w' hw' => ?hy13fq⟩) hS0 ?rest13fq
              case hy13fq => obtain ⟨⟨kw0, kw1⟩, fkw0, fkw1⟩ := ((BX.out.below hw').get 5 rfl).two; go_simp; try with_reducible rfl
              try simp only [Act.put, List.setIfInBounds_toArray, List.set_cons_zero, List.set_cons_succ]
              refine takeC (i := 14) (v := ?v14fq) 142 rfl rfl (by kernel_rfl) (by kernel_rfl) (by kernel_rfl) (by kernel_rfl) (fun _ _ _ h => h) (Or.inl ⟨by rfl, fun w' hw' => ?hy14fq⟩) hS0 ?rest14fq
              case hy14fq => go_simp; try with_reducible rfl
              try simp only [Act.put, List.setIfInBounds_toArray, List.set_cons_zero, List.set_cons_succ]
              refine takeC (i := 15) (v := ?v15fq) 143 rfl rfl (by kernel_rfl) (by kernel_rfl) (by kernel_rfl) (by kernel_rfl) (fun _ _ _ h => h) (Or.inl ⟨by rfl, fun w' hw' => ?hy15fq⟩) hS0 ?rest15fq
              case hy15fq => obtain ⟨⟨kg0, kg1⟩, fkg0, fkg1⟩ := ((BX.out.below hw').get 0 rfl).two; go_simp; try with_reducible rfl
              try simp only [Act.put, List.setIfInBounds_toArray, List.set_cons_zero, List.set_cons_succ]
              refine takeC (i := 16) (v := ?v16fq) 144 rfl rfl (by kernel_rfl) (by kernel_rfl) (by kernel_rfl) (by kernel_rfl) (fun _ _ _ h => h) (Or.inl ⟨by rfl, fun w' hw' => ?hy16fq⟩) hS0 ?rest16fq
              case hy16fq => go_simp; try with_reducible rfl
              try simp only [Act.put, List.setIfInBounds_toArray, List.set_cons_zero, List.set_cons_succ]
              refine takeC (i := 17) (v := ?v17fq) 145 rfl rfl (by kernel_rfl) (by kernel_rfl) (by kernel_rfl) (by kernel_rfl) (fun _ _ _ h => h) (Or.inl ⟨by rfl, fun w' hw' => ?hy17fq⟩) hS0 ?rest17fq
              case hy17fq => go_simp; try with_reducible rfl
              try simp only [Act.put, List.setIfInBounds_toArray, List.set_cons_zero, List.set_cons_succ]
              refine takeC (i := 18) (v := ?v18fq) 146 rfl rfl (by kernel_rfl) (by kernel_rfl) (by kernel_rfl) (by kernel_rfl) (fun _ _ _ h => h) (Or.inl ⟨by rfl, fun w' hw' => ?hy18fq⟩) hS0 ?rest18fq
              case hy18fq => go_simp; try with_reducible rfl
              try simp only [Act.put, List.setIfInBounds_toArray, List.set_cons_zero, List.set_cons_succ]
              refine takeC (i := 19) (v := ?v19fq) 147 rfl rfl (by kernel_rfl) (by kernel_rfl) (by kernel_rfl) (by kernel_rfl) (fun _ _ _ h => h) (Or.inl ⟨by rfl, fun w' hw' => ?hy19fq⟩) hS0 ?rest19fq
              case hy19fq => obtain ⟨⟨ka0, ka1, ka2⟩, fka0, fka1, fka2⟩ := ((BX.out.below hw').get 1 rfl).three; go_simp; try with_reducible rfl
              try simp only [Act.put, List.setIfInBounds_toArray, List.set_cons_zero, List.set_cons_succ]
              refine oneS (k := 20) (by kernel_rfl) rfl (by rfl) (fun K hK => ?_)
              go_simp
              go_at_call 21
              refine (cF.out _ hS0).mono ?_
              rintro e w9 ⟨v9, lv9, rfl, m9, l9, n9, hb⟩
              obtain ⟨A9, c9, hv9⟩ := l9.spell
              subst hv9
              dsimp only
              have hS1 := hS0.trans (hb.mono hS0.size)
              refine hK _ _ hS1 ?_
              clear hK K
              try simp only [Act.put, List.setIfInBounds_toArray, List.set_cons_zero, List.set_cons_succ]
              clear hS0 hb
              have hS0 := hS1
              clear hS1
              refine oneS (k := 21) (by kernel_rfl) rfl (by rfl) (fun K hK => ?_)
              go_simp
              go_at_call 14
              refine (cJ.out _ _ lv9 hS0 m9 l9.row (n9.ces (HG.out.below hS0).ces)).mono ?_
              rintro e w9 ⟨rfl, hb⟩
              dsimp only
              have hS1 := hS0.trans (hb.mono hS0.size)
              refine hK _ _ hS1 ?_
              clear hK K
              try simp only [Act.put, List.setIfInBounds_toArray, List.set_cons_zero, List.set_cons_succ]
              clear hS0 hb
              have hS0 := hS1
              clear hS1
              refine takeC (i := 22) (v := ?v22fq) 150 rfl rfl (by kernel_rfl) (by kernel_rfl) (by kernel_rfl) (by kernel_rfl) (fun _ _ _ h => h) (Or.inl ⟨by rfl, fun w' hw' => ?hy22fq⟩) hS0 ?rest22fq
              case hy22fq => go_simp; try with_reducible rfl
              try simp only [Act.put, List.setIfInBounds_toArray, List.set_cons_zero, List.set_cons_succ]
              refine takeC (i := 23) (v := ?v23fq) 10 rfl rfl (by kernel_rfl) (by kernel_rfl) (by kernel_rfl) (by kernel_rfl) (fun _ _ _ h => h) (Or.inl ⟨by rfl, fun w' hw' => ?hy23fq⟩) hS0 ?rest23fq
              case hy23fq => go_simp; try with_reducible rfl
              try simp only [Act.put, List.setIfInBounds_toArray, List.set_cons_zero, List.set_cons_succ]
              refine doneS (by kernel_rfl) ?_ _
              go_wp2_with fail
              go_ret
              exact ⟨rfl, HH.out.trans (hS0.mono HH.out.size)⟩
end Go.Proofs.YtkejoknphnkhnaaDoor
