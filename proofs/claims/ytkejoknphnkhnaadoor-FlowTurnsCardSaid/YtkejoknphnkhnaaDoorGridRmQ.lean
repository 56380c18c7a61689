/- Layer 6, the reference: a line mended. -/
import Derived.Test.YtkejoknphnkhnaaDoorGridLineQ
import Derived.Test.YtkejoknphnkhnaaDoorGridSmQ
import Derived.Deep.DeepCutAuto
namespace Go.Proofs.YtkejoknphnkhnaaDoor
open Go.RowKit

theorem rblank_any (a : At) (w : World) :
    Calls Tryd.prog 53 #[a.agg] w fun e w' => e = .returned (blkC a).agg ∧ Below w.heap.size w w' := by
  obtain ⟨fg, bg, fl⟩ := a
  unfold At.agg
  go_enter Tryd.func53, Tryd.ntmps53
  go_wp2
  refine bodyPost_ret (v := Ce.agg ⟨⟨#[]⟩, 1, 0, bg, 0⟩) (by simp [results, Tryd.results53, go_sem, Ce.agg, Ce.cells]) rfl ⟨rfl, ?_⟩
  exact (below_alloc _ _).alloc (by simp) _
theorem CeRow.drop {W : World} {g o c n : Nat} {l : List Ce} (h : CeRow W (.slice (some ⟨g, o, none⟩) n c) l) (hn : l.length = n) {k : Nat} (hk : k < n) : CeRow W (.slice (some ⟨g, o + k * 5, none⟩) (n - k) (c - k)) (l.drop k) := by
  obtain ⟨A', c', e, hc, hcell⟩ := h
  cases e
  obtain ⟨g', o', e', hg, hcell⟩ := hcell (by intro e; rw [e] at hk; simp at hk)
  cases e'
  refine ⟨_, _, by rw [List.length_drop, hn], by rw [List.length_drop]; omega, fun _ => ⟨g, o + k * 5, rfl, hg, fun j e he i u hu => ?_⟩⟩
  rw [List.getElem?_drop] at he
  have := hcell (k + j) e he i u hu
  rwa [show o + k * 5 + j * 5 + i = o + (k + j) * 5 + i by omega]
theorem OwnC.below {W W' : World} {base : Nat} {v : Value} {l : List Ce} (h : OwnC W base v l) (hg : W.grownBy W' v.ownBlock) {B : Nat} (hB : B ≤ base) (hs : B ≤ W.heap.size) : Below B W W' :=
  (Below.refl B W).grown hg hs (fun k hk => Nat.le_trans hB (World.ownsRow.lt h k hk).1)

/-- A cell appended to a row of the call's own, behind what a round has laid. -/
theorem own_step {W wr wz w7 : World} {ov : Value} {done : List Ce} {lit : Array Value} {l : List (Nat × TypeId × Array Value)} (hown : OwnC wr W.heap.size ov done) (hb : Below wr.heap.size wr wz) (hg : (wz.alloc (.cells lit 66)).grownBy w7 ov.ownBlock)
    (hbx : Bxs wr l) (hl : ∀ x ∈ l, x.2.1 ≠ 66) (hbr : Below W.heap.size W wr) : Bxs w7 l ∧ Below W.heap.size W w7 ∧ wr.heap.size ≤ w7.heap.size := by
  have hb6 := hb.trans ((below_alloc wz (.cells lit 66)).mono hb.size)
  have own6 := hown.kept hb6
  refine ⟨fun x hx => ((hbx.below hb6) x hx).grown hg (own6.not_box ((hbx.below hb6) x hx) (hl x hx)), ?_, Nat.le_trans hb6.size hg.size⟩
  exact (hbr.trans (hb6.mono hbr.size)).trans ((Below.refl _ _).grown hg (Nat.le_trans hbr.size hb6.size) (fun k hk => (World.ownsRow.lt own6 k hk).1))

def RmRel (W wr : World) (ov : Value) (l : List Ce) (k : Nat) : Prop :=
  ∃ done rest : List Ce, done.length = k ∧ k + rest.length = l.length ∧ rest = l.drop k ∧ done ++ mendL (lastW done) rest = mendL 1 l ∧ OwnC wr W.heap.size ov done
set_option maxRecDepth 100000 in
set_option maxHeartbeats 4000000 in
theorem rMend_any (v : Value) (l : List Ce) (soft : Bool) (W : World) (hr : CeRow W v l) (hn : l.length ≤ 1000) :
    Calls Tryd.prog 78 #[.agg #[v, .bool soft]] W (LinePost W (mendL 1 l) soft) := by
  have hr' := hr
  obtain ⟨A, c0, rfl, hcap, hA⟩ := hr
  obtain ⟨n, hnl⟩ : ∃ n, l.length = n := ⟨_, rfl⟩
  have HNL := hid hnl
  rw [hnl] at hcap hn hr' ⊢
  have b0 := (((Bxs.nil W).alloc 61 #[.slice A n c0, .bool soft]).alloc 61 #[.slice none 0 0, .bool false])
  simp only [World.size_alloc, List.nil_append, List.cons_append] at b0
  have hW3 : Below W.heap.size W (((W.alloc (.cells #[.slice A n c0, .bool soft] 61)).alloc (.cells #[.slice none 0 0, .bool false] 61)).alloc (.cells #[] 66)) := ((below_alloc _ _).alloc (by simp) _).alloc (by simp <;> omega) _
  have ho3 : OwnC (((W.alloc (.cells #[.slice A n c0, .bool soft] 61)).alloc (.cells #[.slice none 0 0, .bool false] 61)).alloc (.cells #[] 66)) W.heap.size (.slice (some ⟨W.heap.size + 1 + 1, 0, none⟩) 0 0) [] := by
    have h := OwnC.lit (W := (W.alloc (.cells #[.slice A n c0, .bool soft] 61)).alloc (.cells #[.slice none 0 0, .bool false] 61)) (base := W.heap.size) [] (by simp) (by simp <;> omega)
    simpa [cflat] using h
  have b1 : Bxs (((W.alloc (.cells #[.slice A n c0, .bool soft] 61)).alloc (.cells #[.slice none 0 0, .bool false] 61)).alloc (.cells #[] 66)) [(W.heap.size, 61, #[.slice A n c0, .bool soft]), (W.heap.size + 1, 61, #[.slice none 0 0, .bool false])] := b0.below (below_alloc _ _)
  have hs3 : (((W.alloc (.cells #[.slice A n c0, .bool soft] 61)).alloc (.cells #[.slice none 0 0, .bool false] 61)).alloc (.cells #[] 66)).heap.size = W.heap.size + 1 + 1 + 1 := by simp
  have HR := hid hr'
  have H3 := hid hW3
  have HO3 := hid ho3
  have B1 := hid b1
  have HS3 := hid hs3
  clear b0 hW3 ho3 b1 hs3 hr' hnl
  go_enter Tryd.func78, Tryd.ntmps78
  go_wp2
  go_loopw [3, 11] (fun ov i wr => ∃ k : Nat, k ≤ n ∧ i = .int .i64 k ∧ RmRel W wr ov l k ∧ Bxs wr [(W.heap.size, 61, #[.slice A n c0, .bool soft]), (W.heap.size + 1, 61, #[.slice none 0 0, .bool false])] ∧ W.heap.size + 1 + 1 ≤ wr.heap.size ∧ Below W.heap.size W wr) (fun _ i _ => n - (intOf i).toNat)
  case atStart => exact ⟨0, by omega, rfl, ⟨[], l, rfl, by omega, rfl, rfl, HO3.out⟩, B1.out, by rw [HS3.out]; omega, H3.out⟩
  case round =>
    obtain ⟨k, hk, rfl, ⟨done, rest, hd, hrl, hrest, hm, hown⟩, hbx, hsz, hbr⟩ := hrel
    obtain ⟨oA, oc, hov⟩ := hown.spell
    rw [hd] at hov
    subst hov
    obtain ⟨⟨k0, k1⟩, f0, f1⟩ := (hbx.get 0 rfl).two
    by_cases hlt : k < n
    · have hki : (k : Int) < n := by omega
      obtain ⟨e, r, rfl⟩ : ∃ e r, rest = e :: r := by
        cases rest with
        | nil => have := HNL.out; simp at hrl; omega
        | cons x r => exact ⟨x, r, rfl⟩
      have hx : l[k]? = some e := by
        have := congrArg (fun x => x[0]?) hrest
        simp at this
        exact this.symm
      have hkl : k < l.length := by rw [HNL.out]; exact hlt
      obtain ⟨g, o, rfl, hg, hcell⟩ := hA (by intro e; rw [e] at hkl; simp at hkl)
      obtain ⟨p0, p1, p2, p3, p4⟩ := ccells (W := wr) (g := g) (o := o + k * 5) (e := e) (fun i u hu => (hbr.cell (p := ⟨g, o + k * 5 + i, none⟩) hg).trans (hcell k e hx i u hu))
      have hck : ¬ c0 = k := by omega
      have hms := mend_step done e r
      rw [hm] at hms
      have hbl := rblank_any e.at
      obtain ⟨x, hxb⟩ : ∃ x, blkC e.at = x := ⟨_, rfl⟩
      rw [hxb] at hbl hms
      obtain ⟨tx, wd, fg, bg, fl⟩ := e
      unfold At.agg Ce.at Ce.agg Ce.cells at hbl
      simp only at p0 p1 p2 p3 p4 hbl hms
      have w2b : Below wr.heap.size wr ((wr.alloc (.cells #[.string tx, .int .i64 wd, .int .i64 fg, .int .i64 bg, .int .i64 fl] 66)).alloc (.cells #[] 66)) := (below_alloc _ _).alloc (by simp) _
      have hnow : OwnC ((wr.alloc (.cells #[.string tx, .int .i64 wd, .int .i64 fg, .int .i64 bg, .int .i64 fl] 66)).alloc (.cells #[] 66)) (wr.heap.size + 1) (.slice (some ⟨wr.heap.size + 1, 0, none⟩) 0 0) [] := by
        have h := OwnC.lit (W := wr.alloc (.cells #[.string tx, .int .i64 wd, .int .i64 fg, .int .i64 bg, .int .i64 fl] 66)) (base := wr.heap.size + 1) [] (by simp) (by simp)
        simpa [cflat] using h
      have hcb : Box ((wr.alloc (.cells #[.string tx, .int .i64 wd, .int .i64 fg, .int .i64 bg, .int .i64 fl] 66)).alloc (.cells #[] 66)) wr.heap.size 66 #[.string tx, .int .i64 wd, .int .i64 fg, .int .i64 bg, .int .i64 fl] := (Box.new wr _ _).alloc _
      have hs2 : ((wr.alloc (.cells #[.string tx, .int .i64 wd, .int .i64 fg, .int .i64 bg, .int .i64 fl] 66)).alloc (.cells #[] 66)).heap.size = wr.heap.size + 1 + 1 := by simp
      have hbx2 := hbx.below w2b
      have W2 := hid w2b
      have HNOW := hid hnow
      have HCB := hid hcb
      have HS2 := hid hs2
      have HBX := hid hbx
      have HBX2 := hid hbx2
      have HBR := hid hbr
      have HOWN := hid hown
      have HD := hid hd
      have HRL := hid hrl
      have HREST := hid hrest
      have HM := hid hm
      have HMS := hid hms
      have HXB := hid hxb
      have HBLANK := hid hbl
      have HX := hid hx
      clear w2b hnow hcb hs2 hbx hbx2 hbr hown hd hrl hrest hm hms hxb hbl hcell hA hx
      go_upto_region 6 with fail
      generalize ((wr.alloc (.cells #[.string tx, .int .i64 wd, .int .i64 fg, .int .i64 bg, .int .i64 fl] 66)).alloc (.cells #[] 66)) = w2 at *
      have hdn : done.length ≤ 1000 := by rw [HD.out]; omega
      have hrow1 : CeRow w2 (.slice oA k oc) done := by
        have h := (HOWN.out.kept W2.out).csl.row
        exact h
      have HR1 := hid hrow1
      clear hrow1 k0 k1 f0 f1 p0 p1 p2 p3 p4
      go_upto_region 7 with (at_builtin; refine wpList_append_ce rfl _ _ rfl (wr.heap.size + 1) _ _ [] done rfl HNOW.out rfl HR1.out (by simp; omega) (by rw [HS2.out]; omega) ?_; intro v3 w3 h1 h2; rw [List.nil_append] at h1)
      have hb3 : Below (wr.heap.size + 1) w2 w3 := HNOW.out.below h2 (Nat.le_refl _) (by rw [HS2.out]; omega)
      obtain ⟨A3, c3, hv3⟩ := h1.spell
      rw [HD.out] at hv3
      subst hv3
      have hcb3 := HCB.out.below hb3 (by omega)
      have hwb3 : Below wr.heap.size wr w3 := W2.out.trans (hb3.mono (by omega))
      obtain ⟨⟨k0, k1⟩, f0, f1⟩ := ((HBX.out.below hwb3).get 0 rfl).two
      have hrow2 : CeRow w3 (.slice (some ⟨g, o + k * 5, none⟩) (n - k) (c0 - k)) (⟨tx, wd, fg, bg, fl⟩ :: r) := by
        rw [HREST.out]
        exact ((HR.out.below HBR.out).below hwb3).drop HNL.out hlt
      have H1 := hid h1
      have HR2 := hid hrow2
      have HB3 := hid hb3
      have HCB3 := hid hcb3
      have HWB3 := hid hwb3
      have hsz3 : wr.heap.size + 1 ≤ w3.heap.size := by have := hb3.size; rw [HS2.out] at this; omega
      have hlr : (⟨tx, wd, fg, bg, fl⟩ :: r : List Ce).length ≤ 1000 := by have := HRL.out; have := HNL.out; omega
      clear h1 h2 hrow2 hb3 hcb3 hwb3
      go_upto_region 8 with (at_builtin; refine wpList_append_ce rfl _ _ rfl (wr.heap.size + 1) _ _ done (⟨tx, wd, fg, bg, fl⟩ :: r) rfl H1.out rfl HR2.out (by rw [HD.out]; omega) hsz3 ?_; intro v4 w4 h1 h2)
      have hb4 : Below (wr.heap.size + 1) w3 w4 := H1.out.below h2 (Nat.le_refl _) hsz3
      obtain ⟨A4, c4, hv4⟩ := h1.spell
      have hlen4 : (done ++ ⟨tx, wd, fg, bg, fl⟩ :: r).length = n := by rw [List.length_append, HD.out, HRL.out, HNL.out]
      rw [hlen4] at hv4
      subst hv4
      have hcb4 := HCB3.out.below hb4 (by omega)
      have hwb4 : Below wr.heap.size wr w4 := HWB3.out.trans (hb4.mono (by omega))
      have hhalf := half_any (.slice A4 n c4) (done ++ ⟨tx, wd, fg, bg, fl⟩ :: r) k w4 h1.csl.row (by rw [hlen4]; exact hlt) (by rw [hlen4]; omega)
      rw [← HD.out, half_at, HD.out] at hhalf
      have HHALF := hid hhalf
      have HCB4 := hid hcb4
      have HWB4 := hid hwb4
      have HBX4 := hid (HBX.out.below hwb4)
      have hsz4 : wr.heap.size + 1 ≤ w4.heap.size := Nat.le_trans hsz3 hb4.size
      clear h1 h2 hb4 hcb4 hwb4 hhalf hlen4 k0 k1 f0 f1 HNOW HR1 HR2 H1 HB3 HCB3 HWB3 HCB HBX2
      cases hf0 : hf (lastW done) ⟨tx, wd, fg, bg, fl⟩ r
      · rw [hf0] at HHALF
        have HF := hid hf0
        clear hf0
        obtain ⟨⟨k0, k1, k2, k3, k4⟩, f0, f1, f2, f3, f4⟩ := HCB4.out.five
        have hwz : Below wr.heap.size wr w4 := HWB4.out
        have hlit : CeRow (w4.alloc (.cells #[.string (⟨tx, wd, fg, bg, fl⟩ : Ce).tx, .int .i64 (⟨tx, wd, fg, bg, fl⟩ : Ce).wd, .int .i64 (⟨tx, wd, fg, bg, fl⟩ : Ce).fg, .int .i64 (⟨tx, wd, fg, bg, fl⟩ : Ce).bg, .int .i64 (⟨tx, wd, fg, bg, fl⟩ : Ce).fl] 66)) (.slice (some ⟨w4.heap.size, 0, none⟩) 1 1) [(⟨tx, wd, fg, bg, fl⟩ : Ce)] := ce_lit _ _
        try simp only at hlit
        have HLIT := hid hlit
        have HWZ := hid hwz
        have hown9 : OwnC (w4.alloc (.cells #[.string (⟨tx, wd, fg, bg, fl⟩ : Ce).tx, .int .i64 (⟨tx, wd, fg, bg, fl⟩ : Ce).wd, .int .i64 (⟨tx, wd, fg, bg, fl⟩ : Ce).fg, .int .i64 (⟨tx, wd, fg, bg, fl⟩ : Ce).bg, .int .i64 (⟨tx, wd, fg, bg, fl⟩ : Ce).fl] 66)) W.heap.size (.slice oA k oc) done := HOWN.out.kept (hwz.trans ((below_alloc _ _).mono hwz.size))
        try simp only at hown9
        have HOWN9 := hid hown9
        have hsz9 : W.heap.size ≤ w4.heap.size := Nat.le_trans HBR.out.size hwz.size
        clear hlit hwz hown9
        go_upto_region 10 with (with_reducible refine HHALF.out.mono ?_; rintro e5 w5 ⟨rfl, rfl⟩)
        go_wp2_with (at_builtin; refine wpList_append_ce rfl _ _ rfl W.heap.size _ _ done [⟨tx, wd, fg, bg, fl⟩] rfl HOWN9.out rfl HLIT.out (by rw [HD.out]; simp; omega) (by simp; omega) ?_; intro v9 w9 h1 h2; obtain ⟨A9, c9, hv9⟩ := h1.spell; rw [List.length_append, HD.out, List.length_singleton] at hv9; subst hv9; have H1 := hid h1; have H2 := hid h2; clear h1 h2)
        go_roundw
        case rel =>
          obtain ⟨q1, q2, q3⟩ := own_step HOWN.out HWZ.out H2.out HBX.out (by intro x hx; simp only [List.mem_cons, List.mem_nil_iff, or_false] at hx; rcases hx with rfl | rfl <;> (show (61 : Nat) ≠ 66; decide)) HBR.out
          refine ⟨k + 1, by omega, by go_num, ⟨done ++ [⟨tx, wd, fg, bg, fl⟩], r, by rw [List.length_append, HD.out]; rfl, by have := HRL.out; simp at this; omega, ?_, ?_, H1.out⟩, q1, by omega, q2⟩
          · have h := congrArg List.tail HREST.out
            simpa using h
          · have h := HMS.out
            rw [HF.out] at h
            simp only [Bool.false_eq_true, if_false] at h
            exact h.symm
        case measure => simp [intOf]; omega
      · rw [hf0] at HHALF
        have HF := hid hf0
        clear hf0
        obtain ⟨⟨k0, k1, k2, k3, k4⟩, f0, f1, f2, f3, f4⟩ := HCB4.out.five
        have hc4lt := HCB4.out.lt
        go_upto_region 10 with (first | (with_reducible refine HHALF.out.mono ?_; rintro e5 w5 ⟨rfl, rfl⟩) | (with_reducible refine (HBLANK.out _).mono ?_; rintro e5 w5 ⟨rfl, hb5⟩; have d5 := HCB4.out.below hb5 hc4lt; clear k0 k1 k2 k3 k4 f0 f1 f2 f3 f4; obtain ⟨⟨k0, k1, k2, k3, k4⟩, f0, f1, f2, f3, f4⟩ := d5.five))
        have d6 := ((((d5.set (i := 0) (.string x.tx)).set (i := 1) (.int .i64 x.wd)).set (i := 2) (.int .i64 x.fg)).set (i := 3) (.int .i64 x.bg)).set (i := 4) (.int .i64 x.fl)
        simp only [List.setIfInBounds_toArray, List.set_cons_zero, List.set_cons_succ] at d6
        have hwz6 : Below wr.heap.size wr (((((w5.setCell ⟨wr.heap.size, 0, none⟩ (.string x.tx)).setCell ⟨wr.heap.size, 1, none⟩ (.int .i64 x.wd)).setCell ⟨wr.heap.size, 2, none⟩ (.int .i64 x.fg)).setCell ⟨wr.heap.size, 3, none⟩ (.int .i64 x.bg)).setCell ⟨wr.heap.size, 4, none⟩ (.int .i64 x.fl)) :=
          below_set (below_set (below_set (below_set (below_set (HWB4.out.trans (hb5.mono HWB4.out.size)) (Nat.le_refl _) _) (Nat.le_refl _) _) (Nat.le_refl _) _) (Nat.le_refl _) _) (Nat.le_refl _) _
        generalize (((((w5.setCell ⟨wr.heap.size, 0, none⟩ (.string x.tx)).setCell ⟨wr.heap.size, 1, none⟩ (.int .i64 x.wd)).setCell ⟨wr.heap.size, 2, none⟩ (.int .i64 x.fg)).setCell ⟨wr.heap.size, 3, none⟩ (.int .i64 x.bg)).setCell ⟨wr.heap.size, 4, none⟩ (.int .i64 x.fl)) = w6 at *
        clear k0 k1 k2 k3 k4 f0 f1 f2 f3 f4 d5 hb5
        obtain ⟨⟨k0, k1, k2, k3, k4⟩, f0, f1, f2, f3, f4⟩ := d6.five
        clear d6
        have hwz : Below wr.heap.size wr w6 := hwz6
        have hlit : CeRow (w6.alloc (.cells #[.string x.tx, .int .i64 x.wd, .int .i64 x.fg, .int .i64 x.bg, .int .i64 x.fl] 66)) (.slice (some ⟨w6.heap.size, 0, none⟩) 1 1) [x] := ce_lit _ _
        try simp only at hlit
        have HLIT := hid hlit
        have HWZ := hid hwz
        have hown9 : OwnC (w6.alloc (.cells #[.string x.tx, .int .i64 x.wd, .int .i64 x.fg, .int .i64 x.bg, .int .i64 x.fl] 66)) W.heap.size (.slice oA k oc) done := HOWN.out.kept (hwz.trans ((below_alloc _ _).mono hwz.size))
        try simp only at hown9
        have HOWN9 := hid hown9
        have hsz9 : W.heap.size ≤ w6.heap.size := Nat.le_trans HBR.out.size hwz.size
        clear hlit hwz hown9
        clear hwz6
        go_wp2_with (at_builtin; refine wpList_append_ce rfl _ _ rfl W.heap.size _ _ done [x] rfl HOWN9.out rfl HLIT.out (by rw [HD.out]; simp; omega) (by simp; omega) ?_; intro v9 w9 h1 h2; obtain ⟨A9, c9, hv9⟩ := h1.spell; rw [List.length_append, HD.out, List.length_singleton] at hv9; subst hv9; have H1 := hid h1; have H2 := hid h2; clear h1 h2)
        go_roundw
        case rel =>
          obtain ⟨q1, q2, q3⟩ := own_step HOWN.out HWZ.out H2.out HBX.out (by intro x hx; simp only [List.mem_cons, List.mem_nil_iff, or_false] at hx; rcases hx with rfl | rfl <;> (show (61 : Nat) ≠ 66; decide)) HBR.out
          refine ⟨k + 1, by omega, by go_num, ⟨done ++ [x], r, by rw [List.length_append, HD.out]; rfl, by have := HRL.out; simp at this; omega, ?_, ?_, H1.out⟩, q1, by omega, q2⟩
          · have h := congrArg List.tail HREST.out
            simpa using h
          · have h := HMS.out
            rw [HF.out] at h
            simp only [if_true] at h
            exact h.symm
        case measure => simp [intOf]; omega
    · have hkm : k = n := by omega
      subst hkm
      have hr0 : rest = [] := by have := HNL.out; apply List.length_eq_zero_iff.1; omega
      subst hr0
      rw [mendL, List.append_nil] at hm
      rw [hm] at hown
      obtain ⟨⟨z0, z1⟩, y0, y1⟩ := (hbx.get 1 rfl).two
      have HBX := hid hbx
      have HOWN := hid hown
      have HBR := hid hbr
      clear hm hown hbx hbr hrest hA
      go_wp2
      refine bodyPost_ret (v := .agg #[.slice oA k oc, .bool soft]) (by simp [results, Tryd.results78, go_sem, z0, z1]) rfl ⟨_, rfl, ?_, ?_⟩
      · have hz1 : Box wr (W.heap.size + 1) 61 #[.slice none 0 0, .bool false] := HBX.out.get 1 rfl
        exact ((HOWN.out.set hz1 (by decide) (i := 0) (.slice oA k oc)).set (hz1.set _) (by decide) (i := 1) (.bool soft)).csl
      · exact (HBR.out.setCell (p := ⟨W.heap.size + 1, 0, none⟩) (by show W.heap.size ≤ W.heap.size + 1; omega) _).setCell (p := ⟨W.heap.size + 1, 1, none⟩) (by show W.heap.size ≤ W.heap.size + 1; omega) _
end Go.Proofs.YtkejoknphnkhnaaDoor
