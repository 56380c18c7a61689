/- Layer 12: the law PresetFits. Made by wip/gen/presetFits.py. -/
import Derived.Test.YtglfolbimafcaaaPresetLQ
import Derived.Deep.DeepCutAuto
namespace Go.Proofs.Ytglfolbimafcaaa
open Go.RowKit

mutual
theorem cnt_leaves : ∀ (t : Tr) (q : Rc), (∀ e ∈ items q t, madeR e.1 e.2 = true) → cntT t + 1 ≤ 2 * (leavesP (items q t)).length
  | .mk k p s l, q, hm => by
    unfold items at hm ⊢
    have h0 := hm _ (List.mem_cons_self ..)
    rcases madeR_cases h0 with ⟨hk, hl⟩ | ⟨hk, _, hl, _⟩
    · simp only [Tr.kids] at hl
      simp only [Tr.kind] at hk
      subst hl hk
      simp [itemsL, cntT, cntL, leavesP, Tr.kind]
    · simp only [Tr.kids, Tr.kind] at hl hk
      have := cntL_leaves l k { q with pane := p } fun e he => hm e (List.mem_cons_of_mem _ he)
      have hc : leavesP ((Tr.mk k p s l, ({ q with pane := p } : Rc)) :: itemsL k { q with pane := p } l) = leavesP (itemsL k { q with pane := p } l) := by
        have hk0 : k ≠ 0 := by omega
        simp [leavesP, Tr.kind, hk0]
      rw [hc]
      unfold cntT
      omega
theorem cntL_leaves : ∀ (l : List Tr) (k : Int) (q : Rc), (∀ e ∈ itemsL k q l, madeR e.1 e.2 = true) → cntL l + l.length ≤ 2 * (leavesP (itemsL k q l)).length
  | [], _, _, _ => Nat.zero_le _
  | t :: r, k, q, hm => by
    unfold itemsL at hm ⊢
    have h1 := cnt_leaves t (q.cut k t.size) fun e he => hm e (List.mem_append_left _ he)
    have h2 := cntL_leaves r k ((q.cut k t.size).on k t.size) fun e he => hm e (List.mem_append_right _ he)
    rw [leavesP_append, List.length_append, List.length_cons]
    unfold cntL
    omega
end
theorem lay_cnt {ps : List Int} {how : Int} {w h : Nat} {t : Tr} (hm : mayP ps w h = true) (hl : layT ps how w h = some t) : cntT t ≤ 1000 := by
  obtain ⟨h1, h2⟩ := lay_made hm hl
  have := cnt_leaves t _ h2
  rw [panesT_any, h1] at this
  have := (mayP_iff.1 hm).1
  omega
/-- What is known of what lies, if any does. -/
structure FitsF (ps : List Int) (how w h : Int) (t : Tr) : Prop where
  cnt : cntT t ≤ 1000
  right : rightB t w h = true
  len : (rectsT t w h).length = ps.length
  one : 1 ≤ ps.length
  at_ : ∀ (i : Nat) (r : Rc) (p : Int), (rectsT t w h)[i]? = some r → ps[i]? = some p → r.pane = p ∧ (how = 1 → r.h = h ∧ r.y = 0) ∧ (how = 2 → r.w = w ∧ r.x = 0)
  first : how = 3 ∨ how = 4 → ∀ r, (rectsT t w h)[0]? = some r → r.x = 0 ∧ r.y = 0
theorem fitsF {ps : List Int} {how w h : Int} {t : Tr} (hm : mayP ps w h = true) (hl : layT ps how w.toNat h.toNat = some t) : FitsF ps how w h t := by
  obtain ⟨⟨l1, l8⟩, ⟨w1, w80, g1, g50⟩, _, _⟩ := mayP_iff.1 hm
  obtain ⟨wn, rfl⟩ : ∃ wn : Nat, w = wn := ⟨w.toNat, by omega⟩
  obtain ⟨hn, rfl⟩ : ∃ hn : Nat, h = hn := ⟨h.toNat, by omega⟩
  rw [Int.toNat_natCast, Int.toNat_natCast] at hl
  obtain ⟨r1, r2⟩ := lay_right hm hl
  refine ⟨lay_cnt hm hl, r1, by rw [← r2, List.length_map], l1, fun i r p hr hp => ⟨?_, fun e => ?_, fun e => ?_⟩, fun hh r hr => ?_⟩
  · have := congrArg (fun l : List Int => l[i]?) r2
    simp only [List.getElem?_map, hr, hp, Option.map_some, Option.some.injEq] at this
    exact this
  · subst e
    exact lay_row hl r (List.mem_of_getElem? hr)
  · subst e
    exact lay_pile hl r (List.mem_of_getElem? hr)
  · obtain ⟨r0, l, e, h1, h2⟩ := lay_main hh hl
    rw [e] at hr
    simp at hr
    subst hr
    exact ⟨h1, h2⟩
/-- What Lay comes to, told for the law. -/
theorem lay_fits (v : Value) (ps : List Int) (how w h : Int) (W : World) (hv : NRow W v ps) (hn : ps.length ≤ 1000) : Calls Try.prog 19 #[v, .int .i64 how, .int .i64 w, .int .i64 h] W fun e w' =>
    Below W.heap.size W w' ∧ ∃ (t : Tr) (kA : Option Addr) (kn kc : Nat) (err : Int), e = .returned (.tuple #[.agg #[.int .i64 t.kind, .int .i64 t.pane, .int .i64 t.size, .slice kA kn kc], .int .i64 err]) ∧ TrAt w' t (.slice kA kn kc) ∧
      (err = 1 ∨ (err = 9 ∧ (w < 15 ∨ h < 15)) ∨ (err = 0 ∧ FitsF ps how w h t)) := by
  refine (lay_any v ps how w h W hv hn).mono ?_
  rintro e w' (⟨_, rfl, hb⟩ | ⟨⟨hm, _, _⟩, hp⟩)
  · refine ⟨hb, .mk 0 0 0 [], none, 0, 0, 1, rfl, ?_, .inl rfl⟩
    unfold TrAt
    exact ⟨none, 0, rfl, Nat.le_refl _, fun h => absurd rfl h⟩
  · obtain ⟨hb, t, kA, kn, kc, err, rfl, ht, hcase⟩ := hp.one
    refine ⟨hb, t, kA, kn, kc, err, rfl, TrB.at _ _ ht, ?_⟩
    rcases hcase with ⟨hno, _, rfl, _⟩ | ⟨hy, rfl⟩
    · refine .inr (.inl ⟨rfl, ?_⟩)
      obtain ⟨_, ⟨w1, w80, g1, g50⟩, _, _⟩ := mayP_iff.1 hm
      by_cases h1 : w < 15
      · exact .inl h1
      · refine .inr (Int.not_le.1 fun h2 => ?_)
        obtain ⟨t', ht'⟩ := lay_room (ps := ps) (how := how) (w := w.toNat) (h := h.toNat) (by rw [Int.toNat_of_nonneg (by omega), Int.toNat_of_nonneg (by omega)]; exact hm) (by omega) (by omega)
        rw [hno] at ht'
        cases ht'
    · exact .inr (.inr ⟨rfl, fitsF hm hy⟩)
set_option maxRecDepth 100000 in
set_option maxHeartbeats 8000000 in
theorem fits_any (v : Value) (ps0 : List Int) (how w h : Int) (W : World) (hv : NRow W v ps0) (hn0 : (ps0.length : Int) ≤ 9223372036854775807) : Calls Try.prog 6 #[v, .int .i64 how, .int .i64 w, .int .i64 h] W (Ok12 W) := by
  have hv0 := hv
  obtain ⟨A0, c0, rfl, hcc, _⟩ := hv
  obtain ⟨n0, hn⟩ : ∃ n0, ps0.length = n0 := ⟨_, rfl⟩
  have htk := fun k hk => hv0.take k hk
  rw [hn] at hcc hv0 hn0 htk ⊢
  have HA := hid alive12_any
  have HTK := hid htk
  have HV0 := hid hv0
  have HN0 := hid hn
  clear hv0 htk hn
  go_enter Try.func6, Try.ntmps6
  go_upto_region 1 with fail
  go_cut [0] (fun a wx => ∃ A n c ps, a = .slice A n c ∧ NRow W (.slice A n c) ps ∧ ps.length = n ∧ n ≤ 10 ∧ n ≤ c ∧ W = wx)
  case first =>
    by_cases h10 : n0 ≤ 10
    · have h10i : (n0 : Int) ≤ 10 := by omega
      have hmin : min (n0 : Int) 10 = n0 := Int.min_eq_left h10i
      go_wp2_with fail
      go_meet
      exact ⟨_, _, _, _, rfl, HV0.out, HN0.out, h10, hcc, rfl⟩
    · have h10i : (10 : Int) ≤ n0 := by omega
      have h10j : (10 : Int) < n0 := by omega
      have hmin : min (n0 : Int) 10 = 10 := Int.min_eq_right h10i
      have h10c : (10 : Int) ≤ c0 := by omega
      have h10d : 10 ≤ c0 := by omega
      go_wp2_with fail
      go_meet
      exact ⟨_, 10, _, ps0.take 10, rfl, HTK.out 10 (by omega), by rw [List.length_take, HN0.out]; omega, Nat.le_refl _, by omega, rfl⟩
  case rest =>
    obtain ⟨A, n, c, ps, rfl, hv, hn, hn10, hnc, rfl⟩ := hcut
    have HL := hid (lay_fits (.slice A n c) ps how w h W hv (by omega))
    obtain ⟨A', c', hve, _, hl⟩ := hv
    rw [hn] at hve
    cases hve
    have HLL := hid hl
    have HN := hid hn
    clear hl hn HTK HV0 HN0 hcc hn0
    go_upto_region 3 with ((with_reducible refine HL.out.mono ?_); rintro e w1 ⟨hb1, t, kA, kn, kc, err, rfl, ht, hcase⟩)
    have HB1 := hid (hb1.alloc hb1.size (.cells #[.int .i64 t.kind, .int .i64 t.pane, .int .i64 t.size, .slice kA kn kc] 24))
    have HT1 := hid (ht.below (below_alloc w1 (.cells #[.int .i64 t.kind, .int .i64 t.pane, .int .i64 t.size, .slice kA kn kc] 24)))
    have hx1 := Box.new w1 24 #[.int .i64 t.kind, .int .i64 t.pane, .int .i64 t.size, .slice kA kn kc]
    obtain ⟨T9, hT9⟩ : ∃ T9, w1.heap.size = T9 := ⟨_, rfl⟩
    obtain ⟨X, hXe⟩ : ∃ X, w1.alloc (.cells #[.int .i64 t.kind, .int .i64 t.pane, .int .i64 t.size, .slice kA kn kc] 24) = X := ⟨_, rfl⟩
    rw [hXe] at HB1 HT1 hx1 ⊢
    rw [hT9] at hx1 ⊢
    have HX1 := hid hx1
    clear hb1 ht hx1 hT9 hXe HL
    rcases hcase with rfl | ⟨rfl, hsm⟩ | ⟨rfl, hF⟩
    · go_wp2_with ((with_reducible refine (HA.out _).mono ?_); rintro e w2 ⟨rfl, hb2⟩)
      go_ret
      exact ⟨rfl, HB1.out.trans (hb2.mono HB1.out.size)⟩
    · by_cases hw : w < 15
      · have d1 : decide (w < 15) = true := decide_eq_true hw
        clear hsm hw
        go_wp2_with ((with_reducible refine (HA.out _).mono ?_); rintro e w2 ⟨rfl, hb2⟩)
        go_ret
        exact ⟨rfl, HB1.out.trans (hb2.mono HB1.out.size)⟩
      · have d1 : decide (w < 15) = false := decide_eq_false hw
        have d2 : decide (h < 15) = true := decide_eq_true (hsm.resolve_left hw)
        clear hsm hw
        go_wp2_with ((with_reducible refine (HA.out _).mono ?_); rintro e w2 ⟨rfl, hb2⟩)
        go_ret
        exact ⟨rfl, HB1.out.trans (hb2.mono HB1.out.size)⟩
    · have HF := hid hF
      obtain ⟨fc, fr, fl, f1, fa, ff⟩ := hF
      have HFA := hid fa
      have HFF := hid ff
      have hRC := fun (Y : World) (hb : Below X.heap.size X Y) => rectsP_any t kA kn kc _ _ _ w h Y rfl rfl rfl (HT1.out.below hb) fc
      have hRT := fun (Y : World) (hb : Below X.heap.size X Y) => right_any t (.slice kA kn kc) w h Y (HT1.out.below hb) fc
      rw [fr] at hRT
      have HRC := hid hRC
      have HRT := hid hRT
      obtain ⟨⟨k0, k1, k2, k3⟩, _⟩ := HX1.out.four
      have hl9 := HX1.out.lt
      obtain ⟨tk, htk⟩ : ∃ tk, t.kind = tk := ⟨_, rfl⟩
      obtain ⟨tp, htp⟩ : ∃ tp, t.pane = tp := ⟨_, rfl⟩
      obtain ⟨ts, hts⟩ : ∃ ts, t.size = ts := ⟨_, rfl⟩
      rw [htk] at k0 HRC HRT
      rw [htp] at k1 HRC HRT
      rw [hts] at k2 HRC HRT
      rw [htk, htp, hts] at HX1 ⊢
      rw [HN.out] at fl f1
      have hfr := hid fr
      clear fa ff hRC hRT htk htp hts fc fr
      go_upto_region 8 with (first | ((with_reducible refine (HRC.out _ (Below.refl _ _)).mono ?_); rintro e w2 ⟨hb2, hx⟩; obtain ⟨v2, base, rfl, hbs, ho⟩ : ∃ v2 base, e = .returned (.tuple #[v2, .int .i64 0]) ∧ X.heap.size ≤ base ∧ OwnQ w2 base v2 (rectsT t w h) := (by rcases hx with ⟨hno, _⟩ | ⟨_, v2, base, e, hb, ho⟩; (rw [hfr.out] at hno; cases hno); exact ⟨v2, base, e, hb, ho⟩); obtain ⟨gr, rc, hv2, hbg, hg, hrc, hcell⟩ := ho.row (by intro e; rw [e] at fl; simp at fl; omega); rw [fl] at hv2 hrc; subst hv2; obtain ⟨⟨j0, j1, j2, j3⟩, _⟩ := (HX1.out.below hb2 HX1.out.lt).four; have HB2 := hid hb2; have HCE := hid hcell; have hl92 := (HX1.out.below hb2 HX1.out.lt).lt; clear hx hcell ho) | ((with_reducible refine (HRT.out _ HB2.out).mono ?_); rintro e w3 ⟨rfl, hb3⟩) | ((with_reducible refine (HA.out _).mono ?_); rintro e w4 ⟨rfl, hb4⟩))
      have hb24 := hb3.trans (hb4.mono hb3.size)
      have HB4 := hid (HB2.out.trans (hb24.mono HB2.out.size))
      have HCE4 := hid (fun j q i u hj hu => (hb24.cell (p := ⟨gr, j * 5 + i, none⟩) hg).trans (HCE.out j q i u hj hu))
      have hg4 : gr < w4.heap.size := Nat.lt_of_lt_of_le hg hb24.size
      have HBW := hid (HB1.out.trans (HB4.out.mono HB1.out.size))
      clear hb2 hb3 hb4 hb24 HCE HB2 HRT HRC j0 j1 j2 j3 k0 k1 k2 k3 HA
      go_wp2_with fail
      go_loopw [72] (fun i wr => ∃ k : Nat, i = .int .i64 k ∧ k ≤ n ∧ Below w4.heap.size w4 wr) (fun i _ => n - (intOf i).toNat)
      case atStart => exact ⟨0, rfl, Nat.zero_le _, Below.refl _ _⟩
      case round =>
        obtain ⟨k, rfl, hkn, hbr⟩ := hrel
        by_cases hk : k < n
        · have hki : (k : Int) < n := by omega
          have hkl : k < (rectsT t w h).length := by omega
          obtain ⟨q, hq⟩ : ∃ q, (rectsT t w h)[k]? = some q := ⟨_, List.getElem?_eq_getElem hkl⟩
          obtain ⟨p, hp⟩ : ∃ p, ps[k]? = some p := ⟨_, List.getElem?_eq_getElem (by rw [HN.out]; exact hk)⟩
          obtain ⟨g, o, rfl, hgl, hcell⟩ := HLL.out (by intro e; have := HN.out; rw [e] at this; simp at this; omega)
          obtain ⟨b1, b2, b3⟩ := HFA.out k q p hq hp
          have q0 : wr.cell? ⟨gr, k * 5, none⟩ = some (.int .i64 q.pane) := (hbr.cell (p := ⟨gr, k * 5, none⟩) hg4).trans (HCE4.out k q 0 _ hq rfl)
          have q1 : wr.cell? ⟨gr, k * 5 + 1, none⟩ = some (.int .i64 q.x) := (hbr.cell (p := ⟨gr, k * 5 + 1, none⟩) hg4).trans (HCE4.out k q 1 _ hq rfl)
          have q2 : wr.cell? ⟨gr, k * 5 + 2, none⟩ = some (.int .i64 q.y) := (hbr.cell (p := ⟨gr, k * 5 + 2, none⟩) hg4).trans (HCE4.out k q 2 _ hq rfl)
          have q3 : wr.cell? ⟨gr, k * 5 + 3, none⟩ = some (.int .i64 q.w) := (hbr.cell (p := ⟨gr, k * 5 + 3, none⟩) hg4).trans (HCE4.out k q 3 _ hq rfl)
          have q4 : wr.cell? ⟨gr, k * 5 + 4, none⟩ = some (.int .i64 q.h) := (hbr.cell (p := ⟨gr, k * 5 + 4, none⟩) hg4).trans (HCE4.out k q 4 _ hq rfl)
          have hwx : Below w4.heap.size w4 wr := hbr
          have hbW : Below W.heap.size W wr := HBW.out.trans (hbr.mono HBW.out.size)
          obtain ⟨qp, qx, qy, qw, qh⟩ := q
          simp only at b1 b2 b3 q0 q1 q2 q3 q4
          subst b1
          have hpc0 := (hbW.cell (p := ⟨g, o + k, none⟩) hgl).trans (hcell k qp hp)
          have hgw : g < wr.heap.size := Nat.lt_of_lt_of_le hgl hbW.size
          obtain ⟨p, hpe⟩ : ∃ p, qp = p := ⟨_, rfl⟩
          subst hpe
          have HPC := hid ((show Below wr.heap.size wr (wr.alloc (.cells #[.int .i64 qp, .int .i64 qx, .int .i64 qy, .int .i64 qw, .int .i64 qh] 50)).drew from (below_alloc _ _).trans ((below_drew _ 1).mono (by rw [World.size_alloc]; omega))).cell (p := ⟨g, o + k, none⟩) hgw |>.trans hpc0)
          have HBXA := hid (Box.new wr 50 #[.int .i64 qp, .int .i64 qx, .int .i64 qy, .int .i64 qw, .int .i64 qh])
          have HBN := hid ((hbr.alloc hbr.size (.cells #[.int .i64 qp, .int .i64 qx, .int .i64 qy, .int .i64 qw, .int .i64 qh] 50)).trans ((below_drew _ 1).mono (by have := hbr.size; rw [World.size_alloc]; omega)))
          clear hq hp hcell hkl hbr hbW hpc0 hwx
          go_upto_region 11 with fail
          by_cases hw1 : how = 1
          · obtain ⟨rfl, rfl⟩ := b2 hw1
            subst hw1
            clear b3
            have hS0 : Box (wr.alloc (.cells #[.int .i64 qp, .int .i64 qx, .int .i64 0, .int .i64 qw, .int .i64 qh] 50)).drew wr.heap.size 50 #[.int .i64 qp, .int .i64 qx, .int .i64 0, .int .i64 qw, .int .i64 qh] ∧ (wr.alloc (.cells #[.int .i64 qp, .int .i64 qx, .int .i64 0, .int .i64 qw, .int .i64 qh] 50)).drew.cell? ⟨g, o + k, none⟩ = some (.int .i64 qp) := ⟨HBXA.out.drew, HPC.out⟩
            refine wp_region_S (fun _ w' => Box w' wr.heap.size 50 #[.int .i64 qp, .int .i64 qx, .int .i64 0, .int .i64 qw, .int .i64 qh] ∧ w'.cell? ⟨g, o + k, none⟩ = some (.int .i64 qp)) (by kernel_rfl) ?_
            refine takeC (i := 0) (v := ?v0x) 77 rfl rfl (by kernel_rfl) (by kernel_rfl) (by kernel_rfl) (by kernel_rfl) (fun _ _ _ h => h) (Or.inl ⟨by rfl, fun w' hw' => ?hy0x⟩) hS0 ?rest0x
            case hy0x => go_simp; try with_reducible rfl
            try simp only [Act.put, List.setIfInBounds_toArray, List.set_cons_zero, List.set_cons_succ]
            refine takeC (i := 1) (v := ?v1x) 78 rfl rfl (by kernel_rfl) (by kernel_rfl) (by kernel_rfl) (by kernel_rfl) (fun _ _ _ h => h) (Or.inl ⟨by rfl, fun w' hw' => ?hy1x⟩) hS0 ?rest1x
            case hy1x => obtain ⟨⟨r0, r1, r2, r3, r4⟩, _⟩ := hw'.1.five; go_simp; try with_reducible rfl
            try simp only [Act.put, List.setIfInBounds_toArray, List.set_cons_zero, List.set_cons_succ]
            refine takeC (i := 2) (v := ?v2x) 79 rfl rfl (by kernel_rfl) (by kernel_rfl) (by kernel_rfl) (by kernel_rfl) (fun _ _ _ h => h) (Or.inl ⟨by rfl, fun w' hw' => ?hy2x⟩) hS0 ?rest2x
            case hy2x => go_simp; try with_reducible rfl
            try simp only [Act.put, List.setIfInBounds_toArray, List.set_cons_zero, List.set_cons_succ]
            refine takeC (i := 3) (v := ?v3x) 80 rfl rfl (by kernel_rfl) (by kernel_rfl) (by kernel_rfl) (by kernel_rfl) (fun _ _ _ h => h) (Or.inl ⟨by rfl, fun w' hw' => ?hy3x⟩) hS0 ?rest3x
            case hy3x => go_simp; try with_reducible rfl
            try simp only [Act.put, List.setIfInBounds_toArray, List.set_cons_zero, List.set_cons_succ]
            refine takeC (i := 4) (v := ?v4x) 81 rfl rfl (by kernel_rfl) (by kernel_rfl) (by kernel_rfl) (by kernel_rfl) (fun _ _ _ h => h) (Or.inl ⟨by rfl, fun w' hw' => ?hy4x⟩) hS0 ?rest4x
            case hy4x => go_simp; try with_reducible rfl
            try simp only [Act.put, List.setIfInBounds_toArray, List.set_cons_zero, List.set_cons_succ]
            refine takeC (i := 5) (v := ?v5x) 82 rfl rfl (by kernel_rfl) (by kernel_rfl) (by kernel_rfl) (by kernel_rfl) (fun _ _ _ h => h) (Or.inl ⟨by rfl, fun w' hw' => ?hy5x⟩) hS0 ?rest5x
            case hy5x => have r5 := hw'.2; go_simp; try with_reducible rfl
            try simp only [Act.put, List.setIfInBounds_toArray, List.set_cons_zero, List.set_cons_succ]
            refine takeC (i := 6) (v := ?v6x) 83 rfl rfl (by kernel_rfl) (by kernel_rfl) (by kernel_rfl) (by kernel_rfl) (fun _ _ _ h => h) (Or.inl ⟨by rfl, fun w' hw' => ?hy6x⟩) hS0 ?rest6x
            case hy6x => go_simp; try with_reducible rfl
            try simp only [Act.put, List.setIfInBounds_toArray, List.set_cons_zero, List.set_cons_succ]
            refine takeC (i := 7) (v := ?v7x) 84 rfl rfl (by kernel_rfl) (by kernel_rfl) (by kernel_rfl) (by kernel_rfl) (fun _ _ _ h => h) (Or.inl ⟨by rfl, fun w' hw' => ?hy7x⟩) hS0 ?rest7x
            case hy7x => go_simp; try with_reducible rfl
            try simp only [Act.put, List.setIfInBounds_toArray, List.set_cons_zero, List.set_cons_succ]
            refine takeC (i := 8) (v := ?v8x) 85 rfl rfl (by kernel_rfl) (by kernel_rfl) (by kernel_rfl) (by kernel_rfl) (fun _ _ _ h => h) (Or.inl ⟨by rfl, fun w' hw' => ?hy8x⟩) hS0 ?rest8x
            case hy8x => go_simp; try with_reducible rfl
            try simp only [Act.put, List.setIfInBounds_toArray, List.set_cons_zero, List.set_cons_succ]
            refine takeC (i := 9) (v := ?v9x) 86 rfl rfl (by kernel_rfl) (by kernel_rfl) (by kernel_rfl) (by kernel_rfl) (fun _ _ _ h => h) (Or.inl ⟨by rfl, fun w' hw' => ?hy9x⟩) hS0 ?rest9x
            case hy9x => go_simp; try with_reducible rfl
            try simp only [Act.put, List.setIfInBounds_toArray, List.set_cons_zero, List.set_cons_succ]
            refine takeC (i := 10) (v := ?v10x) 87 rfl rfl (by kernel_rfl) (by kernel_rfl) (by kernel_rfl) (by kernel_rfl) (fun _ _ _ h => h) (Or.inl ⟨by rfl, fun w' hw' => ?hy10x⟩) hS0 ?rest10x
            case hy10x => go_simp; try with_reducible rfl
            try simp only [Act.put, List.setIfInBounds_toArray, List.set_cons_zero, List.set_cons_succ]
            refine takeC (i := 11) (v := ?v11x) 88 rfl rfl (by kernel_rfl) (by kernel_rfl) (by kernel_rfl) (by kernel_rfl) (fun _ _ _ h => h) (Or.inl ⟨by rfl, fun w' hw' => ?hy11x⟩) hS0 ?rest11x
            case hy11x => go_simp; try with_reducible rfl
            try simp only [Act.put, List.setIfInBounds_toArray, List.set_cons_zero, List.set_cons_succ]
            refine takeC (i := 12) (v := ?v12x) 89 rfl rfl (by kernel_rfl) (by kernel_rfl) (by kernel_rfl) (by kernel_rfl) (fun _ _ _ h => h) (Or.inl ⟨by rfl, fun w' hw' => ?hy12x⟩) hS0 ?rest12x
            case hy12x => obtain ⟨⟨r0, r1, r2, r3, r4⟩, _⟩ := hw'.1.five; go_simp; try with_reducible rfl
            try simp only [Act.put, List.setIfInBounds_toArray, List.set_cons_zero, List.set_cons_succ]
            refine takeC (i := 13) (v := ?v13x) 90 rfl rfl (by kernel_rfl) (by kernel_rfl) (by kernel_rfl) (by kernel_rfl) (fun _ _ _ h => h) (Or.inl ⟨by rfl, fun w' hw' => ?hy13x⟩) hS0 ?rest13x
            case hy13x => go_simp; try with_reducible rfl
            try simp only [Act.put, List.setIfInBounds_toArray, List.set_cons_zero, List.set_cons_succ]
            refine takeC (i := 14) (v := ?v14x) 91 rfl rfl (by kernel_rfl) (by kernel_rfl) (by kernel_rfl) (by kernel_rfl) (fun _ _ _ h => h) (Or.inl ⟨by rfl, fun w' hw' => ?hy14x⟩) hS0 ?rest14x
            case hy14x => go_simp; try with_reducible rfl
            try simp only [Act.put, List.setIfInBounds_toArray, List.set_cons_zero, List.set_cons_succ]
            refine takeC (i := 15) (v := ?v15x) 92 rfl rfl (by kernel_rfl) (by kernel_rfl) (by kernel_rfl) (by kernel_rfl) (fun _ _ _ h => h) (Or.inl ⟨by rfl, fun w' hw' => ?hy15x⟩) hS0 ?rest15x
            case hy15x => go_simp; try with_reducible rfl
            try simp only [Act.put, List.setIfInBounds_toArray, List.set_cons_zero, List.set_cons_succ]
            refine takeC (i := 16) (v := ?v16x) 93 rfl rfl (by kernel_rfl) (by kernel_rfl) (by kernel_rfl) (by kernel_rfl) (fun _ _ _ h => h) (Or.inl ⟨by rfl, fun w' hw' => ?hy16x⟩) hS0 ?rest16x
            case hy16x => go_simp; try with_reducible rfl
            try simp only [Act.put, List.setIfInBounds_toArray, List.set_cons_zero, List.set_cons_succ]
            refine takeC (i := 17) (v := ?v17x) 94 rfl rfl (by kernel_rfl) (by kernel_rfl) (by kernel_rfl) (by kernel_rfl) (fun _ _ _ h => h) (Or.inl ⟨by rfl, fun w' hw' => ?hy17x⟩) hS0 ?rest17x
            case hy17x => obtain ⟨⟨r0, r1, r2, r3, r4⟩, _⟩ := hw'.1.five; go_simp; try with_reducible rfl
            try simp only [Act.put, List.setIfInBounds_toArray, List.set_cons_zero, List.set_cons_succ]
            refine takeC (i := 18) (v := ?v18x) 95 rfl rfl (by kernel_rfl) (by kernel_rfl) (by kernel_rfl) (by kernel_rfl) (fun _ _ _ h => h) (Or.inl ⟨by rfl, fun w' hw' => ?hy18x⟩) hS0 ?rest18x
            case hy18x => go_simp; try with_reducible rfl
            try simp only [Act.put, List.setIfInBounds_toArray, List.set_cons_zero, List.set_cons_succ]
            refine takeC (i := 19) (v := ?v19x) 96 rfl rfl (by kernel_rfl) (by kernel_rfl) (by kernel_rfl) (by kernel_rfl) (fun _ _ _ h => h) (Or.inl ⟨by rfl, fun w' hw' => ?hy19x⟩) hS0 ?rest19x
            case hy19x => go_simp; try with_reducible rfl
            try simp only [Act.put, List.setIfInBounds_toArray, List.set_cons_zero, List.set_cons_succ]
            refine takeC (i := 20) (v := ?v20x) 97 rfl rfl (by kernel_rfl) (by kernel_rfl) (by kernel_rfl) (by kernel_rfl) (fun _ _ _ h => h) (Or.inl ⟨by rfl, fun w' hw' => ?hy20x⟩) hS0 ?rest20x
            case hy20x => go_simp; try with_reducible rfl
            try simp only [Act.put, List.setIfInBounds_toArray, List.set_cons_zero, List.set_cons_succ]
            refine takeC (i := 21) (v := ?v21x) 98 rfl rfl (by kernel_rfl) (by kernel_rfl) (by kernel_rfl) (by kernel_rfl) (fun _ _ _ h => h) (Or.inl ⟨by rfl, fun w' hw' => ?hy21x⟩) hS0 ?rest21x
            case hy21x => go_simp; try with_reducible rfl
            try simp only [Act.put, List.setIfInBounds_toArray, List.set_cons_zero, List.set_cons_succ]
            refine takeC (i := 22) (v := ?v22x) 99 rfl rfl (by kernel_rfl) (by kernel_rfl) (by kernel_rfl) (by kernel_rfl) (fun _ _ _ h => h) (Or.inl ⟨by rfl, fun w' hw' => ?hy22x⟩) hS0 ?rest22x
            case hy22x => go_simp; try with_reducible rfl
            try simp only [Act.put, List.setIfInBounds_toArray, List.set_cons_zero, List.set_cons_succ]
            refine takeC (i := 23) (v := ?v23x) 100 rfl rfl (by kernel_rfl) (by kernel_rfl) (by kernel_rfl) (by kernel_rfl) (fun _ _ _ h => h) (Or.inl ⟨by rfl, fun w' hw' => ?hy23x⟩) hS0 ?rest23x
            case hy23x => go_simp; try with_reducible rfl
            try simp only [Act.put, List.setIfInBounds_toArray, List.set_cons_zero, List.set_cons_succ]
            refine takeC (i := 24) (v := ?v24x) 101 rfl rfl (by kernel_rfl) (by kernel_rfl) (by kernel_rfl) (by kernel_rfl) (fun _ _ _ h => h) (Or.inl ⟨by rfl, fun w' hw' => ?hy24x⟩) hS0 ?rest24x
            case hy24x => go_simp; try with_reducible rfl
            try simp only [Act.put, List.setIfInBounds_toArray, List.set_cons_zero, List.set_cons_succ]
            refine takeC (i := 25) (v := ?v25x) 102 rfl rfl (by kernel_rfl) (by kernel_rfl) (by kernel_rfl) (by kernel_rfl) (fun _ _ _ h => h) (Or.inl ⟨by rfl, fun w' hw' => ?hy25x⟩) hS0 ?rest25x
            case hy25x => go_simp; try with_reducible rfl
            try simp only [Act.put, List.setIfInBounds_toArray, List.set_cons_zero, List.set_cons_succ]
            refine takeC (i := 26) (v := undef) 103 rfl rfl (by kernel_rfl) (by kernel_rfl) (by kernel_rfl) (by kernel_rfl) (fun _ _ _ h => h) (Or.inr ⟨by rfl, by rfl⟩) hS0 ?_
            try simp only [Act.put, List.setIfInBounds_toArray, List.set_cons_zero, List.set_cons_succ]
            refine takeC (i := 27) (v := undef) 104 rfl rfl (by kernel_rfl) (by kernel_rfl) (by kernel_rfl) (by kernel_rfl) (fun _ _ _ h => h) (Or.inr ⟨by rfl, by rfl⟩) hS0 ?_
            try simp only [Act.put, List.setIfInBounds_toArray, List.set_cons_zero, List.set_cons_succ]
            refine takeC (i := 28) (v := undef) 105 rfl rfl (by kernel_rfl) (by kernel_rfl) (by kernel_rfl) (by kernel_rfl) (fun _ _ _ h => h) (Or.inr ⟨by rfl, by rfl⟩) hS0 ?_
            try simp only [Act.put, List.setIfInBounds_toArray, List.set_cons_zero, List.set_cons_succ]
            refine takeC (i := 29) (v := undef) 106 rfl rfl (by kernel_rfl) (by kernel_rfl) (by kernel_rfl) (by kernel_rfl) (fun _ _ _ h => h) (Or.inr ⟨by rfl, by rfl⟩) hS0 ?_
            try simp only [Act.put, List.setIfInBounds_toArray, List.set_cons_zero, List.set_cons_succ]
            refine takeC (i := 30) (v := undef) 107 rfl rfl (by kernel_rfl) (by kernel_rfl) (by kernel_rfl) (by kernel_rfl) (fun _ _ _ h => h) (Or.inr ⟨by rfl, by rfl⟩) hS0 ?_
            try simp only [Act.put, List.setIfInBounds_toArray, List.set_cons_zero, List.set_cons_succ]
            refine takeC (i := 31) (v := undef) 108 rfl rfl (by kernel_rfl) (by kernel_rfl) (by kernel_rfl) (by kernel_rfl) (fun _ _ _ h => h) (Or.inr ⟨by rfl, by rfl⟩) hS0 ?_
            try simp only [Act.put, List.setIfInBounds_toArray, List.set_cons_zero, List.set_cons_succ]
            refine takeC (i := 32) (v := undef) 109 rfl rfl (by kernel_rfl) (by kernel_rfl) (by kernel_rfl) (by kernel_rfl) (fun _ _ _ h => h) (Or.inr ⟨by rfl, by rfl⟩) hS0 ?_
            try simp only [Act.put, List.setIfInBounds_toArray, List.set_cons_zero, List.set_cons_succ]
            refine takeC (i := 33) (v := undef) 110 rfl rfl (by kernel_rfl) (by kernel_rfl) (by kernel_rfl) (by kernel_rfl) (fun _ _ _ h => h) (Or.inr ⟨by rfl, by rfl⟩) hS0 ?_
            try simp only [Act.put, List.setIfInBounds_toArray, List.set_cons_zero, List.set_cons_succ]
            refine takeC (i := 34) (v := undef) 111 rfl rfl (by kernel_rfl) (by kernel_rfl) (by kernel_rfl) (by kernel_rfl) (fun _ _ _ h => h) (Or.inr ⟨by rfl, by rfl⟩) hS0 ?_
            try simp only [Act.put, List.setIfInBounds_toArray, List.set_cons_zero, List.set_cons_succ]
            refine takeC (i := 35) (v := ?v35x) 112 rfl rfl (by kernel_rfl) (by kernel_rfl) (by kernel_rfl) (by kernel_rfl) (fun _ _ _ h => h) (Or.inl ⟨by rfl, fun w' hw' => ?hy35x⟩) hS0 ?rest35x
            case hy35x => go_simp; try with_reducible rfl
            try simp only [Act.put, List.setIfInBounds_toArray, List.set_cons_zero, List.set_cons_succ]
            refine takeC (i := 36) (v := ?v36x) 113 rfl rfl (by kernel_rfl) (by kernel_rfl) (by kernel_rfl) (by kernel_rfl) (fun _ _ _ h => h) (Or.inl ⟨by rfl, fun w' hw' => ?hy36x⟩) hS0 ?rest36x
            case hy36x => go_simp; try with_reducible rfl
            try simp only [Act.put, List.setIfInBounds_toArray, List.set_cons_zero, List.set_cons_succ]
            refine doneS (by kernel_rfl) ?_ _
            go_wp2
            go_roundw
            case rel => exact ⟨k + 1, by go_num, by omega, HBN.out⟩
            case measure => simp [intOf]; omega
          · by_cases hw2 : how = 2
            · obtain ⟨rfl, rfl⟩ := b3 hw2
              subst hw2
              clear b2
              have hS0 : Box (wr.alloc (.cells #[.int .i64 qp, .int .i64 0, .int .i64 qy, .int .i64 qw, .int .i64 qh] 50)).drew wr.heap.size 50 #[.int .i64 qp, .int .i64 0, .int .i64 qy, .int .i64 qw, .int .i64 qh] ∧ (wr.alloc (.cells #[.int .i64 qp, .int .i64 0, .int .i64 qy, .int .i64 qw, .int .i64 qh] 50)).drew.cell? ⟨g, o + k, none⟩ = some (.int .i64 qp) := ⟨HBXA.out.drew, HPC.out⟩
              refine wp_region_S (fun _ w' => Box w' wr.heap.size 50 #[.int .i64 qp, .int .i64 0, .int .i64 qy, .int .i64 qw, .int .i64 qh] ∧ w'.cell? ⟨g, o + k, none⟩ = some (.int .i64 qp)) (by kernel_rfl) ?_
              refine takeC (i := 0) (v := ?v0y) 77 rfl rfl (by kernel_rfl) (by kernel_rfl) (by kernel_rfl) (by kernel_rfl) (fun _ _ _ h => h) (Or.inl ⟨by rfl, fun w' hw' => ?hy0y⟩) hS0 ?rest0y
              case hy0y => go_simp; try with_reducible rfl
              try simp only [Act.put, List.setIfInBounds_toArray, List.set_cons_zero, List.set_cons_succ]
              refine takeC (i := 1) (v := ?v1y) 78 rfl rfl (by kernel_rfl) (by kernel_rfl) (by kernel_rfl) (by kernel_rfl) (fun _ _ _ h => h) (Or.inl ⟨by rfl, fun w' hw' => ?hy1y⟩) hS0 ?rest1y
              case hy1y => obtain ⟨⟨r0, r1, r2, r3, r4⟩, _⟩ := hw'.1.five; go_simp; try with_reducible rfl
              try simp only [Act.put, List.setIfInBounds_toArray, List.set_cons_zero, List.set_cons_succ]
              refine takeC (i := 2) (v := ?v2y) 79 rfl rfl (by kernel_rfl) (by kernel_rfl) (by kernel_rfl) (by kernel_rfl) (fun _ _ _ h => h) (Or.inl ⟨by rfl, fun w' hw' => ?hy2y⟩) hS0 ?rest2y
              case hy2y => go_simp; try with_reducible rfl
              try simp only [Act.put, List.setIfInBounds_toArray, List.set_cons_zero, List.set_cons_succ]
              refine takeC (i := 3) (v := ?v3y) 80 rfl rfl (by kernel_rfl) (by kernel_rfl) (by kernel_rfl) (by kernel_rfl) (fun _ _ _ h => h) (Or.inl ⟨by rfl, fun w' hw' => ?hy3y⟩) hS0 ?rest3y
              case hy3y => go_simp; try with_reducible rfl
              try simp only [Act.put, List.setIfInBounds_toArray, List.set_cons_zero, List.set_cons_succ]
              refine takeC (i := 4) (v := ?v4y) 81 rfl rfl (by kernel_rfl) (by kernel_rfl) (by kernel_rfl) (by kernel_rfl) (fun _ _ _ h => h) (Or.inl ⟨by rfl, fun w' hw' => ?hy4y⟩) hS0 ?rest4y
              case hy4y => go_simp; try with_reducible rfl
              try simp only [Act.put, List.setIfInBounds_toArray, List.set_cons_zero, List.set_cons_succ]
              refine takeC (i := 5) (v := ?v5y) 82 rfl rfl (by kernel_rfl) (by kernel_rfl) (by kernel_rfl) (by kernel_rfl) (fun _ _ _ h => h) (Or.inl ⟨by rfl, fun w' hw' => ?hy5y⟩) hS0 ?rest5y
              case hy5y => have r5 := hw'.2; go_simp; try with_reducible rfl
              try simp only [Act.put, List.setIfInBounds_toArray, List.set_cons_zero, List.set_cons_succ]
              refine takeC (i := 6) (v := ?v6y) 83 rfl rfl (by kernel_rfl) (by kernel_rfl) (by kernel_rfl) (by kernel_rfl) (fun _ _ _ h => h) (Or.inl ⟨by rfl, fun w' hw' => ?hy6y⟩) hS0 ?rest6y
              case hy6y => go_simp; try with_reducible rfl
              try simp only [Act.put, List.setIfInBounds_toArray, List.set_cons_zero, List.set_cons_succ]
              refine takeC (i := 7) (v := ?v7y) 84 rfl rfl (by kernel_rfl) (by kernel_rfl) (by kernel_rfl) (by kernel_rfl) (fun _ _ _ h => h) (Or.inl ⟨by rfl, fun w' hw' => ?hy7y⟩) hS0 ?rest7y
              case hy7y => go_simp; try with_reducible rfl
              try simp only [Act.put, List.setIfInBounds_toArray, List.set_cons_zero, List.set_cons_succ]
              refine takeC (i := 8) (v := ?v8y) 85 rfl rfl (by kernel_rfl) (by kernel_rfl) (by kernel_rfl) (by kernel_rfl) (fun _ _ _ h => h) (Or.inl ⟨by rfl, fun w' hw' => ?hy8y⟩) hS0 ?rest8y
              case hy8y => go_simp; try with_reducible rfl
              try simp only [Act.put, List.setIfInBounds_toArray, List.set_cons_zero, List.set_cons_succ]
              refine takeC (i := 9) (v := ?v9y) 86 rfl rfl (by kernel_rfl) (by kernel_rfl) (by kernel_rfl) (by kernel_rfl) (fun _ _ _ h => h) (Or.inl ⟨by rfl, fun w' hw' => ?hy9y⟩) hS0 ?rest9y
              case hy9y => go_simp; try with_reducible rfl
              try simp only [Act.put, List.setIfInBounds_toArray, List.set_cons_zero, List.set_cons_succ]
              refine takeC (i := 10) (v := ?v10y) 87 rfl rfl (by kernel_rfl) (by kernel_rfl) (by kernel_rfl) (by kernel_rfl) (fun _ _ _ h => h) (Or.inl ⟨by rfl, fun w' hw' => ?hy10y⟩) hS0 ?rest10y
              case hy10y => go_simp; try with_reducible rfl
              try simp only [Act.put, List.setIfInBounds_toArray, List.set_cons_zero, List.set_cons_succ]
              refine takeC (i := 11) (v := undef) 88 rfl rfl (by kernel_rfl) (by kernel_rfl) (by kernel_rfl) (by kernel_rfl) (fun _ _ _ h => h) (Or.inr ⟨by rfl, by rfl⟩) hS0 ?_
              try simp only [Act.put, List.setIfInBounds_toArray, List.set_cons_zero, List.set_cons_succ]
              refine takeC (i := 12) (v := undef) 89 rfl rfl (by kernel_rfl) (by kernel_rfl) (by kernel_rfl) (by kernel_rfl) (fun _ _ _ h => h) (Or.inr ⟨by rfl, by rfl⟩) hS0 ?_
              try simp only [Act.put, List.setIfInBounds_toArray, List.set_cons_zero, List.set_cons_succ]
              refine takeC (i := 13) (v := undef) 90 rfl rfl (by kernel_rfl) (by kernel_rfl) (by kernel_rfl) (by kernel_rfl) (fun _ _ _ h => h) (Or.inr ⟨by rfl, by rfl⟩) hS0 ?_
              try simp only [Act.put, List.setIfInBounds_toArray, List.set_cons_zero, List.set_cons_succ]
              refine takeC (i := 14) (v := undef) 91 rfl rfl (by kernel_rfl) (by kernel_rfl) (by kernel_rfl) (by kernel_rfl) (fun _ _ _ h => h) (Or.inr ⟨by rfl, by rfl⟩) hS0 ?_
              try simp only [Act.put, List.setIfInBounds_toArray, List.set_cons_zero, List.set_cons_succ]
              refine takeC (i := 15) (v := undef) 92 rfl rfl (by kernel_rfl) (by kernel_rfl) (by kernel_rfl) (by kernel_rfl) (fun _ _ _ h => h) (Or.inr ⟨by rfl, by rfl⟩) hS0 ?_
              try simp only [Act.put, List.setIfInBounds_toArray, List.set_cons_zero, List.set_cons_succ]
              refine takeC (i := 16) (v := undef) 93 rfl rfl (by kernel_rfl) (by kernel_rfl) (by kernel_rfl) (by kernel_rfl) (fun _ _ _ h => h) (Or.inr ⟨by rfl, by rfl⟩) hS0 ?_
              try simp only [Act.put, List.setIfInBounds_toArray, List.set_cons_zero, List.set_cons_succ]
              refine takeC (i := 17) (v := undef) 94 rfl rfl (by kernel_rfl) (by kernel_rfl) (by kernel_rfl) (by kernel_rfl) (fun _ _ _ h => h) (Or.inr ⟨by rfl, by rfl⟩) hS0 ?_
              try simp only [Act.put, List.setIfInBounds_toArray, List.set_cons_zero, List.set_cons_succ]
              refine takeC (i := 18) (v := undef) 95 rfl rfl (by kernel_rfl) (by kernel_rfl) (by kernel_rfl) (by kernel_rfl) (fun _ _ _ h => h) (Or.inr ⟨by rfl, by rfl⟩) hS0 ?_
              try simp only [Act.put, List.setIfInBounds_toArray, List.set_cons_zero, List.set_cons_succ]
              refine takeC (i := 19) (v := undef) 96 rfl rfl (by kernel_rfl) (by kernel_rfl) (by kernel_rfl) (by kernel_rfl) (fun _ _ _ h => h) (Or.inr ⟨by rfl, by rfl⟩) hS0 ?_
              try simp only [Act.put, List.setIfInBounds_toArray, List.set_cons_zero, List.set_cons_succ]
              refine takeC (i := 20) (v := ?v20y) 97 rfl rfl (by kernel_rfl) (by kernel_rfl) (by kernel_rfl) (by kernel_rfl) (fun _ _ _ h => h) (Or.inl ⟨by rfl, fun w' hw' => ?hy20y⟩) hS0 ?rest20y
              case hy20y => go_simp; try with_reducible rfl
              try simp only [Act.put, List.setIfInBounds_toArray, List.set_cons_zero, List.set_cons_succ]
              refine takeC (i := 21) (v := ?v21y) 98 rfl rfl (by kernel_rfl) (by kernel_rfl) (by kernel_rfl) (by kernel_rfl) (fun _ _ _ h => h) (Or.inl ⟨by rfl, fun w' hw' => ?hy21y⟩) hS0 ?rest21y
              case hy21y => go_simp; try with_reducible rfl
              try simp only [Act.put, List.setIfInBounds_toArray, List.set_cons_zero, List.set_cons_succ]
              refine takeC (i := 22) (v := ?v22y) 99 rfl rfl (by kernel_rfl) (by kernel_rfl) (by kernel_rfl) (by kernel_rfl) (fun _ _ _ h => h) (Or.inl ⟨by rfl, fun w' hw' => ?hy22y⟩) hS0 ?rest22y
              case hy22y => go_simp; try with_reducible rfl
              try simp only [Act.put, List.setIfInBounds_toArray, List.set_cons_zero, List.set_cons_succ]
              refine takeC (i := 23) (v := ?v23y) 100 rfl rfl (by kernel_rfl) (by kernel_rfl) (by kernel_rfl) (by kernel_rfl) (fun _ _ _ h => h) (Or.inl ⟨by rfl, fun w' hw' => ?hy23y⟩) hS0 ?rest23y
              case hy23y => go_simp; try with_reducible rfl
              try simp only [Act.put, List.setIfInBounds_toArray, List.set_cons_zero, List.set_cons_succ]
              refine takeC (i := 24) (v := ?v24y) 101 rfl rfl (by kernel_rfl) (by kernel_rfl) (by kernel_rfl) (by kernel_rfl) (fun _ _ _ h => h) (Or.inl ⟨by rfl, fun w' hw' => ?hy24y⟩) hS0 ?rest24y
              case hy24y => go_simp; try with_reducible rfl
              try simp only [Act.put, List.setIfInBounds_toArray, List.set_cons_zero, List.set_cons_succ]
              refine takeC (i := 25) (v := ?v25y) 102 rfl rfl (by kernel_rfl) (by kernel_rfl) (by kernel_rfl) (by kernel_rfl) (fun _ _ _ h => h) (Or.inl ⟨by rfl, fun w' hw' => ?hy25y⟩) hS0 ?rest25y
              case hy25y => go_simp; try with_reducible rfl
              try simp only [Act.put, List.setIfInBounds_toArray, List.set_cons_zero, List.set_cons_succ]
              refine takeC (i := 26) (v := ?v26y) 103 rfl rfl (by kernel_rfl) (by kernel_rfl) (by kernel_rfl) (by kernel_rfl) (fun _ _ _ h => h) (Or.inl ⟨by rfl, fun w' hw' => ?hy26y⟩) hS0 ?rest26y
              case hy26y => go_simp; try with_reducible rfl
              try simp only [Act.put, List.setIfInBounds_toArray, List.set_cons_zero, List.set_cons_succ]
              refine takeC (i := 27) (v := ?v27y) 104 rfl rfl (by kernel_rfl) (by kernel_rfl) (by kernel_rfl) (by kernel_rfl) (fun _ _ _ h => h) (Or.inl ⟨by rfl, fun w' hw' => ?hy27y⟩) hS0 ?rest27y
              case hy27y => obtain ⟨⟨r0, r1, r2, r3, r4⟩, _⟩ := hw'.1.five; go_simp; try with_reducible rfl
              try simp only [Act.put, List.setIfInBounds_toArray, List.set_cons_zero, List.set_cons_succ]
              refine takeC (i := 28) (v := ?v28y) 105 rfl rfl (by kernel_rfl) (by kernel_rfl) (by kernel_rfl) (by kernel_rfl) (fun _ _ _ h => h) (Or.inl ⟨by rfl, fun w' hw' => ?hy28y⟩) hS0 ?rest28y
              case hy28y => go_simp; try with_reducible rfl
              try simp only [Act.put, List.setIfInBounds_toArray, List.set_cons_zero, List.set_cons_succ]
              refine takeC (i := 29) (v := ?v29y) 106 rfl rfl (by kernel_rfl) (by kernel_rfl) (by kernel_rfl) (by kernel_rfl) (fun _ _ _ h => h) (Or.inl ⟨by rfl, fun w' hw' => ?hy29y⟩) hS0 ?rest29y
              case hy29y => go_simp; try with_reducible rfl
              try simp only [Act.put, List.setIfInBounds_toArray, List.set_cons_zero, List.set_cons_succ]
              refine takeC (i := 30) (v := ?v30y) 107 rfl rfl (by kernel_rfl) (by kernel_rfl) (by kernel_rfl) (by kernel_rfl) (fun _ _ _ h => h) (Or.inl ⟨by rfl, fun w' hw' => ?hy30y⟩) hS0 ?rest30y
              case hy30y => go_simp; try with_reducible rfl
              try simp only [Act.put, List.setIfInBounds_toArray, List.set_cons_zero, List.set_cons_succ]
              refine takeC (i := 31) (v := ?v31y) 108 rfl rfl (by kernel_rfl) (by kernel_rfl) (by kernel_rfl) (by kernel_rfl) (fun _ _ _ h => h) (Or.inl ⟨by rfl, fun w' hw' => ?hy31y⟩) hS0 ?rest31y
              case hy31y => go_simp; try with_reducible rfl
              try simp only [Act.put, List.setIfInBounds_toArray, List.set_cons_zero, List.set_cons_succ]
              refine takeC (i := 32) (v := ?v32y) 109 rfl rfl (by kernel_rfl) (by kernel_rfl) (by kernel_rfl) (by kernel_rfl) (fun _ _ _ h => h) (Or.inl ⟨by rfl, fun w' hw' => ?hy32y⟩) hS0 ?rest32y
              case hy32y => obtain ⟨⟨r0, r1, r2, r3, r4⟩, _⟩ := hw'.1.five; go_simp; try with_reducible rfl
              try simp only [Act.put, List.setIfInBounds_toArray, List.set_cons_zero, List.set_cons_succ]
              refine takeC (i := 33) (v := ?v33y) 110 rfl rfl (by kernel_rfl) (by kernel_rfl) (by kernel_rfl) (by kernel_rfl) (fun _ _ _ h => h) (Or.inl ⟨by rfl, fun w' hw' => ?hy33y⟩) hS0 ?rest33y
              case hy33y => go_simp; try with_reducible rfl
              try simp only [Act.put, List.setIfInBounds_toArray, List.set_cons_zero, List.set_cons_succ]
              refine takeC (i := 34) (v := ?v34y) 111 rfl rfl (by kernel_rfl) (by kernel_rfl) (by kernel_rfl) (by kernel_rfl) (fun _ _ _ h => h) (Or.inl ⟨by rfl, fun w' hw' => ?hy34y⟩) hS0 ?rest34y
              case hy34y => go_simp; try with_reducible rfl
              try simp only [Act.put, List.setIfInBounds_toArray, List.set_cons_zero, List.set_cons_succ]
              refine takeC (i := 35) (v := ?v35y) 112 rfl rfl (by kernel_rfl) (by kernel_rfl) (by kernel_rfl) (by kernel_rfl) (fun _ _ _ h => h) (Or.inl ⟨by rfl, fun w' hw' => ?hy35y⟩) hS0 ?rest35y
              case hy35y => go_simp; try with_reducible rfl
              try simp only [Act.put, List.setIfInBounds_toArray, List.set_cons_zero, List.set_cons_succ]
              refine takeC (i := 36) (v := ?v36y) 113 rfl rfl (by kernel_rfl) (by kernel_rfl) (by kernel_rfl) (by kernel_rfl) (fun _ _ _ h => h) (Or.inl ⟨by rfl, fun w' hw' => ?hy36y⟩) hS0 ?rest36y
              case hy36y => go_simp; try with_reducible rfl
              try simp only [Act.put, List.setIfInBounds_toArray, List.set_cons_zero, List.set_cons_succ]
              refine doneS (by kernel_rfl) ?_ _
              go_wp2
              go_roundw
              case rel => exact ⟨k + 1, by go_num, by omega, HBN.out⟩
              case measure => simp [intOf]; omega
            · have e1 : (how == 1) = false := by simp [hw1]
              have e2 : (how == 2) = false := by simp [hw2]
              clear b2 b3
              have hS0 : Box (wr.alloc (.cells #[.int .i64 qp, .int .i64 qx, .int .i64 qy, .int .i64 qw, .int .i64 qh] 50)).drew wr.heap.size 50 #[.int .i64 qp, .int .i64 qx, .int .i64 qy, .int .i64 qw, .int .i64 qh] ∧ (wr.alloc (.cells #[.int .i64 qp, .int .i64 qx, .int .i64 qy, .int .i64 qw, .int .i64 qh] 50)).drew.cell? ⟨g, o + k, none⟩ = some (.int .i64 qp) := ⟨HBXA.out.drew, HPC.out⟩
              refine wp_region_S (fun _ w' => Box w' wr.heap.size 50 #[.int .i64 qp, .int .i64 qx, .int .i64 qy, .int .i64 qw, .int .i64 qh] ∧ w'.cell? ⟨g, o + k, none⟩ = some (.int .i64 qp)) (by kernel_rfl) ?_
              refine takeC (i := 0) (v := ?v0z) 77 rfl rfl (by kernel_rfl) (by kernel_rfl) (by kernel_rfl) (by kernel_rfl) (fun _ _ _ h => h) (Or.inl ⟨by rfl, fun w' hw' => ?hy0z⟩) hS0 ?rest0z
              case hy0z => go_simp; try with_reducible rfl
              try simp only [Act.put, List.setIfInBounds_toArray, List.set_cons_zero, List.set_cons_succ]
              refine takeC (i := 1) (v := ?v1z) 78 rfl rfl (by kernel_rfl) (by kernel_rfl) (by kernel_rfl) (by kernel_rfl) (fun _ _ _ h => h) (Or.inl ⟨by rfl, fun w' hw' => ?hy1z⟩) hS0 ?rest1z
              case hy1z => obtain ⟨⟨r0, r1, r2, r3, r4⟩, _⟩ := hw'.1.five; go_simp; try with_reducible rfl
              try simp only [Act.put, List.setIfInBounds_toArray, List.set_cons_zero, List.set_cons_succ]
              refine takeC (i := 2) (v := ?v2z) 79 rfl rfl (by kernel_rfl) (by kernel_rfl) (by kernel_rfl) (by kernel_rfl) (fun _ _ _ h => h) (Or.inl ⟨by rfl, fun w' hw' => ?hy2z⟩) hS0 ?rest2z
              case hy2z => go_simp; try with_reducible rfl
              try simp only [Act.put, List.setIfInBounds_toArray, List.set_cons_zero, List.set_cons_succ]
              refine takeC (i := 3) (v := ?v3z) 80 rfl rfl (by kernel_rfl) (by kernel_rfl) (by kernel_rfl) (by kernel_rfl) (fun _ _ _ h => h) (Or.inl ⟨by rfl, fun w' hw' => ?hy3z⟩) hS0 ?rest3z
              case hy3z => go_simp; try with_reducible rfl
              try simp only [Act.put, List.setIfInBounds_toArray, List.set_cons_zero, List.set_cons_succ]
              refine takeC (i := 4) (v := ?v4z) 81 rfl rfl (by kernel_rfl) (by kernel_rfl) (by kernel_rfl) (by kernel_rfl) (fun _ _ _ h => h) (Or.inl ⟨by rfl, fun w' hw' => ?hy4z⟩) hS0 ?rest4z
              case hy4z => go_simp; try with_reducible rfl
              try simp only [Act.put, List.setIfInBounds_toArray, List.set_cons_zero, List.set_cons_succ]
              refine takeC (i := 5) (v := ?v5z) 82 rfl rfl (by kernel_rfl) (by kernel_rfl) (by kernel_rfl) (by kernel_rfl) (fun _ _ _ h => h) (Or.inl ⟨by rfl, fun w' hw' => ?hy5z⟩) hS0 ?rest5z
              case hy5z => have r5 := hw'.2; go_simp; try with_reducible rfl
              try simp only [Act.put, List.setIfInBounds_toArray, List.set_cons_zero, List.set_cons_succ]
              refine takeC (i := 6) (v := ?v6z) 83 rfl rfl (by kernel_rfl) (by kernel_rfl) (by kernel_rfl) (by kernel_rfl) (fun _ _ _ h => h) (Or.inl ⟨by rfl, fun w' hw' => ?hy6z⟩) hS0 ?rest6z
              case hy6z => go_simp; try with_reducible rfl
              try simp only [Act.put, List.setIfInBounds_toArray, List.set_cons_zero, List.set_cons_succ]
              refine takeC (i := 7) (v := ?v7z) 84 rfl rfl (by kernel_rfl) (by kernel_rfl) (by kernel_rfl) (by kernel_rfl) (fun _ _ _ h => h) (Or.inl ⟨by rfl, fun w' hw' => ?hy7z⟩) hS0 ?rest7z
              case hy7z => go_simp; try with_reducible rfl
              try simp only [Act.put, List.setIfInBounds_toArray, List.set_cons_zero, List.set_cons_succ]
              refine takeC (i := 8) (v := ?v8z) 85 rfl rfl (by kernel_rfl) (by kernel_rfl) (by kernel_rfl) (by kernel_rfl) (fun _ _ _ h => h) (Or.inl ⟨by rfl, fun w' hw' => ?hy8z⟩) hS0 ?rest8z
              case hy8z => go_simp; try with_reducible rfl
              try simp only [Act.put, List.setIfInBounds_toArray, List.set_cons_zero, List.set_cons_succ]
              refine takeC (i := 9) (v := ?v9z) 86 rfl rfl (by kernel_rfl) (by kernel_rfl) (by kernel_rfl) (by kernel_rfl) (fun _ _ _ h => h) (Or.inl ⟨by rfl, fun w' hw' => ?hy9z⟩) hS0 ?rest9z
              case hy9z => go_simp; try with_reducible rfl
              try simp only [Act.put, List.setIfInBounds_toArray, List.set_cons_zero, List.set_cons_succ]
              refine takeC (i := 10) (v := ?v10z) 87 rfl rfl (by kernel_rfl) (by kernel_rfl) (by kernel_rfl) (by kernel_rfl) (fun _ _ _ h => h) (Or.inl ⟨by rfl, fun w' hw' => ?hy10z⟩) hS0 ?rest10z
              case hy10z => go_simp; try with_reducible rfl
              try simp only [Act.put, List.setIfInBounds_toArray, List.set_cons_zero, List.set_cons_succ]
              refine takeC (i := 11) (v := undef) 88 rfl rfl (by kernel_rfl) (by kernel_rfl) (by kernel_rfl) (by kernel_rfl) (fun _ _ _ h => h) (Or.inr ⟨by rfl, by rfl⟩) hS0 ?_
              try simp only [Act.put, List.setIfInBounds_toArray, List.set_cons_zero, List.set_cons_succ]
              refine takeC (i := 12) (v := undef) 89 rfl rfl (by kernel_rfl) (by kernel_rfl) (by kernel_rfl) (by kernel_rfl) (fun _ _ _ h => h) (Or.inr ⟨by rfl, by rfl⟩) hS0 ?_
              try simp only [Act.put, List.setIfInBounds_toArray, List.set_cons_zero, List.set_cons_succ]
              refine takeC (i := 13) (v := undef) 90 rfl rfl (by kernel_rfl) (by kernel_rfl) (by kernel_rfl) (by kernel_rfl) (fun _ _ _ h => h) (Or.inr ⟨by rfl, by rfl⟩) hS0 ?_
              try simp only [Act.put, List.setIfInBounds_toArray, List.set_cons_zero, List.set_cons_succ]
              refine takeC (i := 14) (v := undef) 91 rfl rfl (by kernel_rfl) (by kernel_rfl) (by kernel_rfl) (by kernel_rfl) (fun _ _ _ h => h) (Or.inr ⟨by rfl, by rfl⟩) hS0 ?_
              try simp only [Act.put, List.setIfInBounds_toArray, List.set_cons_zero, List.set_cons_succ]
              refine takeC (i := 15) (v := undef) 92 rfl rfl (by kernel_rfl) (by kernel_rfl) (by kernel_rfl) (by kernel_rfl) (fun _ _ _ h => h) (Or.inr ⟨by rfl, by rfl⟩) hS0 ?_
              try simp only [Act.put, List.setIfInBounds_toArray, List.set_cons_zero, List.set_cons_succ]
              refine takeC (i := 16) (v := undef) 93 rfl rfl (by kernel_rfl) (by kernel_rfl) (by kernel_rfl) (by kernel_rfl) (fun _ _ _ h => h) (Or.inr ⟨by rfl, by rfl⟩) hS0 ?_
              try simp only [Act.put, List.setIfInBounds_toArray, List.set_cons_zero, List.set_cons_succ]
              refine takeC (i := 17) (v := undef) 94 rfl rfl (by kernel_rfl) (by kernel_rfl) (by kernel_rfl) (by kernel_rfl) (fun _ _ _ h => h) (Or.inr ⟨by rfl, by rfl⟩) hS0 ?_
              try simp only [Act.put, List.setIfInBounds_toArray, List.set_cons_zero, List.set_cons_succ]
              refine takeC (i := 18) (v := undef) 95 rfl rfl (by kernel_rfl) (by kernel_rfl) (by kernel_rfl) (by kernel_rfl) (fun _ _ _ h => h) (Or.inr ⟨by rfl, by rfl⟩) hS0 ?_
              try simp only [Act.put, List.setIfInBounds_toArray, List.set_cons_zero, List.set_cons_succ]
              refine takeC (i := 19) (v := undef) 96 rfl rfl (by kernel_rfl) (by kernel_rfl) (by kernel_rfl) (by kernel_rfl) (fun _ _ _ h => h) (Or.inr ⟨by rfl, by rfl⟩) hS0 ?_
              try simp only [Act.put, List.setIfInBounds_toArray, List.set_cons_zero, List.set_cons_succ]
              refine takeC (i := 20) (v := ?v20z) 97 rfl rfl (by kernel_rfl) (by kernel_rfl) (by kernel_rfl) (by kernel_rfl) (fun _ _ _ h => h) (Or.inl ⟨by rfl, fun w' hw' => ?hy20z⟩) hS0 ?rest20z
              case hy20z => go_simp; try with_reducible rfl
              try simp only [Act.put, List.setIfInBounds_toArray, List.set_cons_zero, List.set_cons_succ]
              refine takeC (i := 21) (v := ?v21z) 98 rfl rfl (by kernel_rfl) (by kernel_rfl) (by kernel_rfl) (by kernel_rfl) (fun _ _ _ h => h) (Or.inl ⟨by rfl, fun w' hw' => ?hy21z⟩) hS0 ?rest21z
              case hy21z => go_simp; try with_reducible rfl
              try simp only [Act.put, List.setIfInBounds_toArray, List.set_cons_zero, List.set_cons_succ]
              refine takeC (i := 22) (v := ?v22z) 99 rfl rfl (by kernel_rfl) (by kernel_rfl) (by kernel_rfl) (by kernel_rfl) (fun _ _ _ h => h) (Or.inl ⟨by rfl, fun w' hw' => ?hy22z⟩) hS0 ?rest22z
              case hy22z => go_simp; try with_reducible rfl
              try simp only [Act.put, List.setIfInBounds_toArray, List.set_cons_zero, List.set_cons_succ]
              refine takeC (i := 23) (v := ?v23z) 100 rfl rfl (by kernel_rfl) (by kernel_rfl) (by kernel_rfl) (by kernel_rfl) (fun _ _ _ h => h) (Or.inl ⟨by rfl, fun w' hw' => ?hy23z⟩) hS0 ?rest23z
              case hy23z => go_simp; try with_reducible rfl
              try simp only [Act.put, List.setIfInBounds_toArray, List.set_cons_zero, List.set_cons_succ]
              refine takeC (i := 24) (v := ?v24z) 101 rfl rfl (by kernel_rfl) (by kernel_rfl) (by kernel_rfl) (by kernel_rfl) (fun _ _ _ h => h) (Or.inl ⟨by rfl, fun w' hw' => ?hy24z⟩) hS0 ?rest24z
              case hy24z => go_simp; try with_reducible rfl
              try simp only [Act.put, List.setIfInBounds_toArray, List.set_cons_zero, List.set_cons_succ]
              refine takeC (i := 25) (v := ?v25z) 102 rfl rfl (by kernel_rfl) (by kernel_rfl) (by kernel_rfl) (by kernel_rfl) (fun _ _ _ h => h) (Or.inl ⟨by rfl, fun w' hw' => ?hy25z⟩) hS0 ?rest25z
              case hy25z => go_simp; try with_reducible rfl
              try simp only [Act.put, List.setIfInBounds_toArray, List.set_cons_zero, List.set_cons_succ]
              refine takeC (i := 26) (v := undef) 103 rfl rfl (by kernel_rfl) (by kernel_rfl) (by kernel_rfl) (by kernel_rfl) (fun _ _ _ h => h) (Or.inr ⟨by rfl, by rfl⟩) hS0 ?_
              try simp only [Act.put, List.setIfInBounds_toArray, List.set_cons_zero, List.set_cons_succ]
              refine takeC (i := 27) (v := undef) 104 rfl rfl (by kernel_rfl) (by kernel_rfl) (by kernel_rfl) (by kernel_rfl) (fun _ _ _ h => h) (Or.inr ⟨by rfl, by rfl⟩) hS0 ?_
              try simp only [Act.put, List.setIfInBounds_toArray, List.set_cons_zero, List.set_cons_succ]
              refine takeC (i := 28) (v := undef) 105 rfl rfl (by kernel_rfl) (by kernel_rfl) (by kernel_rfl) (by kernel_rfl) (fun _ _ _ h => h) (Or.inr ⟨by rfl, by rfl⟩) hS0 ?_
              try simp only [Act.put, List.setIfInBounds_toArray, List.set_cons_zero, List.set_cons_succ]
              refine takeC (i := 29) (v := undef) 106 rfl rfl (by kernel_rfl) (by kernel_rfl) (by kernel_rfl) (by kernel_rfl) (fun _ _ _ h => h) (Or.inr ⟨by rfl, by rfl⟩) hS0 ?_
              try simp only [Act.put, List.setIfInBounds_toArray, List.set_cons_zero, List.set_cons_succ]
              refine takeC (i := 30) (v := undef) 107 rfl rfl (by kernel_rfl) (by kernel_rfl) (by kernel_rfl) (by kernel_rfl) (fun _ _ _ h => h) (Or.inr ⟨by rfl, by rfl⟩) hS0 ?_
              try simp only [Act.put, List.setIfInBounds_toArray, List.set_cons_zero, List.set_cons_succ]
              refine takeC (i := 31) (v := undef) 108 rfl rfl (by kernel_rfl) (by kernel_rfl) (by kernel_rfl) (by kernel_rfl) (fun _ _ _ h => h) (Or.inr ⟨by rfl, by rfl⟩) hS0 ?_
              try simp only [Act.put, List.setIfInBounds_toArray, List.set_cons_zero, List.set_cons_succ]
              refine takeC (i := 32) (v := undef) 109 rfl rfl (by kernel_rfl) (by kernel_rfl) (by kernel_rfl) (by kernel_rfl) (fun _ _ _ h => h) (Or.inr ⟨by rfl, by rfl⟩) hS0 ?_
              try simp only [Act.put, List.setIfInBounds_toArray, List.set_cons_zero, List.set_cons_succ]
              refine takeC (i := 33) (v := undef) 110 rfl rfl (by kernel_rfl) (by kernel_rfl) (by kernel_rfl) (by kernel_rfl) (fun _ _ _ h => h) (Or.inr ⟨by rfl, by rfl⟩) hS0 ?_
              try simp only [Act.put, List.setIfInBounds_toArray, List.set_cons_zero, List.set_cons_succ]
              refine takeC (i := 34) (v := undef) 111 rfl rfl (by kernel_rfl) (by kernel_rfl) (by kernel_rfl) (by kernel_rfl) (fun _ _ _ h => h) (Or.inr ⟨by rfl, by rfl⟩) hS0 ?_
              try simp only [Act.put, List.setIfInBounds_toArray, List.set_cons_zero, List.set_cons_succ]
              refine takeC (i := 35) (v := ?v35z) 112 rfl rfl (by kernel_rfl) (by kernel_rfl) (by kernel_rfl) (by kernel_rfl) (fun _ _ _ h => h) (Or.inl ⟨by rfl, fun w' hw' => ?hy35z⟩) hS0 ?rest35z
              case hy35z => go_simp; try with_reducible rfl
              try simp only [Act.put, List.setIfInBounds_toArray, List.set_cons_zero, List.set_cons_succ]
              refine takeC (i := 36) (v := ?v36z) 113 rfl rfl (by kernel_rfl) (by kernel_rfl) (by kernel_rfl) (by kernel_rfl) (fun _ _ _ h => h) (Or.inl ⟨by rfl, fun w' hw' => ?hy36z⟩) hS0 ?rest36z
              case hy36z => go_simp; try with_reducible rfl
              try simp only [Act.put, List.setIfInBounds_toArray, List.set_cons_zero, List.set_cons_succ]
              refine doneS (by kernel_rfl) ?_ _
              go_wp2
              go_roundw
              case rel => exact ⟨k + 1, by go_num, by omega, HBN.out⟩
              case measure => simp [intOf]; omega
        · have hkn' : k = n := by omega
          subst hkn'
          have HBR := hid (HBW.out.trans (hbr.mono HBW.out.size))
          have hk0 : (0 : Int) < k := by omega
          have hk0n : 0 < k := by omega
          by_cases h3 : how < 3
          · have e1 : decide (how < 3) = true := decide_eq_true h3
            clear hbr hk h3
            go_wp2
            go_ret
            exact ⟨rfl, HBR.out⟩
          · have e1 : decide (how < 3) = false := decide_eq_false h3
            by_cases h4 : 4 < how
            · have e2 : decide (4 < how) = true := decide_eq_true h4
              clear hbr hk h3 h4
              go_wp2
              go_ret
              exact ⟨rfl, HBR.out⟩
            · have e2 : decide (4 < how) = false := decide_eq_false h4
              obtain ⟨q, hq⟩ : ∃ q, (rectsT t w h)[0]? = some q := ⟨_, List.getElem?_eq_getElem (by omega)⟩
              obtain ⟨b1, b2⟩ := HFF.out (by omega) q hq
              have q1 : wr.cell? ⟨gr, 1, none⟩ = some (.int .i64 q.x) := (hbr.cell (p := ⟨gr, 1, none⟩) hg4).trans (HCE4.out 0 q 1 _ hq rfl)
              have q2 : wr.cell? ⟨gr, 2, none⟩ = some (.int .i64 q.y) := (hbr.cell (p := ⟨gr, 2, none⟩) hg4).trans (HCE4.out 0 q 2 _ hq rfl)
              rw [b1] at q1
              rw [b2] at q2
              clear hbr hk hq b1 b2
              go_wp2
              go_ret
              exact ⟨rfl, HBR.out⟩
end Go.Proofs.Ytglfolbimafcaaa
