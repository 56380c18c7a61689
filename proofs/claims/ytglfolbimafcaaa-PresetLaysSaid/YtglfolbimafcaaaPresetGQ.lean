/- Layer 12: the statements' alive; the law PresetEven. -/
import Derived.Test.YtglfolbimafcaaaPresetFQ
import Derived.Test.YtglfolbimafcaaaHeldSQ
namespace Go.Proofs.Ytglfolbimafcaaa
open Go.RowKit

theorem may3 : mayP [1, 2, 3] 10 5 = true := by decide +kernel
theorem lay3 : (layT [1, 2, 3] 1 10 5).map (fun t => t.kids.length) = some 3 := by decide +kernel
theorem even3 : evenL 10 3 = [3, 3, 2] := by decide +kernel
theorem nrow3 (W : World) : NRow (W.alloc (.cells (ints [1, 2, 3]).toArray 3)) (.slice (some ⟨W.heap.size, 0, none⟩) 3 3) [1, 2, 3] := by
  refine ⟨_, 3, rfl, by decide, fun _ => ⟨_, 0, rfl, by simp, fun j x hj => ?_⟩⟩
  rw [Nat.zero_add, (Box.new W 3 (ints [1, 2, 3]).toArray).cell j]
  have : (ints [1, 2, 3])[j]? = some (.int .i64 x) := by unfold ints; rw [List.getElem?_map, hj]; rfl
  simpa using this
theorem lay_three (W : World) : Calls Try.prog 19 #[.slice (some ⟨W.heap.size, 0, none⟩) 3 3, .int .i64 1, .int .i64 10, .int .i64 5] (W.alloc (.cells #[.int .i64 1, .int .i64 2, .int .i64 3] 3)) fun e w' => (∃ k p s A c, e = .returned (.tuple #[.agg #[.int .i64 k, .int .i64 p, .int .i64 s, .slice A 3 c], .int .i64 0])) ∧ Below W.heap.size W w' := by
  have hn : NRow (W.alloc (.cells #[.int .i64 1, .int .i64 2, .int .i64 3] 3)) _ _ := nrow3 W
  have hb := below_alloc W (.cells #[.int .i64 1, .int .i64 2, .int .i64 3] 3)
  refine (lay_yes1 _ [1, 2, 3] 10 5 _ hn (by decide) may3 (layT [1, 2, 3] 1 10 5) (fun X hX => row_any 10 5 _ [1, 2, 3] X (hn.below hX) (by decide) (by decide) (by decide) (by decide))).mono ?_
  rintro e w' hp
  obtain ⟨hb2, t, kA, kn, kc, err, rfl, ht, hc⟩ := hp.one
  refine ⟨?_, hb.trans (hb2.mono hb.size)⟩
  have h3 := lay3
  rcases hc with ⟨h, _⟩ | ⟨h, rfl⟩
  · rw [h] at h3; cases h3
  · rw [h] at h3
    obtain ⟨A, c, e, _⟩ := ht.spell
    cases e
    have : t.kids.length = 3 := by simpa using h3
    rw [this]
    exact ⟨_, _, _, _, _, rfl⟩
set_option maxRecDepth 100000 in
set_option maxHeartbeats 2000000 in
theorem alive12_any (W : World) : Calls Try.prog 17 #[] W fun e w' => e = .returned (.bool true) ∧ Below W.heap.size W w' := by
  have he : Calls Try.prog 16 #[.int .i64 10, .int .i64 3] W fun e w' => Below W.heap.size W w' ∧ ∃ g, W.heap.size ≤ g ∧ e = .returned (.tuple #[.slice (some ⟨g, 0, none⟩) 3 3, .int .i64 0]) ∧ Box w' g 3 (ints (evenL 10 3)).toArray := even_room 10 3 W (by decide) (by decide) (by decide) (by decide) (by decide)
  have HE := hid he
  clear he
  go_enter Try.func17, Try.ntmps17
  go_upto_region 2 with ((with_reducible refine HE.out.mono ?_); rintro e w1 ⟨hb1, g, hg, rfl, hx⟩)
  rw [even3] at hx
  have HL := hid (lay_three w1)
  have hgl := hx.lt
  have HX := hid hx
  clear hx HE
  go_wp2_with ((with_reducible refine HL.out.mono ?_); rintro e w2 ⟨⟨k, p, s, A, c, rfl⟩, hb2⟩; have hx2 := HX.out.below hb2 hgl; have q0 : w2.cell? ⟨g, 0, none⟩ = some (.int .i64 3) := (hx2.cell 0); have q2 : w2.cell? ⟨g, 2, none⟩ = some (.int .i64 2) := hx2.cell 2; have hlt2 := hx2.lt)
  go_ret
  refine ⟨rfl, ?_⟩
  have h2 := hb1.trans (hb2.mono hb1.size)
  exact h2.alloc h2.size _
/-- The law. -/
def Ok12 (W : World) (e : Ending) (w' : World) : Prop := e = .returned (.bool true) ∧ Below W.heap.size W w'
set_option maxRecDepth 100000 in
set_option maxHeartbeats 4000000 in
theorem evenlaw_bad (c m : Int) (W : World) (h : ¬ (1 ≤ c ∧ c ≤ 80 ∧ 1 ≤ m ∧ m ≤ 8)) : Calls Try.prog 4 #[.int .i64 c, .int .i64 m] W (Ok12 W) := by
  have he : Calls Try.prog 16 #[.int .i64 c, .int .i64 m] W fun e w' => e = .returned (.tuple #[.slice none 0 0, .int .i64 1]) ∧ Below W.heap.size W w' := by
    refine (even_bad c m W h).mono ?_
    rintro e w' ⟨hb, ⟨_, h1⟩ | ⟨h1, _⟩ | ⟨h1, _⟩⟩
    · exact ⟨h1, hb⟩
    · exact absurd h1 h
    · exact absurd h1 h
  have HE := hid he
  have HA := hid alive12_any
  clear he
  have fin : ∀ (w1 w2 : World), Below W.heap.size W w1 → Below w1.heap.size w1 w2 → Ok12 W (.returned (.bool true)) w2 := fun w1 w2 h1 h2 => ⟨rfl, h1.trans (h2.mono h1.size)⟩
  have FIN := hid fin
  clear fin
  by_cases h1 : c < 1
  · have d1 : decide (c < 1) = true := decide_eq_true h1
    clear h h1
    go_enter Try.func4, Try.ntmps4
    go_wp2_with (first | ((with_reducible refine HE.out.mono ?_); rintro e w1 ⟨rfl, hb1⟩) | ((with_reducible refine (HA.out _).mono ?_); rintro e w2 ⟨rfl, hb2⟩))
    go_ret
    exact FIN.out _ _ hb1 hb2
  · have d1 : decide (c < 1) = false := decide_eq_false h1
    by_cases h2 : 80 < c
    · have d2 : decide (80 < c) = true := decide_eq_true h2
      clear h h1 h2
      go_enter Try.func4, Try.ntmps4
      go_wp2_with (first | ((with_reducible refine HE.out.mono ?_); rintro e w1 ⟨rfl, hb1⟩) | ((with_reducible refine (HA.out _).mono ?_); rintro e w2 ⟨rfl, hb2⟩))
      go_ret
      exact FIN.out _ _ hb1 hb2
    · have d2 : decide (80 < c) = false := decide_eq_false h2
      by_cases h3 : m < 1
      · have d3 : decide (m < 1) = true := decide_eq_true h3
        clear h h1 h2 h3
        go_enter Try.func4, Try.ntmps4
        go_wp2_with (first | ((with_reducible refine HE.out.mono ?_); rintro e w1 ⟨rfl, hb1⟩) | ((with_reducible refine (HA.out _).mono ?_); rintro e w2 ⟨rfl, hb2⟩))
        go_ret
        exact FIN.out _ _ hb1 hb2
      · have d3 : decide (m < 1) = false := decide_eq_false h3
        have d4 : decide (8 < m) = true := decide_eq_true (by omega)
        clear h h1 h2 h3
        go_enter Try.func4, Try.ntmps4
        go_wp2_with (first | ((with_reducible refine HE.out.mono ?_); rintro e w1 ⟨rfl, hb1⟩) | ((with_reducible refine (HA.out _).mono ?_); rintro e w2 ⟨rfl, hb2⟩))
        go_ret
        exact FIN.out _ _ hb1 hb2
theorem sum_step {c m k : Nat} (hk : k < m) : sumL ((evenL c m).take (k + 1)) = sumL ((evenL c m).take k) + shareN c m k := by
  have : ∀ (l : List Int) (k : Nat) (x : Int), l[k]? = some x → sumL (l.take (k + 1)) = sumL (l.take k) + x := by
    intro l
    induction l with
    | nil => intro k x h; simp at h
    | cons y l ih =>
      intro k x h
      cases k with
      | zero => simp at h; subst h; simp [sumL]
      | succ k =>
        have := ih k x (by simpa using h)
        simp only [List.take_succ_cons, sumL] at this ⊢
        omega
  exact this _ _ _ (evenL_at hk)
theorem sum_bd {c m k : Nat} (hm : m ≤ 8) (hm1 : 1 ≤ m) (hc : c ≤ 80) (hk : k ≤ m) : 0 ≤ sumL ((evenL c m).take k) ∧ sumL ((evenL c m).take k) ≤ k * 82 := by
  induction k with
  | zero => simp [sumL]
  | succ k ih =>
    obtain ⟨h1, h2⟩ := ih (by omega)
    rw [sum_step (by omega)]
    have := share_le (c := c) (i := k) hm hm1
    omega
set_option maxRecDepth 100000 in
set_option maxHeartbeats 8000000 in
theorem evenlaw_good (c m : Nat) (W : World) (hc1 : 1 ≤ c) (hc : c ≤ 80) (hm1 : 1 ≤ m) (hm : m ≤ 8) : Calls Try.prog 4 #[.int .i64 c, .int .i64 m] W (Ok12 W) := by
  have d1 : decide ((c : Int) < 1) = false := decide_eq_false (by omega)
  have d2 : decide (80 < (c : Int)) = false := decide_eq_false (by omega)
  have d3 : decide ((m : Int) < 1) = false := decide_eq_false (by omega)
  have d4 : decide (8 < (m : Int)) = false := decide_eq_false (by omega)
  have HA := hid alive12_any
  have HR := hid (fun X => reven_any c m X hc hm1 hm)
  cases hr : roomB c m
  · have HE := hid (even_none c m W hc1 hc hm1 hm hr)
    have HR := hid (fun X => (HR.out X).mono (R' := fun e w' => e = .returned (.slice none 0 0) ∧ Below X.heap.size X w') (by
      rintro e w' ⟨hb, ⟨_, h⟩ | ⟨h, _⟩⟩
      · exact ⟨h, hb⟩
      · rw [hr] at h; cases h))
    clear hr
    go_enter Try.func4, Try.ntmps4
    go_wp2_with (first | ((with_reducible refine HE.out.mono ?_); rintro e w1 ⟨rfl, hb1⟩) | ((with_reducible refine (HR.out _).mono ?_); rintro e w2 ⟨rfl, hb2⟩) | ((with_reducible refine (HA.out _).mono ?_); rintro e w3 ⟨rfl, hb3⟩))
    go_ret
    have h2 := hb1.trans (hb2.mono hb1.size)
    exact ⟨rfl, h2.trans (hb3.mono h2.size)⟩
  · have HE := hid (even_room c m W hc1 hc hm1 hm hr)
    have HR := hid (fun X => (HR.out X).mono (R' := fun e w' => (∃ v, e = .returned v ∧ OwnI w' X.heap.size v (evenL c m)) ∧ Below X.heap.size X w') (by
      rintro e w' ⟨hb, ⟨h, _⟩ | ⟨_, h⟩⟩
      · rw [hr] at h; cases h
      · exact ⟨h, hb⟩))
    have HSM := hid (even_sum hc hm1 hm hr)
    clear hr
    obtain ⟨m1, hm1'⟩ : ∃ m1 : Nat, m = m1 + 1 := ⟨m - 1, by omega⟩
    have hm1i : (m : Int) - 1 = m1 := by omega
    have hm1lt : (m1 : Int) < m := by omega
    have HM1 := hid hm1'
    clear hm1'
    have hm0 : ¬ (m : Int) = 0 := by omega
    go_enter Try.func4, Try.ntmps4
    go_wp2_with (first | ((with_reducible refine HE.out.mono ?_); rintro e w1 ⟨hb1, g, hg, rfl, hx⟩) | ((with_reducible refine (HR.out _).mono ?_); rintro e w2 ⟨⟨v, rfl, hov⟩, hb2⟩; obtain ⟨g2, c2, hv2, hbg2, hmc2, hcell2⟩ := hov.row (by intro e; have := congrArg List.length e; rw [evenL_length] at this; simp at this; omega); rw [evenL_length] at hv2 hmc2; subst hv2; have hx2 := hx.below hb2 hx.lt; have HB2 := hid (hb1.trans (hb2.mono hb1.size)); have HX2 := hid hx2; have HC2 := hid hcell2; clear hx hx2 hcell2 hov hb1 hb2) | ((with_reducible refine (HA.out _).mono ?_); rintro e w3 ⟨rfl, hb3⟩))
    have hx3 := HX2.out.below hb3 HX2.out.lt
    have hg2l : ∀ j x, (evenL c m)[j]? = some x → w3.cell? ⟨g2, j, none⟩ = some (.int .i64 x) := fun j x hj => by
      have h0 := HC2.out j x hj
      obtain ⟨o, ho, _⟩ := cells_of_cell h0
      exact (hb3.cell (p := ⟨g2, j, none⟩) (Array.getElem?_eq_some_iff.1 ho).1).trans h0
    have HB3 := hid (HB2.out.trans (hb3.mono HB2.out.size))
    have HX3 := hid hx3
    have HG3 := hid hg2l
    have hlast : w3.cell? ⟨g, m1, none⟩ = some (.int .i64 (shareN c m m1)) := (hx3.cell m1).trans (by rw [← evP_full, evP_at (by have := HM1.out; omega), if_pos (by have := HM1.out; omega)])
    clear hx3 hg2l hb3 HX2 HC2 HB2
    go_loopw [8, 73] (fun s i wr => ∃ k : Nat, s = .int .i64 ((m1 : Int) + sumL ((evenL c m).take k)) ∧ i = .int .i64 k ∧ k ≤ m ∧ wr = w3) (fun _ i _ => m - (intOf i).toNat)
    case atStart => exact ⟨0, by simp [sumL], rfl, Nat.zero_le _, rfl⟩
    case round =>
      obtain ⟨k, rfl, rfl, hkm, rfl⟩ := hrel
      obtain ⟨b1, b2⟩ := sum_bd (c := c) hm hm1 hc hkm
      by_cases hk : k < m
      · have hki : (k : Int) < m := by omega
        have q0 : wr.cell? ⟨g, k, none⟩ = some (.int .i64 (shareN c m k)) := (HX3.out.cell k).trans (by rw [← evP_full, evP_at hk, if_pos hk])
        have q1 := HG3.out k _ (evenL_at (c := c) hk)
        obtain ⟨s1, s2⟩ := share_last (c := c) hm1 k
        rw [show m - 1 = m1 by have := HM1.out; omega] at s1 s2
        have s3 := share_le (c := c) (i := m1) hm hm1
        have hsum := sum_step (c := c) hk
        obtain ⟨z, hz⟩ : ∃ z, sumL ((evenL c m).take k) = z := ⟨_, rfl⟩
        rw [hz] at b1 b2 hsum ⊢
        obtain ⟨x, hx⟩ : ∃ x, shareN c m k = x := ⟨_, rfl⟩
        obtain ⟨y, hy⟩ : ∃ y, shareN c m m1 = y := ⟨_, rfl⟩
        rw [hx] at q0 q1 s1 s2 hsum
        rw [hy] at s1 s2 s3 hlast
        have e1 : decide ((x : Int) < y) = false := decide_eq_false (by omega)
        have e2 : decide ((y : Int) + 1 < x) = false := decide_eq_false (by omega)
        have HS := hid hsum
        have HST := hid (show (m1 : Int) + z + x = (m1 : Int) + sumL ((evenL c m).take (k + 1)) by rw [HS.out]; omega)
        clear hz hx hy hsum
        obtain ⟨u, hu⟩ : ∃ u : Int, (m1 : Int) + z = u := ⟨_, rfl⟩
        have hub : 0 ≤ u ∧ u ≤ 1000 := by omega
        have hxb : (x : Int) ≤ 100 := by omega
        rw [hu] at HST ⊢
        clear hu b1 b2 s3
        go_wp2
        go_roundw
        case rel => exact ⟨k + 1, by rw [← HST.out], by go_num, by omega, trivial⟩
        case measure => simp [intOf]; omega
      · have hkm' : k = m := by omega
        subst hkm'
        have hfull : sumL ((evenL c k).take k) = c + 1 - k := by
          rw [List.take_of_length_le (by rw [evenL_length]; exact Nat.le_refl _)]
          exact HSM.out
        rw [hfull, show (m1 : Int) + (c + 1 - k) = c by omega]
        clear b1 b2 hfull hk
        go_wp2
        go_ret
        exact ⟨rfl, HB3.out⟩
theorem evenlaw_any (c m : Int) (W : World) : Calls Try.prog 4 #[.int .i64 c, .int .i64 m] W (Ok12 W) := by
  by_cases h : 1 ≤ c ∧ c ≤ 80 ∧ 1 ≤ m ∧ m ≤ 8
  · obtain ⟨h1, h2, h3, h4⟩ := h
    have := evenlaw_good c.toNat m.toNat W (by omega) (by omega) (by omega) (by omega)
    rwa [Int.toNat_of_nonneg (by omega), Int.toNat_of_nonneg (by omega)] at this
  · exact evenlaw_bad c m W h
end Go.Proofs.Ytglfolbimafcaaa
