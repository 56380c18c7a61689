/- Layer 12, the package: mayLie. -/
import Derived.Test.YtglfolbimafcaaaPresetCQ
import Derived.Test.YtglfolbimafcaaaPresetNQ
namespace Go.Proofs.Ytglfolbimafcaaa
open Go.RowKit

theorem NRow.take {W : World} {A : Option Addr} {n c : Nat} {l : List Int} (h : NRow W (.slice A n c) l) (k : Nat) (hk : k ≤ l.length) : NRow W (.slice A k c) (l.take k) := by
  obtain ⟨A', c', e, hc, hl⟩ := h
  cases e
  refine ⟨A, c, by rw [List.length_take, Nat.min_eq_left hk], by rw [List.length_take]; omega, fun hn => ?_⟩
  obtain ⟨g, o, hA, hg, hx⟩ := hl (by intro e; rw [e] at hn; simp at hn)
  refine ⟨g, o, hA, hg, fun j x hj => hx j x ?_⟩
  have hjk : j < k := by have := (List.getElem?_eq_some_iff.1 hj).1; rw [List.length_take] at this; omega
  rwa [List.getElem?_take_of_lt hjk] at hj
set_option maxHeartbeats 1000000 in
theorem nindex_any (v : Value) (l : List Int) (x : Int) (W : World) (h : NRow W v l) (hn : l.length ≤ 1000) :
    Calls Try.prog 50 #[v, .int .i64 x] W fun e w' => (∃ r : Int, e = .returned (.int .i64 r) ∧ (decide (0 ≤ r) = decide (x ∈ l))) ∧ w' = W := by
  obtain ⟨A, c, rfl, _, hk⟩ := h
  obtain ⟨n, hnn⟩ : ∃ n, l.length = n := ⟨_, rfl⟩
  rw [hnn] at hn ⊢
  have HK := hid hk
  have hni : (n : Int) ≤ 1000 := by omega
  clear hk
  go_enter Try.func50, Try.ntmps50
  go_wp2_with fail
  go_loopw [8] (fun i wr => ∃ k : Nat, i = .int .i64 k ∧ k ≤ n ∧ (∀ (j : Nat) (y : Int), j < k → l[j]? = some y → y ≠ x) ∧ wr = W) (fun i _ => n - (intOf i).toNat)
  case atStart => exact ⟨0, rfl, Nat.zero_le _, fun j y hj => absurd hj (Nat.not_lt_zero _), rfl⟩
  case round =>
    obtain ⟨k, rfl, hkn, hno, rfl⟩ := hrel
    by_cases hlt : k < n
    · have hki : (k : Int) < n := by omega
      obtain ⟨y, hy⟩ : ∃ y, l[k]? = some y := ⟨_, List.getElem?_eq_getElem (by omega)⟩
      obtain ⟨g, o, rfl, hg, hcell⟩ := HK.out (by intro e; rw [e] at hnn; simp at hnn; omega)
      have q0 := hcell k y hy
      by_cases hyx : y = x
      · subst hyx
        have HV : Hid (decide ((0 : Int) ≤ (k : Int)) = decide (y ∈ l)) := by
          unfold Hid
          rw [decide_eq_true (by omega), decide_eq_true (List.mem_of_getElem? hy)]
        clear hno hy hcell
        go_wp2
        go_ret
        exact ⟨⟨_, rfl, HV.out⟩, rfl⟩
      · have hyx' : (x == y) = false := by simp; exact fun e => hyx e.symm
        have hyx2 : ¬ x = y := fun e => hyx e.symm
        have HNO := hid (show ∀ (j : Nat) (z : Int), j < k + 1 → l[j]? = some z → z ≠ x from fun j z hj hz => by
          by_cases e : j = k
          · subst e; rw [hy] at hz; cases hz; exact hyx
          · exact hno j z (by omega) hz)
        clear hno hy hcell hyx
        go_wp2
        go_roundw
        case rel => exact ⟨k + 1, by go_num, by omega, HNO.out, trivial⟩
        case measure => simp [intOf]; omega
    · have hkn' : k = n := by omega
      subst hkn'
      have HV : Hid (decide ((0 : Int) ≤ -1) = decide (x ∈ l)) := by
        unfold Hid
        rw [decide_eq_false (by omega), decide_eq_false]
        intro hm
        obtain ⟨j, hj⟩ := List.getElem?_of_mem hm
        exact hno j x (by have := (List.getElem?_eq_some_iff.1 hj).1; omega) hj rfl
      clear hno hlt
      go_wp2
      go_ret
      exact ⟨⟨_, rfl, HV.out⟩, rfl⟩
theorem ncontains_any (v : Value) (l : List Int) (x : Int) (W : World) (h : NRow W v l) (hn : l.length ≤ 1000) :
    Calls Try.prog 26 #[v, .int .i64 x] W fun e w' => e = .returned (.bool (decide (x ∈ l))) ∧ w' = W := by
  have H := hid (nindex_any v l x W h hn)
  obtain ⟨A, c, rfl, _⟩ := h
  go_enter Try.func26, Try.ntmps26
  go_wp2_with ((with_reducible refine H.out.mono ?_); rintro e w2 ⟨⟨r, rfl, hr⟩, rfl⟩)
  go_ret
  exact ⟨rfl, rfl⟩
theorem leaf_rightB (p w h : Int) : rightB (leafP p 0) w h = (sizeB w h && isPaneB p) := by
  unfold rightB leafP items itemsL rightGo
  cases hs : sizeB w h
  · rfl
  · cases hp : isPaneB p
    · simp [madeR, Tr.kind, Tr.kids, Tr.pane, hp]
    · simp [madeR, Tr.kind, Tr.kids, Tr.pane, hp, rightGo]
theorem leaf_rightC (p w h : Int) (W : World) : Calls Try.prog 8 #[.agg #[.int .i64 0, .int .i64 p, .int .i64 0, .slice none 0 0], .int .i64 w, .int .i64 h] W fun e w' => e = .returned (.bool (sizeB w h && isPaneB p)) ∧ Below W.heap.size W w' := by
  have h := right_any (leafP p 0) (.slice none 0 0) w h W (TrB.at _ _ (TrB.leaf W (fun _ => True) p 0)) (by simp [leafP, cntT, cntL])
  rw [leaf_rightB] at h
  exact h
/-- What mayLie asks, as far as it went. -/
def mayUpto (ps : List Int) (w h : Int) (k : Nat) : Prop := ∀ (i : Nat) (p : Int), i < k → ps[i]? = some p → p ∉ ps.take i ∧ (sizeB w h && isPaneB p) = true
theorem nodup_take : ∀ (n : Nat) (ps : List Int), ps.length = n → (∀ (i : Nat) (p : Int), ps[i]? = some p → p ∉ ps.take i) → ps.Nodup := by
  intro n
  induction n with
  | zero => intro ps h _; rw [List.length_eq_zero_iff.1 h]; exact List.nodup_nil
  | succ n ih =>
    intro ps hl h
    obtain ⟨qs, p, rfl⟩ : ∃ qs p, ps = qs ++ [p] := by
      rcases List.eq_nil_or_concat ps with rfl | ⟨qs, p, e⟩
      · simp at hl
      · exact ⟨qs, p, by rw [e, List.concat_eq_append]⟩
    rw [List.length_append, List.length_singleton] at hl
    refine List.nodup_append.2 ⟨ih qs (by omega) fun i q hi => ?_, by simp, fun a ha b hb => ?_⟩
    · have hi' : i < qs.length := (List.getElem?_eq_some_iff.1 hi).1
      have := h i q (by rw [List.getElem?_append_left hi']; exact hi)
      rwa [List.take_append_of_le_length (by omega)] at this
    · obtain rfl := List.mem_singleton.1 hb
      have := h qs.length b (by simp)
      rw [List.take_left] at this
      exact fun e => this (e ▸ ha)
theorem mayUpto_all {ps : List Int} {w h : Int} (h1 : 1 ≤ ps.length) (h8 : ps.length ≤ 8) (hm : mayUpto ps w h ps.length) : mayP ps w h = true := by
  have hx : ∀ p ∈ ps, (sizeB w h && isPaneB p) = true := fun p hp => by
    obtain ⟨i, hi⟩ := List.getElem?_of_mem hp
    exact (hm i p (List.getElem?_eq_some_iff.1 hi).1 hi).2
  have hs : sizeB w h = true := by
    have := hx _ (List.getElem_mem (show 0 < ps.length by omega))
    exact (Bool.and_eq_true_iff.1 this).1
  refine mayP_iff.2 ⟨⟨h1, h8⟩, sizeB_iff.1 hs, nodup_take _ ps rfl fun i p hi => (hm i p (List.getElem?_eq_some_iff.1 hi).1 hi).1, fun p hp => (Bool.and_eq_true_iff.1 (hx p hp)).2⟩
theorem mayP_no {ps : List Int} {w h : Int} {k : Nat} {p : Int} (hk : ps[k]? = some p) (hno : p ∈ ps.take k ∨ (sizeB w h && isPaneB p) = false) : mayP ps w h = false := by
  rw [Bool.eq_false_iff]
  intro hm
  obtain ⟨_, hs, hn, hp⟩ := mayP_iff.1 hm
  rcases hno with h1 | h1
  · obtain ⟨j, hj⟩ := List.getElem?_of_mem h1
    have hjk : j < k := by have := (List.getElem?_eq_some_iff.1 hj).1; rw [List.length_take] at this; omega
    rw [List.getElem?_take_of_lt hjk] at hj
    obtain ⟨a1, a2⟩ := List.getElem?_eq_some_iff.1 hj
    obtain ⟨b1, b2⟩ := List.getElem?_eq_some_iff.1 hk
    have := List.pairwise_iff_getElem.1 hn j k a1 b1 hjk
    exact this (a2.trans b2.symm)
  · rw [sizeB_iff.2 hs, hp p (List.mem_of_getElem? hk)] at h1
    cases h1
set_option maxRecDepth 100000 in
set_option maxHeartbeats 2000000 in
theorem mayLie_any (v : Value) (ps : List Int) (w h : Int) (W : World) (hv : NRow W v ps) (hn : ps.length ≤ 1000) : Calls Try.prog 41 #[v, .int .i64 w, .int .i64 h] W fun e w' => e = .returned (.bool (mayP ps w h)) ∧ Below W.heap.size W w' := by
  have HV := hid hv
  obtain ⟨A, c, rfl, hcc, hl⟩ := hv
  obtain ⟨n, hnn⟩ : ∃ n, ps.length = n := ⟨_, rfl⟩
  rw [hnn] at hn hcc HV ⊢
  have HL := hid hl
  clear hl
  by_cases h1 : n < 1
  · have hP : Hid (mayP ps w h = false) := by unfold Hid mayP; rw [decide_eq_false (by omega)]; rfl
    have d1 : decide ((n : Int) < 1) = true := decide_eq_true (by omega)
    clear h1 hcc hnn
    go_enter Try.func41, Try.ntmps41
    go_wp2
    go_ret
    exact ⟨ret_bool hP.out.symm, Below.refl _ _⟩
  · have d1 : decide ((n : Int) < 1) = false := decide_eq_false (by omega)
    by_cases h8 : 8 < n
    · have hP : Hid (mayP ps w h = false) := by unfold Hid mayP; rw [decide_eq_false (by omega)]; rfl
      have d2 : decide (8 < (n : Int)) = true := decide_eq_true (by omega)
      clear h1 h8 hcc hnn
      go_enter Try.func41, Try.ntmps41
      go_wp2
      go_ret
      exact ⟨ret_bool hP.out.symm, Below.refl _ _⟩
    · have d2 : decide (8 < (n : Int)) = false := decide_eq_false (by omega)
      have hni : (n : Int) ≤ 8 := by omega
      have HN := hid hnn
      have HH := hid (show 1 ≤ ps.length ∧ ps.length ≤ 8 by omega)
      have HR := hid (leaf_rightC · w h)
      clear h1 h8 hnn
      go_enter Try.func41, Try.ntmps41
      go_wp2_with fail
      go_loopw [19] (fun i wr => ∃ k : Nat, i = .int .i64 k ∧ k ≤ n ∧ mayUpto ps w h k ∧ Below W.heap.size W wr) (fun i _ => n - (intOf i).toNat)
      case atStart => exact ⟨0, rfl, Nat.zero_le _, fun i p hi => absurd hi (Nat.not_lt_zero _), Below.refl _ _⟩
      case round =>
        obtain ⟨k, rfl, hkn, hm, hbr⟩ := hrel
        by_cases hk : k < n
        · have hki : (k : Int) < n := by omega
          obtain ⟨p, hp⟩ : ∃ p, ps[k]? = some p := ⟨_, List.getElem?_eq_getElem (by rw [HN.out]; exact hk)⟩
          obtain ⟨g, o, rfl, hg, hcell⟩ := HL.out (by intro e; have := HN.out; rw [e] at this; simp at this; omega)
          have q0 : wr.cell? ⟨g, o + k, none⟩ = some (.int .i64 p) := (hbr.cell (p := ⟨g, o + k, none⟩) hg).trans (hcell k p hp)
          have HC := hid (ncontains_any _ (ps.take k) p wr ((HV.out.below hbr).take k (by rw [HN.out]; exact hkn)) (by rw [List.length_take]; omega))
          have hkc : k ≤ c := by omega
          have HB := hid hbr
          by_cases hd : p ∈ ps.take k
          · have hd' : decide (p ∈ ps.take k) = true := decide_eq_true hd
            rw [hd'] at HC
            have hP : Hid (mayP ps w h = false) := mayP_no hp (.inl hd)
            clear hbr hcell hp hm hd hd'
            go_wp2_with ((with_reducible refine HC.out.mono ?_); rintro e w2 ⟨rfl, rfl⟩)
            go_ret
            exact ⟨ret_bool hP.out.symm, HB.out⟩
          · have hd' : decide (p ∈ ps.take k) = false := decide_eq_false hd
            rw [hd'] at HC
            have HRp := hid (HR.out p)
            cases hs : (sizeB w h && isPaneB p)
            · rw [hs] at HRp
              have hP : Hid (mayP ps w h = false) := mayP_no hp (.inr hs)
              clear hbr hcell hp hm hd hd' hs
              go_wp2_with (first | ((with_reducible refine HC.out.mono ?_); rintro e w2 ⟨rfl, rfl⟩) | ((with_reducible refine (HRp.out _).mono ?_); rintro e w3 ⟨rfl, hb3⟩))
              go_ret
              exact ⟨ret_bool hP.out.symm, HB.out.trans (hb3.mono HB.out.size)⟩
            · rw [hs] at HRp
              have HM := hid (show mayUpto ps w h (k + 1) from fun i q hi hq => by
                by_cases e : i = k
                · subst e; rw [hp] at hq; cases hq; exact ⟨hd, hs⟩
                · exact hm i q (by omega) hq)
              clear hbr hcell hp hm hd hd' hs
              go_wp2_with (first | ((with_reducible refine HC.out.mono ?_); rintro e w2 ⟨rfl, rfl⟩) | ((with_reducible refine (HRp.out _).mono ?_); rintro e w3 ⟨rfl, hb3⟩))
              go_roundw
              case rel => exact ⟨k + 1, by go_num, by omega, HM.out, HB.out.trans (hb3.mono HB.out.size)⟩
              case measure => simp [intOf]; omega
        · have hkn' : k = n := by omega
          subst hkn'
          have hP : Hid (mayP ps w h = true) := mayUpto_all HH.out.1 HH.out.2 (by rw [HN.out]; exact hm)
          have HB := hid hbr
          clear hbr hm hk
          go_wp2
          go_ret
          exact ⟨ret_bool hP.out.symm, HB.out⟩
end Go.Proofs.Ytglfolbimafcaaa
