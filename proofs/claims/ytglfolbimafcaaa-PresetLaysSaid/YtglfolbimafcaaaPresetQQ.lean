/- Layer 12, the reference: in, Size, At, May. Made by wip/gen/presetQ2.py. -/
import Derived.Test.YtglfolbimafcaaaPresetLQ
namespace Go.Proofs.Ytglfolbimafcaaa
open Go.RowKit

theorem rin11_any (n a b : Int) (W : World) : Calls Try.prog 65 #[.int .i64 n, .int .i64 a, .int .i64 b] W fun e w' => e = .returned (.bool (decide (a ≤ n ∧ n ≤ b))) ∧ w' = W := by
  by_cases h1 : a ≤ n
  · have d1 : decide (a ≤ n) = true := decide_eq_true h1
    by_cases h2 : n ≤ b
    · have d2 : decide (n ≤ b) = true := decide_eq_true h2
      have HE : Hid (decide (a ≤ n ∧ n ≤ b) = true) := decide_eq_true ⟨h1, h2⟩
      clear h1 h2
      go_enter Try.func65, Try.ntmps65
      go_wp2
      go_ret
      exact ⟨ret_bool HE.out.symm, rfl⟩
    · have d2 : decide (n ≤ b) = false := decide_eq_false h2
      have HE : Hid (decide (a ≤ n ∧ n ≤ b) = false) := decide_eq_false fun h => h2 h.2
      clear h1 h2
      go_enter Try.func65, Try.ntmps65
      go_wp2
      go_ret
      exact ⟨ret_bool HE.out.symm, rfl⟩
  · have d1 : decide (a ≤ n) = false := decide_eq_false h1
    have HE : Hid (decide (a ≤ n ∧ n ≤ b) = false) := decide_eq_false fun h => h1 h.1
    clear h1
    go_enter Try.func65, Try.ntmps65
    go_wp2
    go_ret
    exact ⟨ret_bool HE.out.symm, rfl⟩
theorem rsize11_any (w h : Int) (W : World) : Calls Try.prog 43 #[.int .i64 w, .int .i64 h] W fun e w' => e = .returned (.bool (sizeB w h)) ∧ w' = W := by
  have H1 := hid (rin11_any w 1 80 W)
  have H2 := hid (rin11_any h 1 50 W)
  have HE : Hid (sizeB w h = (decide (1 ≤ w ∧ w ≤ 80) && decide (1 ≤ h ∧ h ≤ 50))) := by
    unfold Hid sizeB
    by_cases h1 : 1 ≤ w ∧ w ≤ 80
    · by_cases h2 : 1 ≤ h ∧ h ≤ 50
      · rw [decide_eq_true h1, decide_eq_true h2]; simp; omega
      · rw [decide_eq_true h1, decide_eq_false h2]; simp; omega
    · rw [decide_eq_false h1]; simp; omega
  cases h1 : decide (1 ≤ w ∧ w ≤ 80)
  · rw [h1] at H1 HE
    clear h1
    go_enter Try.func43, Try.ntmps43
    go_wp2_with ((with_reducible refine H1.out.mono ?_); rintro e w2 ⟨rfl, rfl⟩)
    go_ret
    exact ⟨ret_bool (by rw [HE.out]; rfl), rfl⟩
  · rw [h1] at H1 HE
    clear h1
    go_enter Try.func43, Try.ntmps43
    go_wp2_with (first | ((with_reducible refine H1.out.mono ?_); rintro e w2 ⟨rfl, rfl⟩) | ((with_reducible refine H2.out.mono ?_); rintro e w3 ⟨rfl, rfl⟩))
    go_ret
    exact ⟨ret_bool (by rw [HE.out, Bool.true_and, Bool.decide_and]), rfl⟩
/-- Where a number stands first. -/
def AtIs (l : List Int) (x r : Int) : Prop := ∀ (i : Nat), l[i]? = some x → (r = i ↔ x ∉ l.take i)
set_option maxHeartbeats 1000000 in
theorem rat_any (v : Value) (l : List Int) (x : Int) (W : World) (h : NRow W v l) (hn : l.length ≤ 1000) :
    Calls Try.prog 42 #[v, .int .i64 x] W fun e w' => (∃ r : Int, e = .returned (.int .i64 r) ∧ AtIs l x r) ∧ w' = W := by
  obtain ⟨A, c, rfl, _, hk⟩ := h
  obtain ⟨n, hnn⟩ : ∃ n, l.length = n := ⟨_, rfl⟩
  rw [hnn] at hn ⊢
  have HK := hid hk
  have hni : (n : Int) ≤ 1000 := by omega
  clear hk
  go_enter Try.func42, Try.ntmps42
  go_wp2_with fail
  go_loopw [9] (fun i wr => ∃ k : Nat, i = .int .i64 k ∧ k ≤ n ∧ (∀ (j : Nat) (y : Int), j < k → l[j]? = some y → y ≠ x) ∧ wr = W) (fun i _ => n - (intOf i).toNat)
  case atStart => exact ⟨0, rfl, Nat.zero_le _, fun j y hj => absurd hj (Nat.not_lt_zero _), rfl⟩
  case round =>
    obtain ⟨k, rfl, hkn, hno, rfl⟩ := hrel
    have hnt : ∀ i, i ≤ k → x ∉ l.take i := fun i hi hm => by
      obtain ⟨j, hj⟩ := List.getElem?_of_mem hm
      have hji : j < i := by have := (List.getElem?_eq_some_iff.1 hj).1; rw [List.length_take] at this; omega
      rw [List.getElem?_take_of_lt hji] at hj
      exact hno j x (by omega) hj rfl
    by_cases hlt : k < n
    · have hki : (k : Int) < n := by omega
      obtain ⟨y, hy⟩ : ∃ y, l[k]? = some y := ⟨_, List.getElem?_eq_getElem (by omega)⟩
      obtain ⟨g, o, rfl, hg, hcell⟩ := HK.out (by intro e; rw [e] at hnn; simp at hnn; omega)
      have q0 := hcell k y hy
      by_cases hyx : y = x
      · subst hyx
        have HV : Hid (AtIs l y k) := fun i hi => by
          constructor
          · intro e
            have e : k = i := by omega
            subst e
            exact hnt k (Nat.le_refl _)
          · intro hm
            have h1 : k ≤ i := Nat.not_lt.1 fun h => hno i y h hi rfl
            have h2 : ¬ k < i := fun h => hm (List.mem_of_getElem? (i := k) (by rw [List.getElem?_take_of_lt h]; exact hy))
            omega
        clear hno hy hcell hnt
        go_wp2
        go_ret
        exact ⟨⟨_, rfl, HV.out⟩, rfl⟩
      · have hyx1 : (y == x) = false := by simp [hyx]
        have HNO := hid (show ∀ (j : Nat) (z : Int), j < k + 1 → l[j]? = some z → z ≠ x from fun j z hj hz => by
          by_cases e : j = k
          · subst e; rw [hy] at hz; cases hz; exact hyx
          · exact hno j z (by omega) hz)
        clear hno hy hcell hnt
        go_wp2
        go_roundw
        case rel => exact ⟨k + 1, by go_num, by omega, HNO.out, trivial⟩
        case measure => simp [intOf]; omega
    · have hkn' : k = n := by omega
      subst hkn'
      have HV : Hid (AtIs l x (-1)) := fun i hi => by
        exact absurd rfl (hno i x (by have := (List.getElem?_eq_some_iff.1 hi).1; omega) hi)
      clear hno hlt hnt
      go_wp2
      go_ret
      exact ⟨⟨_, rfl, HV.out⟩, rfl⟩
def mayQ (ps : List Int) (how w h : Int) : Bool := mayP ps w h && decide (1 ≤ how ∧ how ≤ 5)
def mayAll (ps : List Int) (k : Nat) : Prop := ∀ (i : Nat) (p : Int), i < k → ps[i]? = some p → p ∉ ps.take i ∧ isPaneB p = true
theorem mayQ_no {ps : List Int} {how w h : Int} {k : Nat} {p : Int} (hk : ps[k]? = some p) (hno : p ∈ ps.take k ∨ isPaneB p = false) : mayQ ps how w h = false := by
  unfold mayQ
  rw [mayP_no hk (hno.imp id fun e => by rw [e, Bool.and_false]), Bool.false_and]
theorem mayQ_iff {ps : List Int} {how w h : Int} (ha : mayAll ps ps.length) : mayQ ps how w h = true ↔ (1 ≤ ps.length ∧ ps.length ≤ 8) ∧ (1 ≤ how ∧ how ≤ 5) ∧ sizeB w h = true := by
  unfold mayQ
  rw [Bool.and_eq_true, decide_eq_true_eq]
  constructor
  · rintro ⟨h1, h2⟩
    obtain ⟨a, b, _⟩ := mayP_iff.1 h1
    exact ⟨a, h2, sizeB_iff.2 b⟩
  · rintro ⟨a, b, c⟩
    exact ⟨mayP_iff.2 ⟨a, sizeB_iff.1 c, nodup_take _ ps rfl fun i p hi => (ha i p (List.getElem?_eq_some_iff.1 hi).1 hi).1, fun p hp => by
      obtain ⟨i, hi⟩ := List.getElem?_of_mem hp
      exact (ha i p (List.getElem?_eq_some_iff.1 hi).1 hi).2⟩, b⟩
set_option maxRecDepth 100000 in
set_option maxHeartbeats 4000000 in
theorem rmay_any (v : Value) (ps : List Int) (how w h : Int) (W : World) (hv : NRow W v ps) (hn : ps.length ≤ 1000) : Calls Try.prog 20 #[v, .int .i64 how, .int .i64 w, .int .i64 h] W fun e w' => e = .returned (.bool (mayQ ps how w h)) ∧ w' = W := by
  have HAT := hid (fun x => rat_any v ps x W hv hn)
  have HSZ := hid (rsize11_any w h W)
  obtain ⟨A, c, rfl, _, hk⟩ := hv
  obtain ⟨n, hnn⟩ : ∃ n, ps.length = n := ⟨_, rfl⟩
  rw [hnn] at hn HAT ⊢
  have HK := hid hk
  have HN := hid hnn
  have hni : (n : Int) ≤ 1000 := by omega
  clear hk hnn
  go_enter Try.func20, Try.ntmps20
  go_wp2_with fail
  go_loopw [13] (fun i wr => ∃ k : Nat, i = .int .i64 k ∧ k ≤ n ∧ mayAll ps k ∧ W = wr) (fun i _ => n - (intOf i).toNat)
  case atStart => exact ⟨0, rfl, Nat.zero_le _, fun i p hi => absurd hi (Nat.not_lt_zero _), rfl⟩
  case round =>
    obtain ⟨k, rfl, hkn, hm, rfl⟩ := hrel
    by_cases hlt : k < n
    · have hki : (k : Int) < n := by omega
      obtain ⟨p, hp⟩ : ∃ p, ps[k]? = some p := ⟨_, List.getElem?_eq_getElem (by rw [HN.out]; exact hlt)⟩
      obtain ⟨g, o, rfl, hg, hcell⟩ := HK.out (by intro e; have := HN.out; rw [e] at this; simp at this; omega)
      have q0 := hcell k p hp
      by_cases h1 : p < 1
      · have d1 : decide (p < 1) = true := decide_eq_true h1
        have hP : Hid (mayQ ps how w h = false) := mayQ_no hp (.inr (decide_eq_false (by omega)))
        clear hp hcell hm h1
        go_wp2
        go_ret
        exact ⟨ret_bool hP.out.symm, rfl⟩
      · have d1 : decide (p < 1) = false := decide_eq_false h1
        by_cases h2 : 999 < p
        · have d2 : decide (999 < p) = true := decide_eq_true h2
          have hP : Hid (mayQ ps how w h = false) := mayQ_no hp (.inr (decide_eq_false (by omega)))
          clear hp hcell hm h1 h2
          go_wp2
          go_ret
          exact ⟨ret_bool hP.out.symm, rfl⟩
        · have d2 : decide (999 < p) = false := decide_eq_false h2
          have hip : isPaneB p = true := decide_eq_true (by omega)
          have HA := hid (HAT.out p)
          by_cases hd : p ∈ ps.take k
          · have hP : Hid (mayQ ps how w h = false) := mayQ_no hp (.inl hd)
            have HPP := hid hp
            have HD := hid hd
            clear hp hcell hm h1 h2 hd
            go_wp2_with ((with_reducible refine HA.out.mono ?_); rintro e w2 ⟨⟨r, rfl, hr⟩, rfl⟩; have hne : (r != (k : Int)) = true := (by simp; intro e; exact (hr k HPP.out).1 e HD.out); clear hr)
            go_ret
            exact ⟨ret_bool hP.out.symm, rfl⟩
          · have HM := hid (show mayAll ps (k + 1) from fun i q hi hq => by
              by_cases e : i = k
              · subst e; rw [hp] at hq; cases hq; exact ⟨hd, hip⟩
              · exact hm i q (by omega) hq)
            have HPP := hid hp
            have HD := hid hd
            clear hp hcell hm h1 h2 hd hip
            go_wp2_with ((with_reducible refine HA.out.mono ?_); rintro e w2 ⟨⟨r, rfl, hr⟩, rfl⟩; have hre : r = (k : Int) := (hr k HPP.out).2 HD.out; clear hr; subst hre; have hne : ((k : Int) != (k : Int)) = false := (by simp))
            go_roundw
            case rel => exact ⟨k + 1, by go_num, by omega, HM.out, trivial⟩
            case measure => simp [intOf]; omega
    · have hkn' : k = n := by omega
      subst hkn'
      have HQ := hid (mayQ_iff (how := how) (w := w) (h := h) (show mayAll ps ps.length by rw [HN.out]; exact hm))
      have HNN := HN.out
      have hnoc : ∀ (b : Bool), (¬ b = true → ¬ (mayQ ps how w h = true)) → b = false → mayQ ps how w h = false := fun b hb e => by
        rw [Bool.eq_false_iff]
        exact hb (by rw [e]; decide)
      by_cases g1 : 1 ≤ k
      · have e1 : decide ((1 : Int) ≤ k) = true := decide_eq_true (by omega)
        by_cases g2 : k ≤ 8
        · have e2 : decide ((k : Int) ≤ 8) = true := decide_eq_true (by omega)
          by_cases g3 : 1 ≤ how
          · have e3 : decide (1 ≤ how) = true := decide_eq_true g3
            by_cases g4 : how ≤ 5
            · have e4 : decide (how ≤ 5) = true := decide_eq_true g4
              have hP : Hid (mayQ ps how w h = sizeB w h) := by
                unfold Hid
                cases hs : sizeB w h
                · rw [Bool.eq_false_iff]; intro e; have := (HQ.out.1 e).2.2; rw [hs] at this; cases this
                · exact HQ.out.2 ⟨⟨by omega, by omega⟩, ⟨g3, g4⟩, hs⟩
              have g1i : (1 : Int) ≤ k := by omega
              have g2i : (k : Int) ≤ 8 := by omega
              clear HQ hm hlt hnoc
              go_wp2_with ((with_reducible refine HSZ.out.mono ?_); rintro e w2 ⟨rfl, rfl⟩)
              go_ret
              exact ⟨ret_bool hP.out.symm, rfl⟩
            · have e4 : decide (how ≤ 5) = false := decide_eq_false g4
              have hP : Hid (mayQ ps how w h = false) := by unfold Hid; rw [Bool.eq_false_iff]; intro e; exact g4 (HQ.out.1 e).2.1.2
              have g1i : (1 : Int) ≤ k := by omega
              have g2i : (k : Int) ≤ 8 := by omega
              clear HQ hm hlt hnoc
              go_wp2
              go_ret
              exact ⟨ret_bool hP.out.symm, rfl⟩
          · have e3 : decide (1 ≤ how) = false := decide_eq_false g3
            have hP : Hid (mayQ ps how w h = false) := by unfold Hid; rw [Bool.eq_false_iff]; intro e; exact g3 (HQ.out.1 e).2.1.1
            have g1i : (1 : Int) ≤ k := by omega
            have g2i : (k : Int) ≤ 8 := by omega
            clear HQ hm hlt hnoc
            go_wp2
            go_ret
            exact ⟨ret_bool hP.out.symm, rfl⟩
        · have e2 : decide ((k : Int) ≤ 8) = false := decide_eq_false (by omega)
          have hP : Hid (mayQ ps how w h = false) := by unfold Hid; rw [Bool.eq_false_iff]; intro e; have := (HQ.out.1 e).1.2; omega
          have g1i : (1 : Int) ≤ k := by omega
          have g2i : (8 : Int) < k := by omega
          clear HQ hm hlt hnoc
          go_wp2
          go_ret
          exact ⟨ret_bool hP.out.symm, rfl⟩
      · have e1 : decide ((1 : Int) ≤ k) = false := decide_eq_false (by omega)
        have hP : Hid (mayQ ps how w h = false) := by unfold Hid; rw [Bool.eq_false_iff]; intro e; have := (HQ.out.1 e).1.1; omega
        have hk0 : k = 0 := by omega
        subst hk0
        clear HQ hm hlt hnoc
        go_wp2
        go_ret
        exact ⟨ret_bool hP.out.symm, rfl⟩
end Go.Proofs.Ytglfolbimafcaaa
