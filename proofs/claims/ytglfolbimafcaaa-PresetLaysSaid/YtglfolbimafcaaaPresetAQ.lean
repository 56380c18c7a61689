/- Layer 12, the package: Even. -/
import Derived.Test.YtglfolbimafcaaaPresetMQ
import Derived.Test.YtglfolbimafcaaaIntsQ
import Derived.Laws.MakeOwn
namespace Go.Proofs.Ytglfolbimafcaaa
open Go.RowKit

def zI (n : Nat) : Array Value := (List.replicate n (Value.int .i64 0)).toArray
theorem mk_ints (n : Nat) (hn : n ≤ 1000) (W : World) : (Instr.makeSlice 36 (.int .i64 (n : Int)) (.int .i64 (n : Int))).run Try.prog W = .ok (.slice (some ⟨W.heap.size, 0, none⟩) n n) (W.alloc (.cells (madeCells #[.int .i64 0] (n * 1)) 3)) := by
  obtain ⟨i0, hi, hz0, hz1, hz2⟩ := info_parts int_info
  have h := run_make (P := Try.prog) W 36 3 i0 _ Try.underlying36 hi hz0 .i64 .i64 (n : Int) (n : Int) (by omega) (by omega) (by rw [hz2]; omega) (by omega)
  rw [hz1] at h
  simp only [Int.toNat_natCast] at h
  exact h
theorem made_ints (n : Nat) : madeCells #[.int .i64 0] (n * 1) = (ints (List.replicate n 0)).toArray := by
  unfold madeCells ints
  apply Array.ext_getElem?
  intro i
  simp only [Nat.mul_one, Array.getElem?_map, List.map_replicate, List.getElem?_toArray, List.getElem?_replicate]
  by_cases h : i < n
  · rw [Array.getElem?_range, if_pos h, if_pos h]; simp [Nat.mod_one]
  · rw [Array.getElem?_range, if_neg h, if_neg h]; rfl
/-- What Even comes to. -/
def EvenPost (W : World) (c m : Int) (e : Ending) (w' : World) : Prop :=
  Below W.heap.size W w' ∧ ((¬ (1 ≤ c ∧ c ≤ 80 ∧ 1 ≤ m ∧ m ≤ 8) ∧ e = .returned (.tuple #[.slice none 0 0, .int .i64 1])) ∨ ((1 ≤ c ∧ c ≤ 80 ∧ 1 ≤ m ∧ m ≤ 8) ∧ roomB c.toNat m.toNat = false ∧ e = .returned (.tuple #[.slice none 0 0, .int .i64 9])) ∨
    ((1 ≤ c ∧ c ≤ 80 ∧ 1 ≤ m ∧ m ≤ 8) ∧ roomB c.toNat m.toNat = true ∧ ∃ g, W.heap.size ≤ g ∧ e = .returned (.tuple #[.slice (some ⟨g, 0, none⟩) m.toNat m.toNat, .int .i64 0]) ∧ Box w' g 3 (ints (evenL c.toNat m.toNat)).toArray))

/-- The row as far as it is filled. -/
def evP (c m k : Nat) : List Int := (List.range m).map fun i => if i < k then (shareN c m i : Int) else 0
theorem evP_zero (c m : Nat) : evP c m 0 = List.replicate m 0 := by
  unfold evP
  simp only [Nat.not_lt_zero, if_false]
  apply List.ext_getElem?
  intro i
  simp [List.getElem?_replicate]
  by_cases h : i < m <;> simp [h]
theorem evP_full (c m : Nat) : evP c m m = evenL c m := by
  unfold evP evenL
  refine List.map_congr_left fun i hi => ?_
  rw [if_pos (List.mem_range.1 hi)]
theorem evP_at {c m k i : Nat} (hi : i < m) : (ints (evP c m k)).toArray[i]? = some (.int .i64 (if i < k then (shareN c m i : Int) else 0)) := by
  simp [ints, evP, hi]
theorem evP_step {c m k : Nat} (hk : k < m) : ((ints (evP c m k)).toArray.setIfInBounds k (.int .i64 (shareN c m k))) = (ints (evP c m (k + 1))).toArray := by
  apply Array.ext_getElem?
  intro i
  by_cases hi : i < m
  · rw [evP_at hi, Array.getElem?_setIfInBounds, evP_at hi]
    by_cases h : k = i
    · subst h
      rw [if_pos rfl, if_pos (by simp [ints, evP, hk]), if_pos (by omega)]
    · rw [if_neg h]
      by_cases h2 : i < k
      · rw [if_pos h2, if_pos (by omega)]
      · rw [if_neg h2, if_neg (by omega)]
  · rw [Array.getElem?_eq_none (by simp [ints, evP]; omega), Array.getElem?_eq_none (by simp [ints, evP]; omega)]
theorem set_twice {cs : Array Value} {k : Nat} (u v : Value) : (cs.setIfInBounds k u).setIfInBounds k v = cs.setIfInBounds k v := by
  apply Array.ext_getElem?
  intro i
  simp only [Array.getElem?_setIfInBounds, Array.size_setIfInBounds]
  split <;> rfl
set_option maxRecDepth 100000 in
set_option maxHeartbeats 2000000 in
theorem even_bad (c m : Int) (W : World) (h : ¬ (1 ≤ c ∧ c ≤ 80 ∧ 1 ≤ m ∧ m ≤ 8)) : Calls Try.prog 16 #[.int .i64 c, .int .i64 m] W (EvenPost W c m) := by
  have HP : Hid (EvenPost W c m (.returned (.tuple #[.slice none 0 0, .int .i64 1])) W) := ⟨Below.refl _ _, .inl ⟨h, rfl⟩⟩
  by_cases h1 : c < 1
  · have d1 : decide (c < 1) = true := decide_eq_true h1
    clear h h1
    go_enter Try.func16, Try.ntmps16
    go_wp2
    go_ret2
    exact HP.out
  · have d1 : decide (c < 1) = false := decide_eq_false h1
    by_cases h2 : 80 < c
    · have d2 : decide (80 < c) = true := decide_eq_true h2
      clear h h1 h2
      go_enter Try.func16, Try.ntmps16
      go_wp2
      go_ret2
      exact HP.out
    · have d2 : decide (80 < c) = false := decide_eq_false h2
      by_cases h3 : m < 1
      · have d3 : decide (m < 1) = true := decide_eq_true h3
        clear h h1 h2 h3
        go_enter Try.func16, Try.ntmps16
        go_wp2
        go_ret2
        exact HP.out
      · have d3 : decide (m < 1) = false := decide_eq_false h3
        have d4 : decide (8 < m) = true := decide_eq_true (by omega)
        clear h h1 h2 h3
        go_enter Try.func16, Try.ntmps16
        go_wp2
        go_ret2
        exact HP.out
set_option maxRecDepth 100000 in
set_option maxHeartbeats 4000000 in
theorem even_good (c m : Nat) (W : World) (hc1 : 1 ≤ c) (hc : c ≤ 80) (hm1 : 1 ≤ m) (hm : m ≤ 8) : Calls Try.prog 16 #[.int .i64 c, .int .i64 m] W (EvenPost W c m) := by
  have d1 : decide ((c : Int) < 1) = false := decide_eq_false (by omega)
  have d2 : decide (80 < (c : Int)) = false := decide_eq_false (by omega)
  have d3 : decide ((m : Int) < 1) = false := decide_eq_false (by omega)
  have d4 : decide (8 < (m : Int)) = false := decide_eq_false (by omega)
  have hcm : (1 ≤ (c : Int) ∧ (c : Int) ≤ 80 ∧ 1 ≤ (m : Int) ∧ (m : Int) ≤ 8) := by omega
  by_cases hr : roomB c m = true
  · have hle : m ≤ c + 1 - m := by unfold roomB at hr; exact of_decide_eq_true hr
    have HP := hid (fun g w' (hb : Below W.heap.size W w') (hg : W.heap.size ≤ g) (hx : Box w' g 3 (ints (evenL c m)).toArray) => show EvenPost W c m (.returned (.tuple #[.slice (some ⟨g, 0, none⟩) m m, .int .i64 0])) w' from ⟨hb, .inr (.inr ⟨hcm, hr, g, hg, rfl, hx⟩)⟩)
    have d5 : decide ((c : Int) - ((m : Int) - 1) < m) = false := decide_eq_false (by omega)
    have hmk := mk_ints m (by omega)
    rw [made_ints, ← evP_zero c m] at hmk
    have HX := hid (Box.new W 3 (ints (evP c m 0)).toArray)
    have HB := hid (below_alloc W (.cells (ints (evP c m 0)).toArray 3))
    obtain ⟨q, hq⟩ : ∃ q : Nat, q = (c + 1 - m) / m := ⟨_, rfl⟩
    obtain ⟨s, hs⟩ : ∃ s : Nat, s = (c + 1 - m) % m := ⟨_, rfl⟩
    have hq1 : ((c : Int) - ((m : Int) - 1)).tdiv m = q := by
      rw [show (c : Int) - ((m : Int) - 1) = ((c + 1 - m : Nat) : Int) by omega, Int.tdiv_eq_ediv_of_nonneg (by omega), hq]; rfl
    have hs1 : ((c : Int) - ((m : Int) - 1)).tmod m = s := by
      rw [show (c : Int) - ((m : Int) - 1) = ((c + 1 - m : Nat) : Int) by omega, Int.tmod_eq_emod_of_nonneg (by omega), hs]; rfl
    have hq80 : q ≤ 80 := by rw [hq]; exact Nat.le_trans (Nat.div_le_self _ _) (by omega)
    have hs80 : s < m := by rw [hs]; exact Nat.mod_lt _ (by omega)
    have HS := hid (fun i => (show shareN c m i = q + (if i < s then 1 else 0) by unfold shareN; rw [← hq, ← hs]))
    obtain ⟨z, hz⟩ : ∃ z, (c : Int) - ((m : Int) - 1) = z := ⟨_, rfl⟩
    rw [hz] at hq1 hs1 d5
    have hm0 : ¬ (m : Int) = 0 := by omega
    have hz2 : 0 ≤ z ∧ z ≤ 80 := by omega
    have hw1 : IntKind.i64.wrap (q : Int) = q := IntWalk.i64_in _ (by omega)
    have hw2 : IntKind.i64.wrap (s : Int) = s := IntWalk.i64_in _ (by omega)
    clear hr hle hq hs hcm
    go_enter Try.func16, Try.ntmps16
    go_wp2_with fail
    go_loopw [34] (fun i wr => ∃ k : Nat, i = .int .i64 k ∧ k ≤ m ∧ Below W.heap.size W wr ∧ Box wr W.heap.size 3 (ints (evP c m k)).toArray) (fun i _ => m - (intOf i).toNat)
    case atStart => exact ⟨0, rfl, Nat.zero_le _, HB.out, HX.out⟩
    case round =>
      obtain ⟨k, rfl, hkm, hbr, hx⟩ := hrel
      by_cases hk : k < m
      · have hki : (k : Int) < m := by omega
        have c0 : wr.cell? ⟨W.heap.size, k, none⟩ = some (.int .i64 0) := (hx.cell k).trans (by rw [evP_at hk, if_neg (Nat.lt_irrefl k)])
        have f0 := hx.free k
        have hlt := hx.lt
        by_cases hks : k < s
        · have e1 : decide ((k : Int) < s) = true := decide_eq_true (by omega)
          have hx2 := (hx.set (i := k) (.int .i64 q)).set (i := k) (.int .i64 (q + 1))
          rw [set_twice, show ((q : Int) + 1) = ((shareN c m k : Nat) : Int) by rw [HS.out, if_pos hks]; rfl, evP_step hk] at hx2
          rw [show ((shareN c m k : Nat) : Int) = (q : Int) + 1 by rw [HS.out, if_pos hks]; rfl] at hx2
          have HX2 := hid hx2
          have HB2 := hid (below_set (below_set hbr (Nat.le_refl _) (i := k) (.int .i64 q)) (Nat.le_refl _) (i := k) (.int .i64 (q + 1)))
          clear hbr hx hx2
          go_wp2
          go_roundw
          case rel => exact ⟨k + 1, by go_num, by omega, HB2.out, HX2.out⟩
          case measure => simp [intOf]; omega
        · have e1 : decide ((k : Int) < s) = false := decide_eq_false (by omega)
          have hx2 := hx.set (i := k) (.int .i64 q)
          rw [show (q : Int) = ((shareN c m k : Nat) : Int) by rw [HS.out, if_neg hks]; rfl, evP_step hk] at hx2
          rw [show ((shareN c m k : Nat) : Int) = (q : Int) by rw [HS.out, if_neg hks]; rfl] at hx2
          have HX2 := hid hx2
          have HB2 := hid (below_set hbr (Nat.le_refl _) (i := k) (.int .i64 q))
          clear hbr hx hx2
          go_wp2
          go_roundw
          case rel => exact ⟨k + 1, by go_num, by omega, HB2.out, HX2.out⟩
          case measure => simp [intOf]; omega
      · have hkn : k = m := by omega
        subst hkn
        rw [evP_full] at hx
        have HE := hid (HP.out _ _ hbr (Nat.le_refl _) hx)
        clear hbr hx hk
        go_wp2
        go_ret2
        exact HE.out
  · have hr' : roomB c m = false := by simpa using hr
    have hle : ¬ m ≤ c + 1 - m := by intro h; exact hr (decide_eq_true h)
    have HP : Hid (EvenPost W c m (.returned (.tuple #[.slice none 0 0, .int .i64 9])) W) := ⟨Below.refl _ _, .inr (.inl ⟨hcm, hr', rfl⟩)⟩
    have d5 : decide ((c : Int) - ((m : Int) - 1) < m) = true := decide_eq_true (by omega)
    clear hr hr' hle hcm
    go_enter Try.func16, Try.ntmps16
    go_wp2
    go_ret2
    exact HP.out
end Go.Proofs.Ytglfolbimafcaaa
