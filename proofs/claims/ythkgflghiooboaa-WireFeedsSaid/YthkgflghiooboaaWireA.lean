/- The package wire, its small functions: a text's sum, how many bytes a frame has, whether a text is spoilt, whether a frame stands first. -/
import Derived.Test.YthkgflghiooboaaBase
import Derived.IntWalk
namespace Go.Proofs.Ythkgflghiooboaa
open Go.RowKit

/-- The sum of the first bytes of a text. -/
def sumI (s : ByteArray) : Nat → Int
  | 0 => 0
  | n + 1 => sumI s n + byteAt s n
theorem sumI_bd (s : ByteArray) (n : Nat) : 0 ≤ sumI s n ∧ sumI s n ≤ 255 * n := by
  induction n with
  | zero => simp [sumI]
  | succ n ih => have := byteAt_bd s n; simp only [sumI]; omega
/-- How many bytes a frame has, by its head. -/
def sizeN (s : ByteArray) : Nat := 4 + 256 * (byteAt s 1).toNat + (byteAt s 2).toNat
theorem sizeN_eq (s : ByteArray) : (sizeN s : Int) = 4 + 256 * byteAt s 1 + byteAt s 2 := by
  have := byteAt_bd s 1; have := byteAt_bd s 2
  unfold sizeN; omega
theorem sizeN_bd (s : ByteArray) : 4 ≤ sizeN s ∧ sizeN s ≤ 65539 := by
  have := byteAt_bd s 1; have := byteAt_bd s 2
  unfold sizeN; omega
def sumOK (s : ByteArray) : Bool := decide (byteAt s (sizeN s - 1) = sumI s (sizeN s - 1) % 256)
def wholeB (s : ByteArray) : Bool := decide (3 ≤ s.size ∧ sizeN s ≤ s.size)
def spoiltB (s : ByteArray) : Bool :=
  if s.size = 0 then false else if byteAt s 0 < 1 ∨ 12 < byteAt s 0 then true else if s.size < 3 then false else if 516 < sizeN s then true else wholeB s && !sumOK s
def standsB (s : ByteArray) : Bool := !spoiltB s && wholeB s
def rightB (s : ByteArray) (dead : Bool) : Bool := if dead then decide (s.size = 0) else !spoiltB s && !standsB s

set_option maxHeartbeats 400000 in
theorem sum_any (s : ByteArray) (w : World) (hs : s.size ≤ maxLen) :
    Calls Try.prog 17 #[.string s] w fun e w' => e = .returned (.int .u8 (sumI s s.size % 256)) ∧ w = w' := by
  unfold maxLen at hs
  go_enter Try.func17, Try.ntmps17
  go_wp2
  go_loop [3, 7] (fun n i => ∃ k : Nat, k ≤ s.size ∧ i = .int .i64 k ∧ n = .int .u8 (sumI s k % 256)) (fun _ i => s.size - (intOf i).toNat)
  case atStart => exact ⟨0, Nat.zero_le _, rfl, rfl⟩
  case round =>
    obtain ⟨k, hk, rfl, rfl⟩ := hrel
    by_cases hlt : k < s.size
    · have hbd := sumI_bd s k
      have hbk := byteAt_bd s k
      have HS : Hid (sumI s (k + 1) % 256 = (sumI s k % 256 + (s[k].toNat : Int)) % 256) := by
        unfold Hid; rw [byteAt_eq hlt]; simp only [sumI]; omega
      go_wp2
      go_round
      case rel => exact ⟨k + 1, by omega, by go_num, by rw [HS.out]⟩
      case measure => simp [intOf]; omega
    · have HS : Hid (s.size = k) := by unfold Hid; omega
      go_wp2
      go_ret
      exact ⟨ret_int (by rw [HS.out]), rfl⟩

theorem wraps {s : ByteArray} (h : 3 ≤ s.size) : (s[1].toNat : Int) = byteAt s 1 ∧ (s[2].toNat : Int) = byteAt s 2 := ⟨byteAt_eq (by omega), byteAt_eq (by omega)⟩

set_option maxHeartbeats 400000 in
theorem size_any (s : ByteArray) (w : World) (h3 : 3 ≤ s.size) (hs : s.size ≤ maxLen) :
    Calls Try.prog 27 #[.string s] w fun e w' => e = .returned (.int .i64 (sizeN s : Int)) ∧ ∃ n, w' = w.drewN n := by
  unfold maxLen at hs
  have h1 : (1 : Int) < s.size := by omega
  have h2 : (2 : Int) < s.size := by omega
  have h1n : 1 < s.size := by omega
  have h2n : 2 < s.size := by omega
  obtain ⟨e1, e2⟩ := wraps h3
  have b1 := byteAt_bd s 1
  have b2 := byteAt_bd s 2
  have HE := hid (sizeN_eq s)
  have E1 := hid e1
  have E2 := hid e2
  clear e1 e2
  go_enter Try.func27, Try.ntmps27
  go_wp2
  go_quiet (fail)
  go_wp2
  go_ret
  refine ⟨ret_int ?_, nq, rfl⟩
  have e1 := E1.out
  have e2 := E2.out
  have he := HE.out
  have i1 : wrap64 (s[1].toNat : Int) = byteAt s 1 := by rw [e1]; unfold wrap64; omega
  have i2 : wrap64 (s[2].toNat : Int) = byteAt s 2 := by rw [e2]; unfold wrap64; omega
  show wrap64 (wrap64 (wrap64 (3 + wrap64 (wrap64 (s[1].toNat : Int) * 256)) + wrap64 (s[2].toNat : Int)) + 1) = _
  rw [i1, i2, he]
  unfold wrap64
  omega

theorem size_below (s : ByteArray) (w : World) (h3 : 3 ≤ s.size) (hs : s.size ≤ maxLen) :
    Calls Try.prog 27 #[.string s] w fun e w' => e = .returned (.int .i64 (sizeN s : Int)) ∧ Below w.heap.size w w' :=
  (size_any s w h3 hs).mono fun _ _ ⟨he, n, hn⟩ => ⟨he, by rw [hn]; exact below_drew _ _⟩

theorem whole_yes {s : ByteArray} (h : 3 ≤ s.size ∧ sizeN s ≤ s.size) : wholeB s = true := by simp [wholeB, h]
theorem whole_no {s : ByteArray} (h : s.size < 3 ∨ s.size < sizeN s) : wholeB s = false := by
  unfold wholeB; rw [decide_eq_false_iff_not]; omega

set_option maxHeartbeats 400000 in
theorem whole_any (s : ByteArray) (w : World) (hs : s.size ≤ maxLen) :
    Calls Try.prog 28 #[.string s] w fun e w' => e = .returned (.bool (wholeB s)) ∧ Below w.heap.size w w' := by
  by_cases h3 : 3 ≤ s.size
  · have hc := size_below s w h3 hs
    obtain ⟨n, hn⟩ : ∃ n, sizeN s = n := ⟨_, rfl⟩
    rw [hn] at hc
    have hbd := sizeN_bd s
    rw [hn] at hbd
    unfold maxLen at hs
    by_cases hle : n ≤ s.size
    · have HW := hid (whole_yes (s := s) ⟨h3, by omega⟩)
      clear hn
      have hle2 : (n : Int) ≤ s.size := by omega
      go_enter Try.func28, Try.ntmps28
      go_wp2_with (go_at_call 27; refine hc.mono ?_; rintro e w' ⟨rfl, hb⟩)
      go_ret
      exact ⟨ret_bool (by rw [HW.out]), hb⟩
    · have HW := hid (whole_no (s := s) (Or.inr (by omega)))
      clear hn
      have hle2 : (s.size : Int) < n := by omega
      go_enter Try.func28, Try.ntmps28
      go_wp2_with (go_at_call 27; refine hc.mono ?_; rintro e w' ⟨rfl, hb⟩)
      go_ret
      exact ⟨ret_bool (by rw [HW.out]), hb⟩
  · have HW := hid (whole_no (s := s) (Or.inl (by omega)))
    have h3' : (s.size : Int) < 3 := by omega
    unfold maxLen at hs
    go_enter Try.func28, Try.ntmps28
    go_wp2
    go_ret
    exact ⟨ret_bool (by rw [HW.out]), Below.refl _ _⟩

theorem sumI_extract (s : ByteArray) (n : Nat) (hn : n ≤ s.size) : ∀ k, k ≤ n → sumI (s.extract 0 n) k = sumI s k
  | 0, _ => rfl
  | k + 1, h => by
    simp only [sumI]
    rw [sumI_extract s n hn k (by omega), byteAt_extract _ _ _ _ (by omega), Nat.zero_add]

/-- A frame's last byte, held against the sum of those ahead of it. -/
def lastOK (s : ByteArray) : Bool := decide (byteAt s (s.size - 1) = sumI s (s.size - 1) % 256)

set_option maxHeartbeats 400000 in
theorem sumHolds_any (s : ByteArray) (w : World) (h1 : 1 ≤ s.size) (hs : s.size ≤ maxLen) :
    Calls Try.prog 29 #[.string s] w fun e w' => e = .returned (.bool (lastOK s)) ∧ Below w.heap.size w w' := by
  unfold maxLen at hs
  obtain ⟨m, hm⟩ : ∃ m, s.size = m + 1 := ⟨s.size - 1, by omega⟩
  have hx : (s.extract 0 m).size = m := by rw [size_extract']; omega
  have hc := fun W => sum_any (s.extract 0 m) W (by rw [hx]; unfold maxLen; omega)
  rw [hx, sumI_extract s m (by omega) m (Nat.le_refl _)] at hc
  have hm1 : m < s.size := by omega
  have hm2 : (m : Int) < s.size := by omega
  have hm3 : (m : Int) ≤ s.size := by omega
  have e1 := byteAt_eq hm1
  have HL : Hid (lastOK s = decide ((s[m].toNat : Int) = sumI s m % 256)) := by
    unfold Hid lastOK; rw [e1]; rw [hm]; rfl
  have HM := hid hm
  clear hm hx e1
  go_enter Try.func29, Try.ntmps29
  have hsub : IntKind.i64.wrap ((s.size : Int) - 1) = (m : Int) := by rw [HM.out, IntWalk.i64_in _ (by omega)]; omega
  go_wp2
  go_quiet ((go_at_call 17; exact quiet_same (hc _)))
  go_wp2
  go_ret
  refine ⟨ret_bool ?_, below_drew _ _⟩
  rw [HL.out]
  rfl

theorem lastOK_sub {s : ByteArray} {n : Nat} (h1 : 1 ≤ n) (hn : n ≤ s.size) (hz : sizeN s = n) : lastOK (s.extract 0 n) = sumOK s := by
  have hx : (s.extract 0 n).size = n := by rw [size_extract']; omega
  unfold lastOK sumOK
  rw [hx, hz, byteAt_extract _ _ _ _ (by omega), Nat.zero_add, sumI_extract s n hn _ (by omega)]

theorem spoilt_1 {s : ByteArray} (h : s.size = 0) : spoiltB s = false := by simp [spoiltB, h]
theorem spoilt_2 {s : ByteArray} (h0 : ¬ s.size = 0) (h : byteAt s 0 < 1 ∨ 12 < byteAt s 0) : spoiltB s = true := by unfold spoiltB; rw [if_neg h0, if_pos h]
theorem spoilt_3 {s : ByteArray} (h0 : ¬ s.size = 0) (h : 1 ≤ byteAt s 0 ∧ byteAt s 0 ≤ 12) (h3 : s.size < 3) : spoiltB s = false := by unfold spoiltB; rw [if_neg h0, if_neg (by omega), if_pos h3]
theorem spoilt_4 {s : ByteArray} (h : 1 ≤ byteAt s 0 ∧ byteAt s 0 ≤ 12) (h3 : 3 ≤ s.size) (h4 : 516 < sizeN s) : spoiltB s = true := by unfold spoiltB; rw [if_neg (by omega), if_neg (by omega), if_neg (by omega), if_pos h4]
theorem spoilt_5 {s : ByteArray} (h : 1 ≤ byteAt s 0 ∧ byteAt s 0 ≤ 12) (h3 : 3 ≤ s.size) (h4 : sizeN s ≤ 516) : spoiltB s = (wholeB s && !sumOK s) := by unfold spoiltB; rw [if_neg (by omega), if_neg (by omega), if_neg (by omega), if_neg (by omega)]

set_option maxHeartbeats 1000000 in
theorem spoilt_any (s : ByteArray) (w : World) (hs : s.size ≤ maxLen) :
    Calls Try.prog 19 #[.string s] w fun e w' => e = .returned (.bool (spoiltB s)) ∧ Below w.heap.size w w' := by
  by_cases h0 : s.size = 0
  · have HR := hid (spoilt_1 h0)
    have hn : s.toList.isEmpty = true := by rw [empty_yes h0, ByteArray.toList_eq]; rfl
    clear h0
    go_enter Try.func19, Try.ntmps19
    go_wp2
    go_ret
    exact ⟨ret_bool (by rw [HR.out]), Below.refl _ _⟩
  have hn := empty_no h0
  have hp : 0 < s.size := by omega
  have hp2 : (0 : Int) < s.size := by omega
  have e0 := byteAt_eq hp
  by_cases hb : byteAt s 0 < 1 ∨ 12 < byteAt s 0
  · have HR := hid (spoilt_2 h0 hb)
    rw [← e0] at hb
    have E0 := hid e0
    clear e0 h0
    unfold maxLen at hs
    rcases hb with hb | hb
    · go_enter Try.func19, Try.ntmps19
      go_wp2
      go_ret
      exact ⟨ret_bool (by rw [HR.out]), Below.refl _ _⟩
    · have hb1 : 1 ≤ (s[0].toNat : Int) := by omega
      go_enter Try.func19, Try.ntmps19
      go_wp2
      go_ret
      exact ⟨ret_bool (by rw [HR.out]), Below.refl _ _⟩
  have hb1 : 1 ≤ (s[0].toNat : Int) := by omega
  have hb2 : (s[0].toNat : Int) ≤ 12 := by omega
  have hb' : 1 ≤ byteAt s 0 ∧ byteAt s 0 ≤ 12 := by omega
  by_cases h3 : s.size < 3
  · have HR := hid (spoilt_3 h0 hb' h3)
    have h3' : (s.size : Int) < 3 := by omega
    have E0 := hid e0
    clear e0 h0 hb
    unfold maxLen at hs
    go_enter Try.func19, Try.ntmps19
    go_wp2
    go_ret
    exact ⟨ret_bool (by rw [HR.out]), Below.refl _ _⟩
  have h3' : (3 : Int) ≤ s.size := by omega
  have hz := fun W => size_below s W (by omega) hs
  have hbd := sizeN_bd s
  obtain ⟨n, hn'⟩ : ∃ n, sizeN s = n := ⟨_, rfl⟩
  rw [hn'] at hz hbd
  by_cases h4 : 516 < n
  · have HR := hid (spoilt_4 hb' (by omega) (by omega))
    have h4' : (516 : Int) < n := by omega
    have E0 := hid e0
    clear e0 h0 hb hn'
    unfold maxLen at hs
    go_enter Try.func19, Try.ntmps19
    go_wp2_with (go_at_call 27; refine (hz _).mono ?_; rintro e w2 ⟨rfl, hb2⟩)
    go_ret
    exact ⟨ret_bool (by rw [HR.out]), hb2⟩
  have h4' : (n : Int) ≤ 516 := by omega
  have HR := spoilt_5 hb' (by omega) (by omega)
  have hw := fun W => whole_any s W hs
  by_cases h5 : n ≤ s.size
  · have hle2 : (n : Int) ≤ s.size := by omega
    have hx : (s.extract 0 n).size = n := by rw [size_extract']; omega
    have hl := fun W => sumHolds_any (s.extract 0 n) W (by omega) (by rw [hx]; unfold maxLen at *; omega)
    rw [lastOK_sub (by omega) h5 hn'] at hl
    rw [whole_yes ⟨by omega, by omega⟩] at HR hw
    have HR := hid HR
    have E0 := hid e0
    clear e0 h0 hb hn' hx
    unfold maxLen at hs
    go_enter Try.func19, Try.ntmps19
    have hb := Below.refl w.heap.size w
    go_wp2_with (first | (go_at_call 27; refine (from_ (hz _) hb).mono ?_; rintro e w2 ⟨rfl, hb⟩) | (go_at_call 28; refine (from_ (hw _) hb).mono ?_; rintro e w3 ⟨rfl, hb⟩) | (go_at_call 29; refine (from_ (hl _) hb).mono ?_; rintro e w4 ⟨rfl, hb⟩))
    go_ret
    exact ⟨ret_bool (by rw [HR.out]; rfl), hb⟩
  · rw [whole_no (by omega)] at HR hw
    have HR := hid HR
    have E0 := hid e0
    clear e0 h0 hb hn'
    unfold maxLen at hs
    go_enter Try.func19, Try.ntmps19
    go_wp2_with (first | (go_at_call 27; refine (hz _).mono ?_; rintro e w2 ⟨rfl, hb2⟩) | (go_at_call 28; refine (hw _).mono ?_; rintro e w3 ⟨rfl, hb3⟩))
    go_ret
    exact ⟨ret_bool (by rw [HR.out]; rfl), hb2.trans (hb3.mono hb2.size)⟩

set_option maxHeartbeats 400000 in
theorem stands_any (s : ByteArray) (w : World) (hs : s.size ≤ maxLen) :
    Calls Try.prog 24 #[.string s] w fun e w' => e = .returned (.bool (standsB s)) ∧ Below w.heap.size w w' := by
  have h1 := fun W => spoilt_any s W hs
  have h2 := fun W => whole_any s W hs
  have HR : Hid (standsB s = (!spoiltB s && wholeB s)) := rfl
  obtain ⟨a, ha⟩ : ∃ a, spoiltB s = a := ⟨_, rfl⟩
  obtain ⟨b, hb⟩ : ∃ b, wholeB s = b := ⟨_, rfl⟩
  rw [ha] at h1
  rw [hb] at h2
  have HR : Hid (standsB s = (!a && b)) := by unfold Hid; rw [HR.out, ha, hb]
  clear ha hb
  have hb := Below.refl w.heap.size w
  cases a
  all_goals
    go_enter Try.func24, Try.ntmps24
    go_wp2_with (first | (go_at_call 19; refine (from_ (h1 _) hb).mono ?_; rintro e w2 ⟨rfl, hb⟩) | (go_at_call 28; refine (from_ (h2 _) hb).mono ?_; rintro e w3 ⟨rfl, hb⟩))
    go_ret
    exact ⟨ret_bool (by rw [HR.out]; rfl), hb⟩

set_option maxHeartbeats 400000 in
theorem right_any (s : ByteArray) (dead : Bool) (w : World) (hs : s.size ≤ maxLen) :
    Calls Try.prog 11 #[.agg #[.string s, .bool dead]] w fun e w' => e = .returned (.bool (rightB s dead)) ∧ Below w.heap.size w w' := by
  cases dead
  · have h1 := fun W => spoilt_any s W hs
    have h2 := fun W => stands_any s W hs
    have HR : Hid (rightB s false = (!spoiltB s && !standsB s)) := rfl
    obtain ⟨a, ha⟩ : ∃ a, spoiltB s = a := ⟨_, rfl⟩
    obtain ⟨b, hb⟩ : ∃ b, standsB s = b := ⟨_, rfl⟩
    rw [ha] at h1
    rw [hb] at h2
    have HR : Hid (rightB s false = (!a && !b)) := by unfold Hid; rw [HR.out, ha, hb]
    clear ha hb
    cases a
    all_goals
      go_enter Try.func11, Try.ntmps11
      go_wp2_with (first | (go_at_call 19; refine (h1 _).mono ?_; rintro e w2 ⟨rfl, hb⟩; obtain ⟨hc, hf⟩ := bcell hb) | (go_at_call 24; refine (from_ (h2 _) hb).mono ?_; rintro e w3 ⟨rfl, hb⟩))
      go_ret
      exact ⟨ret_bool (by rw [HR.out]; rfl), Below.behind hb⟩
  · by_cases h0 : s.size = 0
    · have HR : Hid (rightB s true = true) := by unfold Hid rightB; simp [h0]
      have hn : s.toList.isEmpty = true := by rw [empty_yes h0, ByteArray.toList_eq]; rfl
      clear h0
      go_enter Try.func11, Try.ntmps11
      go_wp2
      go_ret
      exact ⟨ret_bool (by rw [HR.out]), below_alloc _ _⟩
    · have HR : Hid (rightB s true = false) := by unfold Hid rightB; simp [h0]
      have hn := empty_no h0
      clear h0
      go_enter Try.func11, Try.ntmps11
      go_wp2
      go_ret
      exact ⟨ret_bool (by rw [HR.out]), below_alloc _ _⟩
end Go.Proofs.Ythkgflghiooboaa
