/- The reference of layer 2, its small functions. -/
import Derived.Test.YthkgflghiooboaaWireN
import Derived.Test.YthkgflghiooboaaWireG
namespace Go.Proofs.Ythkgflghiooboaa
open Go.RowKit

set_option maxHeartbeats 400000 in
theorem rsum_any (s : ByteArray) (w : World) (hs : s.size ≤ maxLen) :
    Calls Try.prog 25 #[.string s] w fun e w' => e = .returned (.int .u8 (sumI s s.size % 256)) ∧ w = w' := by
  unfold maxLen at hs
  go_enter Try.func25, Try.ntmps25
  go_wp2
  go_loop [3, 4] (fun n i => ∃ k : Nat, k ≤ s.size ∧ i = .int .i64 k ∧ n = .int .i64 (sumI s k % 256)) (fun _ i => s.size - (intOf i).toNat)
  case atStart => exact ⟨0, Nat.zero_le _, rfl, rfl⟩
  case round =>
    obtain ⟨k, hk, rfl, rfl⟩ := hrel
    have hbd := sumI_bd s k
    have hm : 0 ≤ sumI s k % 256 ∧ sumI s k % 256 ≤ 255 := by omega
    by_cases hlt : k < s.size
    · have hbk := byteAt_bd s k
      have e := byteAt_eq hlt
      have HS : Hid (sumI s (k + 1) % 256 = (sumI s k % 256 + (s[k].toNat : Int)) % 256) := by
        unfold Hid; rw [e]; simp only [sumI]; omega
      have hbk : 0 ≤ (s[k].toNat : Int) ∧ (s[k].toNat : Int) ≤ 255 := by rw [e]; exact hbk
      clear e
      obtain ⟨x, hx⟩ : ∃ x, sumI s k % 256 = x := ⟨_, rfl⟩
      rw [hx] at HS hm ⊢
      clear hx hbd
      go_wp2
      go_round
      case rel => exact ⟨k + 1, by omega, by go_num, by rw [HS.out]⟩
      case measure => simp [intOf]; omega
    · have HS : Hid (s.size = k) := by unfold Hid; omega
      obtain ⟨x, hx⟩ : ∃ x, sumI s k % 256 = x := ⟨_, rfl⟩
      rw [hx] at hm ⊢
      have HX := hid hx
      have hu : IntKind.u8.wrap x = x := IntWalk.u8_in _ (by omega)
      clear hx hbd
      go_wp2
      go_ret
      exact ⟨ret_int (by rw [HS.out, HX.out]), rfl⟩

set_option maxHeartbeats 400000 in
theorem asks_no (s : ByteArray) (w : World) (h3 : s.size < 3) :
    Calls Try.prog 22 #[.string s] w fun e w' => e = .returned (.int .i64 0) ∧ Below w.heap.size w w' := by
  have h3' : (s.size : Int) < 3 := by omega
  go_enter Try.func22, Try.ntmps22
  go_wp2
  go_ret
  exact ⟨rfl, Below.refl _ _⟩
set_option maxHeartbeats 400000 in
theorem asks_yes (s : ByteArray) (w : World) (h3 : 3 ≤ s.size) (hs : s.size ≤ maxLen) :
    Calls Try.prog 22 #[.string s] w fun e w' => e = .returned (.int .i64 (sizeN s : Int)) ∧ Below w.heap.size w w' := by
  unfold maxLen at hs
  have h1 : (1 : Int) < s.size := by omega
  have h2 : (2 : Int) < s.size := by omega
  have h1n : 1 < s.size := by omega
  have h2n : 2 < s.size := by omega
  have h3' : (3 : Int) ≤ s.size := by omega
  obtain ⟨e1, e2⟩ := wraps h3
  have b1 := byteAt_bd s 1
  have b2 := byteAt_bd s 2
  have HE := hid (sizeN_eq s)
  have E1 := hid e1
  have E2 := hid e2
  clear e1 e2
  go_enter Try.func22, Try.ntmps22
  go_wp2
  go_quiet (fail)
  go_wp2
  go_ret
  refine ⟨ret_int ?_, below_drew _ _⟩
  have e1 := E1.out
  have e2 := E2.out
  have he := HE.out
  have i1 : wrap64 (s[1].toNat : Int) = byteAt s 1 := by rw [e1]; unfold wrap64; omega
  have i2 : wrap64 (s[2].toNat : Int) = byteAt s 2 := by rw [e2]; unfold wrap64; omega
  show wrap64 (wrap64 (wrap64 (256 * wrap64 (s[1].toNat : Int)) + wrap64 (s[2].toNat : Int)) + 4) = _
  rw [i1, i2, he]
  unfold wrap64
  omega

theorem ne_dec (x y : Int) : (x != y) = !(decide (y = x)) := by
  rw [Bool.eq_iff_iff]
  simp
  exact ne_comm

set_option maxRecDepth 100000 in
set_option maxHeartbeats 1000000 in
theorem rspoilt_any (s : ByteArray) (w : World) (hs : s.size ≤ maxLen) :
    Calls Try.prog 23 #[.string s] w fun e w' => e = .returned (.bool (spoiltB s)) ∧ Below w.heap.size w w' := by
  by_cases h0 : s.size = 0
  · have HR := hid (spoilt_1 h0)
    have hn : ((s.size : Int) == 0) = true := by simp [h0]
    clear h0
    go_enter Try.func23, Try.ntmps23
    go_wp2
    go_ret
    exact ⟨ret_bool (by rw [HR.out]), Below.refl _ _⟩
  have hn : ((s.size : Int) == 0) = false := by rw [beq_eq_false_iff_ne]; omega
  have hp : 0 < s.size := by omega
  have hp2 : (0 : Int) < s.size := by omega
  have e0 := byteAt_eq hp
  by_cases hb : byteAt s 0 < 1 ∨ 12 < byteAt s 0
  · have HR := hid (spoilt_2 h0 hb)
    have hbd := byteAt_bd s 0
    rw [← e0] at hb hbd
    have E0 := hid e0
    clear e0 h0
    unfold maxLen at hs
    by_cases hz : (s[0].toNat : Int) = 0
    · have hz' : ((s[0].toNat : Int) == 0) = true := by simp [hz]
      clear hb hz
      go_enter Try.func23, Try.ntmps23
      go_wp2
      go_ret
      exact ⟨ret_bool (by rw [HR.out]), Below.refl _ _⟩
    · have hz' : ((s[0].toNat : Int) == 0) = false := by simp; omega
      have hz'' : 12 < (s[0].toNat : Int) := by omega
      clear hb hz
      go_enter Try.func23, Try.ntmps23
      go_wp2
      go_ret
      exact ⟨ret_bool (by rw [HR.out]), Below.refl _ _⟩
  have hb1 : ((s[0].toNat : Int) == 0) = false := by simp; omega
  have hb2 : (s[0].toNat : Int) ≤ 12 := by omega
  have hb' : 1 ≤ byteAt s 0 ∧ byteAt s 0 ≤ 12 := by omega
  by_cases h3 : s.size < 3
  · have HR := hid (spoilt_3 h0 hb' h3)
    have hA := fun W => asks_no s W h3
    have E0 := hid e0
    clear e0 h0 hb
    unfold maxLen at hs
    go_enter Try.func23, Try.ntmps23
    go_wp2_with (go_at_call 22; refine (hA _).mono ?_; rintro e w2 ⟨rfl, hb⟩)
    go_ret
    exact ⟨ret_bool (by rw [HR.out]), hb⟩
  have hz := fun W => asks_yes s W (by omega) hs
  have hbd := sizeN_bd s
  obtain ⟨n, hn'⟩ : ∃ n, sizeN s = n + 1 := ⟨sizeN s - 1, by omega⟩
  rw [hn'] at hz hbd
  have hnz : (((n : Int) + 1) == 0) = false := by simp; omega
  by_cases h4 : 516 < n + 1
  · have HR := hid (spoilt_4 hb' (by omega) (by omega))
    have h4' : (516 : Int) < (n : Int) + 1 := by omega
    have E0 := hid e0
    clear e0 h0 hb hn'
    unfold maxLen at hs
    go_enter Try.func23, Try.ntmps23
    go_wp2_with (go_at_call 22; refine (hz _).mono ?_; rintro e w2 ⟨rfl, hb2⟩)
    go_ret
    exact ⟨ret_bool (by rw [HR.out]), hb2⟩
  have h4' : ((n : Int) + 1) ≤ 516 := by omega
  have HR := spoilt_5 hb' (by omega) (by omega)
  by_cases h5 : n + 1 ≤ s.size
  · have hle2 : ((n : Int) + 1) ≤ s.size := by omega
    have hle3 : (n : Int) ≤ s.size := by omega
    have hlt3 : (n : Int) < s.size := by omega
    have hlt4 : n < s.size := by omega
    have hle4 : n ≤ s.size := by omega
    have hx : (s.extract 0 n).size = n := by rw [size_extract']; omega
    have hl := fun W => rsum_any (s.extract 0 n) W (by rw [hx]; unfold maxLen at *; omega)
    rw [hx, sumI_extract s n (by omega) n (Nat.le_refl _)] at hl
    have e1 := byteAt_eq hlt4
    have HR : Hid (spoiltB s = !(decide ((s[n].toNat : Int) = sumI s n % 256))) := by
      unfold Hid; rw [HR, whole_yes ⟨by omega, by omega⟩]; unfold sumOK; rw [hn', e1]; rfl
    obtain ⟨x, hx'⟩ : ∃ x, sumI s n % 256 = x := ⟨_, rfl⟩
    rw [hx'] at hl HR
    have hdec : decide (((n : Int) + 1) ≤ (s.size : Int)) = true := by simp; omega
    have hsub : IntKind.i64.wrap ((n : Int) + 1 - 1) = (n : Int) := by rw [IntWalk.i64_in _ (by omega)]; omega
    have hsub2 : IntKind.i64.wrap (n : Int) = (n : Int) := IntWalk.i64_in _ (by omega)
    have E0 := hid e0
    clear e0 h0 hb hn' hx hx' e1
    unfold maxLen at hs
    go_enter Try.func23, Try.ntmps23
    go_wp2_with (go_at_call 22; refine (hz _).mono ?_; rintro e w2 ⟨rfl, hb2⟩)
    go_quiet ((go_at_call 25; exact quiet_same (hl _)))
    go_wp2
    go_ret
    exact ⟨ret_bool (by rw [HR.out]; exact ne_dec _ _), hb2.trans ((below_drew _ _).mono hb2.size)⟩
  · have HR := HR.trans (by rw [whole_no (by omega)]; rfl : _ = false)
    have HR := hid HR
    have hdec : decide (((n : Int) + 1) ≤ (s.size : Int)) = false := by simp; omega
    have E0 := hid e0
    clear e0 h0 hb hn'
    unfold maxLen at hs
    go_enter Try.func23, Try.ntmps23
    go_wp2_with (go_at_call 22; refine (hz _).mono ?_; rintro e w2 ⟨rfl, hb2⟩)
    go_quiet (fail)
    go_wp2
    go_ret
    exact ⟨ret_bool (by rw [HR.out]), hb2.trans ((below_drew _ _).mono hb2.size)⟩

set_option maxHeartbeats 400000 in
theorem rstands_any (s : ByteArray) (w : World) (hs : s.size ≤ maxLen) :
    Calls Try.prog 21 #[.string s] w fun e w' => e = .returned (.bool (standsB s)) ∧ Below w.heap.size w w' := by
  have h1 := fun W => rspoilt_any s W hs
  have hb := Below.refl w.heap.size w
  cases ha : spoiltB s
  · have HR : Hid (standsB s = wholeB s) := by unfold Hid standsB; rw [ha]; rfl
    rw [ha] at h1
    clear ha
    by_cases h3 : s.size < 3
    · have hA := fun W => asks_no s W h3
      rw [whole_no (Or.inl h3)] at HR
      go_enter Try.func21, Try.ntmps21
      go_wp2_with (first | (go_at_call 23; refine (from_ (h1 _) hb).mono ?_; rintro e w2 ⟨rfl, hb⟩) | (go_at_call 22; refine (from_ (hA _) hb).mono ?_; rintro e w3 ⟨rfl, hb⟩))
      go_ret
      exact ⟨ret_bool (by rw [HR.out]), hb⟩
    · have hA := fun W => asks_yes s W (by omega) hs
      have hbd := sizeN_bd s
      have HR : Hid (standsB s = decide ((sizeN s : Int) ≤ s.size)) := by
        unfold Hid; rw [HR.out]; unfold wholeB; rw [Bool.eq_iff_iff]; simp; omega
      obtain ⟨n, hn⟩ : ∃ n, sizeN s = n := ⟨_, rfl⟩
      rw [hn] at hA hbd HR
      clear hn
      have hn0 : (0 : Int) < n := by omega
      by_cases hle : n ≤ s.size
      · have hd : decide ((n : Int) ≤ s.size) = true := by simp; omega
        have hle' : (n : Int) ≤ s.size := by omega
        rw [hd] at HR
        clear hd
        go_enter Try.func21, Try.ntmps21
        go_wp2_with (first | (go_at_call 23; refine (from_ (h1 _) hb).mono ?_; rintro e w2 ⟨rfl, hb⟩) | (go_at_call 22; refine (from_ (hA _) hb).mono ?_; rintro e w3 ⟨rfl, hb⟩))
        go_ret
        exact ⟨ret_bool (by rw [HR.out]), hb⟩
      · have hd : decide ((n : Int) ≤ s.size) = false := by simp; omega
        have hle' : (s.size : Int) < n := by omega
        rw [hd] at HR
        clear hd
        go_enter Try.func21, Try.ntmps21
        go_wp2_with (first | (go_at_call 23; refine (from_ (h1 _) hb).mono ?_; rintro e w2 ⟨rfl, hb⟩) | (go_at_call 22; refine (from_ (hA _) hb).mono ?_; rintro e w3 ⟨rfl, hb⟩))
        go_ret
        exact ⟨ret_bool (by rw [HR.out]), hb⟩
  · have HR : Hid (standsB s = false) := by unfold Hid standsB; rw [ha]; rfl
    rw [ha] at h1
    clear ha
    go_enter Try.func21, Try.ntmps21
    go_wp2_with (go_at_call 23; refine (from_ (h1 _) hb).mono ?_; rintro e w2 ⟨rfl, hb⟩)
    go_ret
    exact ⟨ret_bool (by rw [HR.out]), hb⟩

set_option maxHeartbeats 400000 in
theorem rright_any (s : ByteArray) (dead : Bool) (w : World) (hs : s.size ≤ maxLen) :
    Calls Try.prog 12 #[.agg #[.string s, .bool dead]] w fun e w' => e = .returned (.bool (rightB s dead)) ∧ Below w.heap.size w w' := by
  cases dead
  · have h1 := fun W => rspoilt_any s W hs
    have h2 := fun W => rstands_any s W hs
    have HR : Hid (rightB s false = (!spoiltB s && !standsB s)) := rfl
    obtain ⟨a, ha⟩ : ∃ a, spoiltB s = a := ⟨_, rfl⟩
    obtain ⟨b, hb⟩ : ∃ b, standsB s = b := ⟨_, rfl⟩
    rw [ha] at h1
    rw [hb] at h2
    have HR : Hid (rightB s false = (!a && !b)) := by unfold Hid; rw [HR.out, ha, hb]
    clear ha hb
    cases a
    all_goals
      go_enter Try.func12, Try.ntmps12
      go_wp2_with (first | (go_at_call 23; refine (h1 _).mono ?_; rintro e w2 ⟨rfl, hb⟩; obtain ⟨hc, hf⟩ := bcell hb) | (go_at_call 21; refine (from_ (h2 _) hb).mono ?_; rintro e w3 ⟨rfl, hb⟩))
      go_ret
      exact ⟨ret_bool (by rw [HR.out]; rfl), Below.behind hb⟩
  · by_cases h0 : s.size = 0
    · have HR : Hid (rightB s true = true) := by unfold Hid rightB; simp [h0]
      have hn : s.toList.isEmpty = true := by rw [empty_yes h0, ByteArray.toList_eq]; rfl
      clear h0
      go_enter Try.func12, Try.ntmps12
      go_wp2
      go_ret
      exact ⟨ret_bool (by rw [HR.out]), below_alloc _ _⟩
    · have HR : Hid (rightB s true = false) := by unfold Hid rightB; simp [h0]
      have hn := empty_no h0
      clear h0
      go_enter Try.func12, Try.ntmps12
      go_wp2
      go_ret
      exact ⟨ret_bool (by rw [HR.out]), below_alloc _ _⟩

set_option maxHeartbeats 400000 in
theorem may_any (tag : Int) (t : ByteArray) (w : World) (hs : t.size ≤ maxLen) :
    Calls Try.prog 15 #[.agg #[.int .i64 tag, .string t]] w fun e w' => e = .returned (.bool (mayB tag t.size)) ∧ Below w.heap.size w w' := by
  unfold maxLen at hs
  by_cases h1 : 1 ≤ tag
  · by_cases h2 : tag ≤ 12
    · have HR : Hid (mayB tag t.size = decide ((t.size : Int) ≤ 512)) := by unfold Hid mayB; rw [Bool.eq_iff_iff]; simp; omega
      go_enter Try.func15, Try.ntmps15
      go_wp2
      go_ret
      exact ⟨ret_bool (by rw [HR.out]), below_alloc _ _⟩
    · have HR : Hid (mayB tag t.size = false) := by unfold Hid mayB; rw [decide_eq_false_iff_not]; omega
      have h2' : 12 < tag := by omega
      go_enter Try.func15, Try.ntmps15
      go_wp2
      go_ret
      refine ⟨ret_bool ?_, below_alloc _ _⟩
      rw [HR.out]
  · have HR : Hid (mayB tag t.size = false) := by unfold Hid mayB; rw [decide_eq_false_iff_not]; omega
    have h1' : tag < 1 := by omega
    go_enter Try.func15, Try.ntmps15
    go_wp2
    go_ret
    refine ⟨ret_bool ?_, below_alloc _ _⟩
    rw [HR.out]

set_option maxHeartbeats 1000000 in
theorem bytes_any (tag : Int) (t : ByteArray) (w : World) (h : mayB tag t.size = true) :
    Calls Try.prog 16 #[.agg #[.int .i64 tag, .string t]] w fun e w' => e = .returned (.string (encS tag t)) ∧ Below w.heap.size w w' := by
  unfold mayB at h
  simp at h
  obtain ⟨h1, h2, h3⟩ := h
  have h3' : (t.size : Int) ≤ 512 := by omega
  have hu1 : IntKind.u8.wrap tag = tag := IntWalk.u8_in _ (by omega)
  have hu2 : IntKind.u8.wrap ((t.size : Int) / 256) = (t.size : Int) / 256 := IntWalk.u8_in _ (by omega)
  have hu3 : IntKind.u8.wrap ((t.size : Int) % 256) = (t.size : Int) % 256 := IntWalk.u8_in _ (by omega)
  have hsum := fun W => rsum_any (bodyS tag t) W (by rw [bodyS_size]; unfold maxLen; omega)
  obtain ⟨x, hx⟩ : ∃ x, sumI (bodyS tag t) (bodyS tag t).size % 256 = x := ⟨_, rfl⟩
  rw [hx] at hsum
  have hB : headS tag t.size ++ t = bodyS tag t := rfl
  have HE : Hid (encS tag t = bodyS tag t ++ mkB [x]) := by unfold Hid; rw [← hx]; rfl
  obtain ⟨B, hB2⟩ : ∃ B, bodyS tag t = B := ⟨_, rfl⟩
  rw [hB2] at hsum HE hB
  have hz1 : (headS tag t.size).size ≤ 3 := Nat.le_of_eq (headS_size _ _)
  have hz2 : (mkB [x]).size ≤ 1 := Nat.le_of_eq (mkB_size _)
  have hz3 : B.size ≤ 600 := by rw [← hB2, bodyS_size]; omega
  have hz4 : (headS tag t.size).size + t.size ≤ 9223372036854775807 := by omega
  have hz5 : B.size + (mkB [x]).size ≤ 9223372036854775807 := by omega
  clear hx hB2
  have hc3 : (convert 45 9 (.slice (some ⟨(w.alloc (.cells #[.int .i64 tag, .string t] 23)).heap.size, 0, none⟩) 3 3)).run Try.prog ((w.alloc (.cells #[.int .i64 tag, .string t] 23)).alloc (.cells #[.int .u8 tag, .int .u8 ((t.size : Int) / 256), .int .u8 ((t.size : Int) % 256)] 5)) = .ok (.string (headS tag t.size)) _ := hcv3 tag ((t.size : Int) / 256) ((t.size : Int) % 256) _
  have hc1 := hcv1 x ((w.alloc (.cells #[.int .i64 tag, .string t] 23)).alloc (.cells #[.int .u8 tag, .int .u8 ((t.size : Int) / 256), .int .u8 ((t.size : Int) % 256)] 5))
  simp only [World.size_alloc] at hc3 hc1
  go_enter Try.func16, Try.ntmps16
  go_wp2_with (go_at_call 25; refine (hsum _).mono ?_; rintro e w2 ⟨rfl, rfl⟩)
  go_ret
  exact ⟨by rw [HE.out]; rfl, ((below_alloc _ _).alloc (by simp) _).alloc (by simp; omega) _⟩
end Go.Proofs.Ythkgflghiooboaa
