/- The reference of layer 4: flags without some. -/
import Derived.Test.YtlcahkbbefcjnaaCellM
namespace Go.Proofs.Ytlcahkbbefcjnaa
open Go.RowKit

theorem woN_step (f s : Int) (k : Nat) (b : Int) (hb : (2 : Int) ^ k = b) : woN f s (k + 1) = woN f s k + if f / b % 2 = 1 ∧ s / b % 2 = 0 then b else 0 := by simp only [woN]; rw [hb]
theorem woN_le (f s : Int) (k : Nat) (hk : k ≤ 8) : 0 ≤ woN f s k ∧ woN f s k ≤ 256 := by
  have h := woN_bd f s k
  have : (2 : Int) ^ k ≤ 256 := by
    have hc : k = 0 ∨ k = 1 ∨ k = 2 ∨ k = 3 ∨ k = 4 ∨ k = 5 ∨ k = 6 ∨ k = 7 ∨ k = 8 := by omega
    rcases hc with rfl | rfl | rfl | rfl | rfl | rfl | rfl | rfl | rfl <;> decide
  omega

set_option maxHeartbeats 2000000 in
theorem rWithout_any (f s : Int) (w : World) (hf : 0 ≤ f ∧ f ≤ 1000) (hs : 0 ≤ s ∧ s ≤ 1000) :
    Calls Try.prog 19 #[.int .i64 f, .int .i64 s] w fun e w' => e = .returned (.int .i64 (woG f s)) ∧ w = w' := by
  obtain ⟨hf0, hf1⟩ := hf
  obtain ⟨hs0, hs1⟩ := hs
  have hstep := hid (woN_step f s)
  go_enter Try.func19, Try.ntmps19
  go_wp2
  go_loop [5, 6] (fun o b => ∃ (k : Nat) (B O : Int), k ≤ 8 ∧ (2 : Int) ^ k = B ∧ woN f s k = O ∧ 0 ≤ O ∧ O ≤ 256 ∧ b = .int .i64 B ∧ o = .int .i64 O) (fun _ b => 256 - (intOf b).toNat)
  case atStart => exact ⟨0, 1, 0, by omega, by decide, rfl, by omega, by omega, rfl, rfl⟩
  case round =>
    obtain ⟨k, B, O, hk, hB, hO, hO0, hO1, rfl, rfl⟩ := hrel
    have HO := hid hO
    clear hO
    have hc : k = 0 ∨ k = 1 ∨ k = 2 ∨ k = 3 ∨ k = 4 ∨ k = 5 ∨ k = 6 ∨ k = 7 ∨ k = 8 := by omega
    rcases hc with rfl | rfl | rfl | rfl | rfl | rfl | rfl | rfl | rfl
    · have HS := hid (hstep.out 0 _ hB)
      have H1 := hid (woN_le f s (0 + 1) (by omega))
      have hB' : B = 1 := by rw [← hB]; decide
      have HK := hid (show (2 : Int) ^ (0 + 1) = 2 by decide)
      clear hB hstep
      subst hB'
      by_cases h1 : f % 2 = 1
      · have hb1 : (f % 2 == 1) = true := by simp [h1]
        by_cases h2 : s % 2 = 0
        · have hb2 : (s % 2 == 0) = true := by simp [h2]
          have HR : Hid (woN f s (0 + 1) = O + 1) := by unfold Hid; rw [HS.out, HO.out, if_pos]; exact ⟨by omega, by omega⟩
          clear h1 h2 HS HO
          go_wp2
          go_round
          case rel => exact ⟨0 + 1, 2, O + 1, by omega, HK.out, HR.out, by omega, by have := H1.out; rw [HR.out] at this; omega, rfl, rfl⟩
          case measure => simp [intOf]
        · have hb2 : (s % 2 == 0) = false := by simp [h2]
          have HR : Hid (woN f s (0 + 1) = O) := by unfold Hid; rw [HS.out, HO.out, if_neg (fun h => by omega)]; omega
          clear h1 h2 HS HO
          go_wp2
          go_round
          case rel => exact ⟨0 + 1, 2, O, by omega, HK.out, HR.out, by omega, by omega, rfl, rfl⟩
          case measure => simp [intOf]
      · have hb1 : (f % 2 == 1) = false := by simp [h1]
        have HR : Hid (woN f s (0 + 1) = O) := by unfold Hid; rw [HS.out, HO.out, if_neg (fun h => by omega)]; omega
        clear h1 HS HO
        go_wp2
        go_round
        case rel => exact ⟨0 + 1, 2, O, by omega, HK.out, HR.out, by omega, by omega, rfl, rfl⟩
        case measure => simp [intOf]
    · have HS := hid (hstep.out 1 _ hB)
      have H1 := hid (woN_le f s (1 + 1) (by omega))
      have hB' : B = 2 := by rw [← hB]; decide
      have HK := hid (show (2 : Int) ^ (1 + 1) = 4 by decide)
      clear hB hstep
      subst hB'
      by_cases h1 : f / 2 % 2 = 1
      · have hb1 : (f / 2 % 2 == 1) = true := by simp [h1]
        by_cases h2 : s / 2 % 2 = 0
        · have hb2 : (s / 2 % 2 == 0) = true := by simp [h2]
          have HR : Hid (woN f s (1 + 1) = O + 2) := by unfold Hid; rw [HS.out, HO.out, if_pos]; exact ⟨by omega, by omega⟩
          clear h1 h2 HS HO
          go_wp2
          go_round
          case rel => exact ⟨1 + 1, 4, O + 2, by omega, HK.out, HR.out, by omega, by have := H1.out; rw [HR.out] at this; omega, rfl, rfl⟩
          case measure => simp [intOf]
        · have hb2 : (s / 2 % 2 == 0) = false := by simp [h2]
          have HR : Hid (woN f s (1 + 1) = O) := by unfold Hid; rw [HS.out, HO.out, if_neg (fun h => by omega)]; omega
          clear h1 h2 HS HO
          go_wp2
          go_round
          case rel => exact ⟨1 + 1, 4, O, by omega, HK.out, HR.out, by omega, by omega, rfl, rfl⟩
          case measure => simp [intOf]
      · have hb1 : (f / 2 % 2 == 1) = false := by simp [h1]
        have HR : Hid (woN f s (1 + 1) = O) := by unfold Hid; rw [HS.out, HO.out, if_neg (fun h => by omega)]; omega
        clear h1 HS HO
        go_wp2
        go_round
        case rel => exact ⟨1 + 1, 4, O, by omega, HK.out, HR.out, by omega, by omega, rfl, rfl⟩
        case measure => simp [intOf]
    · have HS := hid (hstep.out 2 _ hB)
      have H1 := hid (woN_le f s (2 + 1) (by omega))
      have hB' : B = 4 := by rw [← hB]; decide
      have HK := hid (show (2 : Int) ^ (2 + 1) = 8 by decide)
      clear hB hstep
      subst hB'
      by_cases h1 : f / 4 % 2 = 1
      · have hb1 : (f / 4 % 2 == 1) = true := by simp [h1]
        by_cases h2 : s / 4 % 2 = 0
        · have hb2 : (s / 4 % 2 == 0) = true := by simp [h2]
          have HR : Hid (woN f s (2 + 1) = O + 4) := by unfold Hid; rw [HS.out, HO.out, if_pos]; exact ⟨by omega, by omega⟩
          clear h1 h2 HS HO
          go_wp2
          go_round
          case rel => exact ⟨2 + 1, 8, O + 4, by omega, HK.out, HR.out, by omega, by have := H1.out; rw [HR.out] at this; omega, rfl, rfl⟩
          case measure => simp [intOf]
        · have hb2 : (s / 4 % 2 == 0) = false := by simp [h2]
          have HR : Hid (woN f s (2 + 1) = O) := by unfold Hid; rw [HS.out, HO.out, if_neg (fun h => by omega)]; omega
          clear h1 h2 HS HO
          go_wp2
          go_round
          case rel => exact ⟨2 + 1, 8, O, by omega, HK.out, HR.out, by omega, by omega, rfl, rfl⟩
          case measure => simp [intOf]
      · have hb1 : (f / 4 % 2 == 1) = false := by simp [h1]
        have HR : Hid (woN f s (2 + 1) = O) := by unfold Hid; rw [HS.out, HO.out, if_neg (fun h => by omega)]; omega
        clear h1 HS HO
        go_wp2
        go_round
        case rel => exact ⟨2 + 1, 8, O, by omega, HK.out, HR.out, by omega, by omega, rfl, rfl⟩
        case measure => simp [intOf]
    · have HS := hid (hstep.out 3 _ hB)
      have H1 := hid (woN_le f s (3 + 1) (by omega))
      have hB' : B = 8 := by rw [← hB]; decide
      have HK := hid (show (2 : Int) ^ (3 + 1) = 16 by decide)
      clear hB hstep
      subst hB'
      by_cases h1 : f / 8 % 2 = 1
      · have hb1 : (f / 8 % 2 == 1) = true := by simp [h1]
        by_cases h2 : s / 8 % 2 = 0
        · have hb2 : (s / 8 % 2 == 0) = true := by simp [h2]
          have HR : Hid (woN f s (3 + 1) = O + 8) := by unfold Hid; rw [HS.out, HO.out, if_pos]; exact ⟨by omega, by omega⟩
          clear h1 h2 HS HO
          go_wp2
          go_round
          case rel => exact ⟨3 + 1, 16, O + 8, by omega, HK.out, HR.out, by omega, by have := H1.out; rw [HR.out] at this; omega, rfl, rfl⟩
          case measure => simp [intOf]
        · have hb2 : (s / 8 % 2 == 0) = false := by simp [h2]
          have HR : Hid (woN f s (3 + 1) = O) := by unfold Hid; rw [HS.out, HO.out, if_neg (fun h => by omega)]; omega
          clear h1 h2 HS HO
          go_wp2
          go_round
          case rel => exact ⟨3 + 1, 16, O, by omega, HK.out, HR.out, by omega, by omega, rfl, rfl⟩
          case measure => simp [intOf]
      · have hb1 : (f / 8 % 2 == 1) = false := by simp [h1]
        have HR : Hid (woN f s (3 + 1) = O) := by unfold Hid; rw [HS.out, HO.out, if_neg (fun h => by omega)]; omega
        clear h1 HS HO
        go_wp2
        go_round
        case rel => exact ⟨3 + 1, 16, O, by omega, HK.out, HR.out, by omega, by omega, rfl, rfl⟩
        case measure => simp [intOf]
    · have HS := hid (hstep.out 4 _ hB)
      have H1 := hid (woN_le f s (4 + 1) (by omega))
      have hB' : B = 16 := by rw [← hB]; decide
      have HK := hid (show (2 : Int) ^ (4 + 1) = 32 by decide)
      clear hB hstep
      subst hB'
      by_cases h1 : f / 16 % 2 = 1
      · have hb1 : (f / 16 % 2 == 1) = true := by simp [h1]
        by_cases h2 : s / 16 % 2 = 0
        · have hb2 : (s / 16 % 2 == 0) = true := by simp [h2]
          have HR : Hid (woN f s (4 + 1) = O + 16) := by unfold Hid; rw [HS.out, HO.out, if_pos]; exact ⟨by omega, by omega⟩
          clear h1 h2 HS HO
          go_wp2
          go_round
          case rel => exact ⟨4 + 1, 32, O + 16, by omega, HK.out, HR.out, by omega, by have := H1.out; rw [HR.out] at this; omega, rfl, rfl⟩
          case measure => simp [intOf]
        · have hb2 : (s / 16 % 2 == 0) = false := by simp [h2]
          have HR : Hid (woN f s (4 + 1) = O) := by unfold Hid; rw [HS.out, HO.out, if_neg (fun h => by omega)]; omega
          clear h1 h2 HS HO
          go_wp2
          go_round
          case rel => exact ⟨4 + 1, 32, O, by omega, HK.out, HR.out, by omega, by omega, rfl, rfl⟩
          case measure => simp [intOf]
      · have hb1 : (f / 16 % 2 == 1) = false := by simp [h1]
        have HR : Hid (woN f s (4 + 1) = O) := by unfold Hid; rw [HS.out, HO.out, if_neg (fun h => by omega)]; omega
        clear h1 HS HO
        go_wp2
        go_round
        case rel => exact ⟨4 + 1, 32, O, by omega, HK.out, HR.out, by omega, by omega, rfl, rfl⟩
        case measure => simp [intOf]
    · have HS := hid (hstep.out 5 _ hB)
      have H1 := hid (woN_le f s (5 + 1) (by omega))
      have hB' : B = 32 := by rw [← hB]; decide
      have HK := hid (show (2 : Int) ^ (5 + 1) = 64 by decide)
      clear hB hstep
      subst hB'
      by_cases h1 : f / 32 % 2 = 1
      · have hb1 : (f / 32 % 2 == 1) = true := by simp [h1]
        by_cases h2 : s / 32 % 2 = 0
        · have hb2 : (s / 32 % 2 == 0) = true := by simp [h2]
          have HR : Hid (woN f s (5 + 1) = O + 32) := by unfold Hid; rw [HS.out, HO.out, if_pos]; exact ⟨by omega, by omega⟩
          clear h1 h2 HS HO
          go_wp2
          go_round
          case rel => exact ⟨5 + 1, 64, O + 32, by omega, HK.out, HR.out, by omega, by have := H1.out; rw [HR.out] at this; omega, rfl, rfl⟩
          case measure => simp [intOf]
        · have hb2 : (s / 32 % 2 == 0) = false := by simp [h2]
          have HR : Hid (woN f s (5 + 1) = O) := by unfold Hid; rw [HS.out, HO.out, if_neg (fun h => by omega)]; omega
          clear h1 h2 HS HO
          go_wp2
          go_round
          case rel => exact ⟨5 + 1, 64, O, by omega, HK.out, HR.out, by omega, by omega, rfl, rfl⟩
          case measure => simp [intOf]
      · have hb1 : (f / 32 % 2 == 1) = false := by simp [h1]
        have HR : Hid (woN f s (5 + 1) = O) := by unfold Hid; rw [HS.out, HO.out, if_neg (fun h => by omega)]; omega
        clear h1 HS HO
        go_wp2
        go_round
        case rel => exact ⟨5 + 1, 64, O, by omega, HK.out, HR.out, by omega, by omega, rfl, rfl⟩
        case measure => simp [intOf]
    · have HS := hid (hstep.out 6 _ hB)
      have H1 := hid (woN_le f s (6 + 1) (by omega))
      have hB' : B = 64 := by rw [← hB]; decide
      have HK := hid (show (2 : Int) ^ (6 + 1) = 128 by decide)
      clear hB hstep
      subst hB'
      by_cases h1 : f / 64 % 2 = 1
      · have hb1 : (f / 64 % 2 == 1) = true := by simp [h1]
        by_cases h2 : s / 64 % 2 = 0
        · have hb2 : (s / 64 % 2 == 0) = true := by simp [h2]
          have HR : Hid (woN f s (6 + 1) = O + 64) := by unfold Hid; rw [HS.out, HO.out, if_pos]; exact ⟨by omega, by omega⟩
          clear h1 h2 HS HO
          go_wp2
          go_round
          case rel => exact ⟨6 + 1, 128, O + 64, by omega, HK.out, HR.out, by omega, by have := H1.out; rw [HR.out] at this; omega, rfl, rfl⟩
          case measure => simp [intOf]
        · have hb2 : (s / 64 % 2 == 0) = false := by simp [h2]
          have HR : Hid (woN f s (6 + 1) = O) := by unfold Hid; rw [HS.out, HO.out, if_neg (fun h => by omega)]; omega
          clear h1 h2 HS HO
          go_wp2
          go_round
          case rel => exact ⟨6 + 1, 128, O, by omega, HK.out, HR.out, by omega, by omega, rfl, rfl⟩
          case measure => simp [intOf]
      · have hb1 : (f / 64 % 2 == 1) = false := by simp [h1]
        have HR : Hid (woN f s (6 + 1) = O) := by unfold Hid; rw [HS.out, HO.out, if_neg (fun h => by omega)]; omega
        clear h1 HS HO
        go_wp2
        go_round
        case rel => exact ⟨6 + 1, 128, O, by omega, HK.out, HR.out, by omega, by omega, rfl, rfl⟩
        case measure => simp [intOf]
    · have HS := hid (hstep.out 7 _ hB)
      have H1 := hid (woN_le f s (7 + 1) (by omega))
      have hB' : B = 128 := by rw [← hB]; decide
      have HK := hid (show (2 : Int) ^ (7 + 1) = 256 by decide)
      clear hB hstep
      subst hB'
      by_cases h1 : f / 128 % 2 = 1
      · have hb1 : (f / 128 % 2 == 1) = true := by simp [h1]
        by_cases h2 : s / 128 % 2 = 0
        · have hb2 : (s / 128 % 2 == 0) = true := by simp [h2]
          have HR : Hid (woN f s (7 + 1) = O + 128) := by unfold Hid; rw [HS.out, HO.out, if_pos]; exact ⟨by omega, by omega⟩
          clear h1 h2 HS HO
          go_wp2
          go_round
          case rel => exact ⟨7 + 1, 256, O + 128, by omega, HK.out, HR.out, by omega, by have := H1.out; rw [HR.out] at this; omega, rfl, rfl⟩
          case measure => simp [intOf]
        · have hb2 : (s / 128 % 2 == 0) = false := by simp [h2]
          have HR : Hid (woN f s (7 + 1) = O) := by unfold Hid; rw [HS.out, HO.out, if_neg (fun h => by omega)]; omega
          clear h1 h2 HS HO
          go_wp2
          go_round
          case rel => exact ⟨7 + 1, 256, O, by omega, HK.out, HR.out, by omega, by omega, rfl, rfl⟩
          case measure => simp [intOf]
      · have hb1 : (f / 128 % 2 == 1) = false := by simp [h1]
        have HR : Hid (woN f s (7 + 1) = O) := by unfold Hid; rw [HS.out, HO.out, if_neg (fun h => by omega)]; omega
        clear h1 HS HO
        go_wp2
        go_round
        case rel => exact ⟨7 + 1, 256, O, by omega, HK.out, HR.out, by omega, by omega, rfl, rfl⟩
        case measure => simp [intOf]
    · have hB' : B = 256 := by rw [← hB]; decide
      clear hB
      subst hB'
      go_wp2
      go_ret
      exact ⟨ret_int HO.out.symm, rfl⟩
end Go.Proofs.Ytlcahkbbefcjnaa
