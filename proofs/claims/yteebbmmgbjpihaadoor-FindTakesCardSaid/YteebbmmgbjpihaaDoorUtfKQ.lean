/- The document's own reading of a letter, walked: how many bytes are asked for, and their value. -/
import Derived.Test.YteebbmmgbjpihaaDoorUtfHQ
import Derived.Test.YteebbmmgbjpihaaDoorRowQ
namespace Go.Proofs.YteebbmmgbjpihaaDoor
open Go.RowKit

def needG (b : Int) : Int := if b < 128 then 1 else if 194 ≤ b ∧ b < 224 then 2 else if 224 ≤ b ∧ b < 240 then 3 else if 240 ≤ b ∧ b < 245 then 4 else 0

set_option maxHeartbeats 400000 in
theorem need_any (b : Int) (h0 : 0 ≤ b) (h1 : b ≤ 255) (w : World) :
    Calls Tryd.prog 56 #[.int .u8 b] w fun e w' => e = .returned (.int .i64 (needG b)) ∧ w = w' := by
  have hc : b < 128 ∨ (128 ≤ b ∧ b < 194) ∨ (194 ≤ b ∧ b < 224) ∨ (224 ≤ b ∧ b < 240) ∨ (240 ≤ b ∧ b < 245) ∨ 245 ≤ b := by omega
  rcases hc with h | ⟨h, h'⟩ | ⟨h, h'⟩ | ⟨h, h'⟩ | ⟨h, h'⟩ | h
  all_goals
    go_enter Tryd.func56, Tryd.ntmps56
    go_wp2
    go_ret
    exact ⟨ret_int (by unfold needG; repeat (first | rw [if_pos (by omega)] | rw [if_neg (by omega)])), rfl⟩

/-- The value of so many bytes, as if they were a letter's: behind k of them. -/
def tbl (n : Nat) : Int := [0, 0, 192, 224, 240].getD n 0
def accV (t : ByteArray) (T : Int) : Nat → Int
  | 0 => 0
  | 1 => byteAt t 0 - T
  | k + 2 => 64 * accV t T (k + 1) + byteAt t (k + 1) - 128
def valV (t : ByteArray) : Int := if t.size = 1 then byteAt t 0 else accV t (tbl t.size) t.size

theorem accV_bd (t : ByteArray) (T : Int) (hT : 192 ≤ T ∧ T ≤ 240) (k : Nat) (hk : k ≤ 4) : -100000000 ≤ accV t T k ∧ accV t T k ≤ 100000000 ∧ (k < 4 → -1100000 ≤ accV t T k ∧ accV t T k ≤ 1100000) := by
  have b0 := byteAt_bd t 0
  have b1 := byteAt_bd t 1
  have b2 := byteAt_bd t 2
  have b3 := byteAt_bd t 3
  have hk5 : k = 0 ∨ k = 1 ∨ k = 2 ∨ k = 3 ∨ k = 4 := by omega
  rcases hk5 with rfl | rfl | rfl | rfl | rfl <;> simp only [accV, Nat.reduceAdd, Nat.zero_add] <;> omega

theorem accV_step (t : ByteArray) (T : Int) {k : Nat} (hk : 1 ≤ k) : accV t T (k + 1) = 64 * accV t T k + byteAt t k - 128 := by
  obtain ⟨m, rfl⟩ : ∃ m, k = m + 1 := ⟨k - 1, by omega⟩
  rfl

set_option maxRecDepth 100000 in
set_option maxHeartbeats 800000 in
theorem value_1 (t : ByteArray) (h : t.size = 1) (w : World) :
    Calls Tryd.prog 58 #[.string t] w fun e w' => e = .returned (.int .i32 (valV t)) ∧ Below w.heap.size w w' := by
  have HV : Hid (valV t = (t[0].toNat : Int)) := by unfold Hid valV; rw [if_pos h, byteAt_eq]
  have h255 := UInt8.toNat_lt t[0]
  have hcl : ∀ W : World, (W.alloc (.cells #[.int .i32 0, .int .i32 0, .int .i32 192, .int .i32 224, .int .i32 240] 21)).cell? ⟨W.heap.size, 1, none⟩ = some (.int .i32 0) := by
    intro W
    simp [World.cell?_alloc_new]
  go_enter Tryd.func58, Tryd.ntmps58
  go_wp2_with fail
  go_loopw [4] (fun i wr => i = .int .i64 0 ∧ Below w.heap.size w wr) (fun i _ => 1 - (intOf i).toNat)
  case atStart => exact ⟨rfl, Below.refl _ _⟩
  case round =>
    obtain ⟨rfl, hb⟩ := hrel
    have hsz := hb.size
    go_wp2_with fail
    go_ret
    exact ⟨ret_int HV.out.symm, hb.alloc hsz _⟩

set_option maxRecDepth 100000 in
set_option maxHeartbeats 800000 in
theorem value_n (t : ByteArray) (h2 : 2 ≤ t.size) (h4 : t.size ≤ 4) (hc : ∀ i, 1 ≤ i → i < t.size → 128 ≤ byteAt t i ∧ byteAt t i ≤ 191) (w : World) :
    Calls Tryd.prog 58 #[.string t] w fun e w' => e = .returned (.int .i32 (valV t)) ∧ Below w.heap.size w w' := by
  obtain ⟨n, hn⟩ : ∃ n, t.size = n := ⟨_, rfl⟩
  rw [hn] at h2 h4
  have hT : 192 ≤ tbl n ∧ tbl n ≤ 240 := by
    have : n = 2 ∨ n = 3 ∨ n = 4 := by omega
    rcases this with rfl | rfl | rfl <;> decide
  have hcl : ∀ W : World, (W.alloc (.cells #[.int .i32 0, .int .i32 0, .int .i32 192, .int .i32 224, .int .i32 240] 21)).cell? ⟨W.heap.size, n, none⟩ = some (.int .i32 (tbl n)) := by
    intro W
    have : n = 2 ∨ n = 3 ∨ n = 4 := by omega
    rcases this with rfl | rfl | rfl <;> simp [World.cell?_alloc_new, tbl]
  obtain ⟨T, hTe⟩ : ∃ T, tbl n = T := ⟨_, rfl⟩
  rw [hTe] at hT hcl
  have HV : Hid (valV t = accV t T n) := by unfold Hid valV; rw [hn, if_neg (by omega), hTe]
  have hbd := accV_bd t T hT
  clear hTe
  have hn1 : ((n : Int) == 1) = false := by simp; omega
  go_enter Tryd.func58, Tryd.ntmps58
  go_wp2_with fail
  go_loopw [3, 4] (fun r i wr => ∃ k : Nat, k ≤ n ∧ i = .int .i64 k ∧ r = .int .i32 (accV t T k) ∧ Below w.heap.size w wr) (fun _ i _ => n - (intOf i).toNat)
  case atStart => exact ⟨0, by omega, rfl, rfl, Below.refl _ _⟩
  case round =>
    obtain ⟨k, hk, rfl, rfl, hb⟩ := hrel
    have hsz := hb.size
    by_cases hlt : k < n
    · have hkt : k < t.size := by omega
      have h255 := UInt8.toNat_lt t[k]
      by_cases hk0 : k = 0
      · subst hk0
        have HA : Hid (accV t T 1 = (t[0].toNat : Int) - T) := by unfold Hid; rw [byteAt_eq]; rfl
        clear hbd hc
        go_wp2_with fail
        go_roundw
        case rel => exact ⟨1, by omega, rfl, by rw [HA.out], hb.alloc hsz _⟩
        case measure => simp [intOf]; omega
      · obtain ⟨c1, c2⟩ := hc k (by omega) hkt
        obtain ⟨b1, b2, b3⟩ := hbd k (by omega)
        obtain ⟨b4, b5⟩ := b3 (by omega)
        have hs := accV_step t T (k := k) (by omega)
        rw [← byteAt_eq hkt] at c1 c2 hs
        have HS := hid hs
        have hk1 : ((k : Int) == 0) = false := by simp; omega
        clear hbd hc b1 b2 b3 hs hk0
        obtain ⟨A, hA⟩ : ∃ A, accV t T k = A := ⟨_, rfl⟩
        rw [hA] at b4 b5 HS ⊢
        clear hA hcl
        go_wp2_with fail
        go_roundw
        case rel => exact ⟨k + 1, by omega, by go_num, by rw [HS.out], hb⟩
        case measure => simp [intOf]; omega
    · obtain rfl : k = n := by omega
      clear hbd hc hcl
      go_wp2_with fail
      go_ret
      exact ⟨ret_int HV.out.symm, hb⟩
end Go.Proofs.YteebbmmgbjpihaaDoor
