/- The document's own answer for a letter's bytes, walked. -/
import Derived.Test.YtpcpdbofbbpglaaDoorUtfH
import Derived.Test.YtpcpdbofbbpglaaDoorBytes
namespace Go.Proofs.YtpcpdbofbbpglaaDoor
open Go.RowKit

set_option maxHeartbeats 400000 in
theorem refSize_any (r : Int) (w : World) :
    Calls Tryd.prog 26 #[.int .i32 r] w fun e w' => e = .returned (.int .i64 (sizeOf r)) ∧ w = w' := by
  have hc : r < 128 ∨ (128 ≤ r ∧ r < 2048) ∨ (2048 ≤ r ∧ r < 65536) ∨ 65536 ≤ r := by omega
  rcases hc with h | h | h | h
  all_goals
    go_enter Tryd.func26, Tryd.ntmps26
    go_wp2
    go_ret
    refine ⟨ret_int ?_, rfl⟩
    first
    | rw [(encB_1 h).1]; rfl
    | rw [(encB_2 h).1]; rfl
    | rw [(encB_3 h).1]; rfl
    | rw [(encB_4 h).1]; rfl

theorem enc_mk1 {r : Int} (h : 0 ≤ r ∧ r < 128) : mkB [r] = Utf8.encode r := by
  obtain ⟨h1, h2⟩ := enc_bytes (r := r) (letter_iff.2 (by omega))
  obtain ⟨e, e0⟩ := encB_1 h.2
  rw [e] at h1 h2
  apply bytes_ext
  · rw [mkB_size, h1]; rfl
  · intro i hi
    rw [mkB_size] at hi
    have hi1 : i < 1 := hi
    obtain rfl : i = 0 := by omega
    rw [h2 0 (by omega), mkB_at _ _ hi ⟨h.1, by show r ≤ 255; omega⟩, e0]; rfl

set_option maxHeartbeats 400000 in
theorem refText_1 (r : Int) (h0 : 0 ≤ r) (h : r < 128) (w : World) :
    Calls Tryd.prog 16 #[.int .i32 r] w fun e w' => e = .returned (.string (Utf8.encode r)) ∧ Below w.heap.size w w' := by
  have hs := refSize_any r w
  rw [(encB_1 h).1] at hs
  have hcv := conv_own (P := Tryd.prog) (src := 42) (dst := 9) (ns := [r]) Tryd.underlying42 Tryd.underlying5 Tryd.underlying9 (World.ownsRow_lit (e := 5) (size := 1) w #[.int .u8 r] 1 (Nat.le_refl _) (by decide) rfl)
  rw [enc_mk1 ⟨h0, h⟩] at hcv
  go_enter Tryd.func16, Tryd.ntmps16
  go_wp2_with (go_at_call 26; refine hs.mono ?_; rintro e w' ⟨rfl, rfl⟩)
  go_ret
  exact ⟨rfl, (Below.refl _ _).alloc (Nat.le_refl _) _⟩

def tailI (r : Int) : Nat → List Int
  | 0 => []
  | k + 1 => (128 + r / 64 ^ k % 64) :: tailI r k
theorem tailI_length (r : Int) : ∀ k, (tailI r k).length = k
  | 0 => rfl
  | k + 1 => by rw [tailI, List.length_cons, tailI_length r k]

theorem tailI_at (r : Int) : ∀ k i, i < k → (tailI r k).getD i 0 = 128 + r / 64 ^ (k - 1 - i) % 64
  | k + 1, 0, _ => rfl
  | k + 1, i + 1, h => by
    have := tailI_at r k i (by omega)
    rw [tailI, List.getD_cons_succ, this, show k + 1 - 1 - (i + 1) = k - 1 - i by omega]

theorem enc_mkn {r q : Int} {k : Nat} (hl : letterB r = true) (hk : sizeOf r = k + 1) (hq : r / 64 ^ k = q) (h128 : 128 ≤ r) : mkB (((if k = 1 then 192 else if k = 2 then 224 else 240) + q) :: tailI r k) = Utf8.encode r := by
  obtain ⟨h1, h2⟩ := enc_bytes hl
  rw [hk] at h1 h2
  have hlr := letter_iff.1 hl
  have hr : (k = 1 ∧ r < 2048) ∨ (k = 2 ∧ 2048 ≤ r ∧ r < 65536) ∨ (k = 3 ∧ 65536 ≤ r) := by
    unfold sizeOf at hk
    split at hk
    · omega
    · split at hk
      · omega
      · split at hk <;> omega
  apply bytes_ext
  · rw [mkB_size, h1, List.length_cons, tailI_length]
  · intro i hi
    rw [mkB_size, List.length_cons, tailI_length] at hi
    rw [h2 i hi]
    rcases hr with ⟨rfl, h⟩ | ⟨rfl, h⟩ | ⟨rfl, h⟩
    · obtain ⟨_, e0, e1⟩ := encB_2 (r := r) ⟨h128, h⟩
      have hi2 : i = 0 ∨ i = 1 := by omega
      rcases hi2 with rfl | rfl
      · rw [e0, mkB_at]
        all_goals simp [tailI]
        all_goals omega
      · rw [e1, mkB_at]
        all_goals simp [tailI]
        all_goals omega
    · obtain ⟨_, e0, e1, e2⟩ := encB_3 (r := r) h
      have hi2 : i = 0 ∨ i = 1 ∨ i = 2 := by omega
      rcases hi2 with rfl | rfl | rfl
      · rw [e0, mkB_at]
        all_goals simp [tailI]
        all_goals omega
      · rw [e1, mkB_at]
        all_goals simp [tailI]
        all_goals omega
      · rw [e2, mkB_at]
        all_goals simp [tailI]
        all_goals omega
    · obtain ⟨_, e0, e1, e2, e3⟩ := encB_4 (r := r) h
      have hi2 : i = 0 ∨ i = 1 ∨ i = 2 ∨ i = 3 := by omega
      rcases hi2 with rfl | rfl | rfl | rfl
      · rw [e0, mkB_at]
        all_goals simp [tailI]
        all_goals omega
      · rw [e1, mkB_at]
        all_goals simp [tailI]
        all_goals omega
      · rw [e2, mkB_at]
        all_goals simp [tailI]
        all_goals omega
      · rw [e3, mkB_at]
        all_goals simp [tailI]
        all_goals omega


set_option maxRecDepth 100000 in
set_option maxHeartbeats 800000 in
theorem refText_n (r : Int) (h0 : 128 ≤ r) (h : r ≤ 1114111) (hlr : (0 ≤ r ∧ r ≤ 55295) ∨ (57344 ≤ r ∧ r ≤ 1114111)) (w : World) :
    Calls Tryd.prog 16 #[.int .i32 r] w fun e w' => e = .returned (.string (Utf8.encode r)) ∧ Below w.heap.size w w' := by
  have hs := refSize_any r w
  obtain ⟨n, hn⟩ : ∃ n, sizeOf r = n := ⟨_, rfl⟩
  rw [hn] at hs
  have hn2 : 2 ≤ n ∧ n ≤ 4 := by rw [← hn]; unfold sizeOf; repeat (first | omega | split)
  have hn1 : ((n : Int) == 1) = false := by simp; omega
  have HN := hid hn
  clear hn
  go_enter Tryd.func16, Tryd.ntmps16
  go_wp2_with (go_at_call 26; refine hs.mono ?_; rintro e w' ⟨rfl, rfl⟩)
  go_loopw [0, 4, 5] (fun a t i wr => ∃ k g cap, k + 1 ≤ n ∧ i = .int .i64 ((k + 1 : Nat) : Int) ∧ a = .int .i32 (r / 64 ^ k) ∧ t = .slice (some ⟨g, 0, none⟩) k cap ∧ wr.ownsRow w.heap.size 5 1 (.slice (some ⟨g, 0, none⟩) k cap) k ((tailI r k).map (Value.int .u8)) ∧ Below w.heap.size w wr) (fun _ _ i _ => n - (intOf i).toNat)
  case atStart =>
    refine ⟨0, w.heap.size, 0, by omega, rfl, by simp, rfl, ?_, (Below.refl _ _).alloc (Nat.le_refl _) _⟩
    exact World.ownsRow_lit (e := 5) (size := 1) w #[] 0 (Nat.le_refl _) (by decide) rfl
  case round =>
    obtain ⟨k, g, cap, hk, rfl, rfl, rfl, hown, hb⟩ := hrel
    have hsz := hb.size
    have hq0 : 0 ≤ r / 64 ^ k := Int.ediv_nonneg (by omega) (by exact Int.pow_nonneg (by decide))
    have hq1 : r / 64 ^ k ≤ r := Int.ediv_le_self _ (by omega)
    have hq2 : r / 64 ^ (k + 1) = r / 64 ^ k / 64 := by
      rw [Int.pow_succ, ← Int.ediv_ediv_of_nonneg (by exact Int.pow_nonneg (by decide))]
    have htl := tailI_length r k
    obtain ⟨q, hq⟩ : ∃ q, r / 64 ^ k = q := ⟨_, rfl⟩
    obtain ⟨L, hL⟩ : ∃ L, tailI r k = L := ⟨_, rfl⟩
    have hL2 : tailI r (k + 1) = (128 + q % 64) :: L := by rw [tailI, hq, hL]
    rw [hq] at hq0 hq1 hq2 ⊢
    rw [hL] at hown htl
    have HQ := hid hq
    have HQ2 := hid hq2
    have HL := hid hL
    have HL2 := hid hL2
    clear hq hq2 hL hL2
    by_cases hlt : k + 1 < n
    · have C3 := hid (show 1 + k ≤ 1000000000 by omega)
      have C5 := hid (show ∀ o, w.heap.size ≤ (wr.alloc o).heap.size from fun o => by simp; omega)
      go_wp2_with (at_builtin; refine wpList_append_bytes rfl _ _ 42 rfl w.heap.size 5 Tryd.underlying42 A_info (ns := [128 + q % 64]) (ms := L) rfl (World.ownsRow_lit wr #[.int .u8 (128 + q % 64)] 1 hsz (by decide) rfl) rfl (hown.alloc _) C3.out (C5.out _) ?_; intro g1 cap1 w1 hown1 hb1)
      go_roundw
      case rel =>
        refine ⟨k + 1, g1, cap1, by omega, by go_num, by rw [HQ2.out], by rw [Nat.add_comm], ?_, (hb.alloc hsz _).trans hb1⟩
        rw [HL2.out, Nat.add_comm k 1]
        exact hown1
      case measure => simp [intOf]; omega
    · have C3 := hid (show 1 + k ≤ 1000000000 by omega)
      have C5 := hid (show ∀ o, w.heap.size ≤ (wr.alloc o).heap.size from fun o => by simp; omega)
      have HE := hid (enc_mkn (r := r) (q := q) (k := k) (letter_iff.2 hlr) (by rw [HN.out]; omega) HQ.out h0)
      rw [HL.out] at HE
      obtain rfl : n = k + 1 := by omega
      have hks : (k = 1 ∧ q ≤ 31) ∨ (k = 2 ∧ q ≤ 15) ∨ (k = 3 ∧ q ≤ 4) := by
        have := HN.out
        have e := HQ.out
        have hk3 : k = 1 ∨ k = 2 ∨ k = 3 := by omega
        rcases hk3 with rfl | rfl | rfl
        · unfold sizeOf at this; split at this <;> (try split at this) <;> (try split at this) <;> omega
        · unfold sizeOf at this; split at this <;> (try split at this) <;> (try split at this) <;> omega
        · omega
      rcases hks with ⟨rfl, hq⟩ | ⟨rfl, hq⟩ | ⟨rfl, hq⟩
      · have HE2 : Hid (mkB ([192 + q] ++ L) = Utf8.encode r) := HE
        clear HE HQ HQ2 HL HL2
        go_wp2_with (at_builtin; refine wpList_append_bytes rfl _ _ 42 rfl w.heap.size 5 Tryd.underlying42 A_info (ns := [192 + q]) (ms := L) rfl (own_lit2 wr _ [192 + q] hsz (by show 1 ≤ _; omega)) rfl ((hown.alloc _).alloc _) C3.out (by simp; omega) ?_; intro g1 cap1 w1 hown1 hb1; have hcv := conv_own (P := Tryd.prog) (src := 42) (dst := 9) Tryd.underlying42 Tryd.underlying5 Tryd.underlying9 hown1; rw [HE2.out] at hcv)
        go_ret
        exact ⟨rfl, ((hb.alloc hsz _).alloc (by simp; omega) _).trans hb1⟩
      · have HE2 : Hid (mkB ([224 + q] ++ L) = Utf8.encode r) := HE
        clear HE HQ HQ2 HL HL2
        go_wp2_with (at_builtin; refine wpList_append_bytes rfl _ _ 42 rfl w.heap.size 5 Tryd.underlying42 A_info (ns := [224 + q]) (ms := L) rfl (own_lit2 wr _ [224 + q] hsz (by show 1 ≤ _; omega)) rfl ((hown.alloc _).alloc _) C3.out (by simp; omega) ?_; intro g1 cap1 w1 hown1 hb1; have hcv := conv_own (P := Tryd.prog) (src := 42) (dst := 9) Tryd.underlying42 Tryd.underlying5 Tryd.underlying9 hown1; rw [HE2.out] at hcv)
        go_ret
        exact ⟨rfl, ((hb.alloc hsz _).alloc (by simp; omega) _).trans hb1⟩
      · have HE2 : Hid (mkB ([240 + q] ++ L) = Utf8.encode r) := HE
        clear HE HQ HQ2 HL HL2
        go_wp2_with (at_builtin; refine wpList_append_bytes rfl _ _ 42 rfl w.heap.size 5 Tryd.underlying42 A_info (ns := [240 + q]) (ms := L) rfl (own_lit2 wr _ [240 + q] hsz (by show 1 ≤ _; omega)) rfl ((hown.alloc _).alloc _) C3.out (by simp; omega) ?_; intro g1 cap1 w1 hown1 hb1; have hcv := conv_own (P := Tryd.prog) (src := 42) (dst := 9) Tryd.underlying42 Tryd.underlying5 Tryd.underlying9 hown1; rw [HE2.out] at hcv)
        go_ret
        exact ⟨rfl, ((hb.alloc hsz _).alloc (by simp; omega) _).trans hb1⟩
end Go.Proofs.YtpcpdbofbbpglaaDoor
