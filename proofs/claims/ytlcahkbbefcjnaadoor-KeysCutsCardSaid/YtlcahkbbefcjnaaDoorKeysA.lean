/- Layer 3, the package: a text's beginning, the letter key that stands first, what a sequence holds. -/
import Derived.Test.YtlcahkbbefcjnaaDoorKeysM
import Derived.Deep.RegionWith
namespace Go.Proofs.YtlcahkbbefcjnaaDoor
open Go.RowKit

theorem beq_str {s t : ByteArray} : (s.toList == t.toList) = decide (s = t) := by
  rw [ByteArray.toList_eq, ByteArray.toList_eq, Bool.eq_iff_iff]
  simp only [beq_iff_eq, decide_eq_true_eq]
  exact ⟨fun h => ByteArray.ext (Array.toList_inj.1 h), fun h => by rw [h]⟩

set_option maxHeartbeats 400000 in
theorem lpre_any (s p : ByteArray) (w : World) (_ : s.size ≤ 1000000) (_ : p.size ≤ 1000000) :
    Calls Tryd.prog 44 #[.string s, .string p] w fun e w' => e = .returned (.bool (pre s p)) ∧ w = w' := by
  by_cases h : p.size ≤ s.size
  · by_cases h2 : s.extract 0 p.size = p
    · have HR : Hid (pre s p = true) := by unfold Hid pre; exact decide_eq_true ⟨h, h2⟩
      have HE : (s.extract 0 p.size).toList == p.toList := by rw [h2]; simp
      clear h2
      go_enter Tryd.func44, Tryd.ntmps44
      go_wp2
      go_ret
      exact ⟨ret_bool (by rw [HR.out]), rfl⟩
    · have HR : Hid (pre s p = false) := by unfold Hid pre; exact decide_eq_false (fun e => h2 e.2)
      have HE : ((s.extract 0 p.size).toList == p.toList) = false := by rw [beq_str]; exact decide_eq_false h2
      clear h2
      go_enter Tryd.func44, Tryd.ntmps44
      go_wp2
      go_ret
      exact ⟨ret_bool (by rw [HR.out]), rfl⟩
  · have HR : Hid (pre s p = false) := by unfold Hid pre; exact decide_eq_false (fun e => h e.1)
    go_enter Tryd.func44, Tryd.ntmps44
    go_wp2
    go_ret
    exact ⟨ret_bool (by rw [HR.out]), rfl⟩
theorem pre_any (s p : ByteArray) (w : World) (hs : s.size ≤ 1000000) (hp : p.size ≤ 1000000) :
    Calls Tryd.prog 33 #[.string s, .string p] w fun e w' => e = .returned (.bool (pre s p)) ∧ w = w' := by
  have h := lpre_any s p w hs hp
  generalize pre s p = x at *
  go_enter Tryd.func33, Tryd.ntmps33
  go_wp2_with (go_at_call 44; refine h.mono ?_; rintro e w2 ⟨rfl, rfl⟩)
  go_ret
  exact ⟨rfl, rfl⟩

set_option maxHeartbeats 400000 in
theorem inSeq_any (b : Int) (w : World) :
    Calls Tryd.prog 46 #[.int .u8 b] w fun e w' => e = .returned (.bool (digitB b)) ∧ w = w' := by
  have hc : (48 ≤ b ∧ b ≤ 57) ∨ b = 59 ∨ (b < 48) ∨ (48 ≤ b ∧ 57 < b ∧ ¬ b = 59) := by omega
  rcases hc with ⟨h1, h2⟩ | rfl | h1 | ⟨h1, h2, h3⟩
  · have HR : Hid (digitB b = true) := by unfold Hid digitB; exact decide_eq_true (by omega)
    go_enter Tryd.func46, Tryd.ntmps46
    go_wp2
    go_ret
    exact ⟨ret_bool HR.out.symm, rfl⟩
  · go_enter Tryd.func46, Tryd.ntmps46
    go_wp2
    go_ret
    exact ⟨rfl, rfl⟩
  · have HR : Hid (digitB b = false) := by unfold Hid digitB; exact decide_eq_false (by omega)
    have hq : (b == 59) = false := by simp; omega
    go_enter Tryd.func46, Tryd.ntmps46
    go_wp2
    go_ret
    exact ⟨ret_bool (by rw [HR.out]), rfl⟩
  · have HR : Hid (digitB b = false) := by unfold Hid digitB; exact decide_eq_false (by omega)
    have hq : (b == 59) = false := by simp [h3]
    have hq2 : decide (b ≤ 57) = false := decide_eq_false (by omega)
    clear h3
    go_enter Tryd.func46, Tryd.ntmps46
    go_wp2
    go_ret
    exact ⟨ret_bool (by rw [HR.out]), rfl⟩

/-- A letter key that may be one behind M-. -/
def metaB (l : ByteArray) : Bool := decide (l ≠ ⟨#[91]⟩ ∧ l ≠ ⟨#[79]⟩)
set_option maxHeartbeats 400000 in
theorem metaTakes_any (l : ByteArray) (w : World) :
    Calls Tryd.prog 48 #[.string l] w fun e w' => e = .returned (.bool (metaB l)) ∧ w = w' := by
  by_cases h1 : l = ⟨#[91]⟩
  · subst h1
    go_enter Tryd.func48, Tryd.ntmps48
    go_wp2
    go_ret
    exact ⟨ret_bool (by first | rfl | decide), rfl⟩
  · have g1 : (l.toList == (⟨#[91]⟩ : ByteArray).toList) = false := by rw [beq_str]; exact decide_eq_false h1
    by_cases h2 : l = ⟨#[79]⟩
    · subst h2
      clear h1 g1
      go_enter Tryd.func48, Tryd.ntmps48
      go_wp2
      go_ret
      exact ⟨ret_bool (by first | rfl | decide), rfl⟩
    · have g2 : (l.toList == (⟨#[79]⟩ : ByteArray).toList) = false := by rw [beq_str]; exact decide_eq_false h2
      have HR : Hid (metaB l = true) := by unfold Hid metaB; exact decide_eq_true ⟨h1, h2⟩
      have l1 : ¬ l.toList = [91] := fun e => h1 (ByteArray.ext (Array.toList_inj.1 (by rw [← ByteArray.toList_eq, e])))
      have l2 : ¬ l.toList = [79] := fun e => h2 (ByteArray.ext (Array.toList_inj.1 (by rw [← ByteArray.toList_eq, e])))
      clear g1 g2
      go_enter Tryd.func48, Tryd.ntmps48
      go_wp2
      go_ret
      exact ⟨ret_bool (by rw [HR.out]; first | done | simp [l1, l2]), rfl⟩

set_option maxHeartbeats 400000 in
theorem letterKey_any (s : ByteArray) (w : World) (hs : s.size ≤ maxLen) (hT : Tab w) (hW : TabW w) :
    Calls Tryd.prog 47 #[.string s] w fun e w' => e = .returned (.int .i64 (letterN s : Nat)) ∧ Below w.heap.size w w' := by
  have hf := first_any s w hs hT
  have hR : letterN s = if (firstG s).e = 0 ∧ 0 ≤ widthI (firstG s).r then (firstG s).n.toNat else 0 := rfl
  have hn : (firstG s).e = 0 → 0 ≤ (firstG s).n := by
    intro he
    rcases firstG_cases s with ⟨r, _, h, _⟩ | ⟨h, _⟩ | ⟨n, h, h1, _, _⟩ <;> rw [h] <;> simp
  unfold Got.val at hf
  generalize firstG s = g at *
  obtain ⟨r, n, e⟩ := g
  simp only at hf hR hn
  have HR := hid hR
  clear hR
  by_cases he : e = 0
  · subst he
    have hn0 : 0 ≤ n := hn rfl
    clear hn
    have hw := fun w2 (hb : Below w.heap.size w w2) => width_any r w2 (hT.below hb) (hW.below hb)
    by_cases hv : 0 ≤ widthI r
    · have HV := hid (HR.out.trans (if_pos ⟨rfl, hv⟩))
      generalize widthI r = v at *
      go_enter Tryd.func47, Tryd.ntmps47
      go_wp2_with (first | (go_at_call 39; refine hf.mono ?_; rintro e w2 ⟨rfl, hb⟩) | (go_at_call 23; refine (hw _ hb).mono ?_; rintro e w3 ⟨rfl, hb3⟩))
      go_ret
      exact ⟨ret_int (by rw [HV.out]; exact (Int.toNat_of_nonneg hn0).symm), hb.trans (hb3.mono hb.size)⟩
    · have HV := hid (HR.out.trans (if_neg (fun h => hv h.2)))
      have hv' : widthI r < 0 := by omega
      generalize widthI r = v at *
      go_enter Tryd.func47, Tryd.ntmps47
      go_wp2_with (first | (go_at_call 39; refine hf.mono ?_; rintro e w2 ⟨rfl, hb⟩) | (go_at_call 23; refine (hw _ hb).mono ?_; rintro e w3 ⟨rfl, hb3⟩))
      go_ret
      exact ⟨ret_int (by rw [HV.out]; rfl), hb.trans (hb3.mono hb.size)⟩
  · have HV := hid (HR.out.trans (if_neg (fun h => he h.1)))
    have he' : (e != 0) = true := by simp [he]
    clear he hn
    go_enter Tryd.func47, Tryd.ntmps47
    go_wp2_with (go_at_call 39; refine hf.mono ?_; rintro e w2 ⟨rfl, hb⟩)
    go_ret
    exact ⟨ret_int (by rw [HV.out]; rfl), hb⟩

set_option maxHeartbeats 400000 in
theorem sequence_any (s : ByteArray) (w : World) (hs : s.size ≤ 1000000) (h2 : 2 ≤ s.size) :
    Calls Tryd.prog 45 #[.string s] w fun e w' => e = .returned (.int .i64 (seqN s : Nat)) ∧ w = w' := by
  have hd := inSeq_any
  obtain ⟨m, hm, hmin⟩ : ∃ m : Nat, m ≤ s.size ∧ ((10 ≤ s.size ∧ m = 10) ∨ (s.size < 10 ∧ m = s.size)) := by
    by_cases h : 10 ≤ s.size
    · exact ⟨10, by omega, .inl ⟨h, rfl⟩⟩
    · exact ⟨s.size, by omega, .inr ⟨by omega, rfl⟩⟩
  have hstep : ∀ k, k < 10 → seqEnd s (10 - k) k = if k < s.size ∧ k < 10 ∧ digitB (byteAt s k) = true then seqEnd s (10 - (k + 1)) (k + 1) else k := by
    intro k hk
    obtain ⟨f, hf⟩ : ∃ f, 10 - k = f + 1 := ⟨10 - k - 1, by omega⟩
    rw [hf, seqEnd, show 10 - (k + 1) = f by omega]
  have HS := hid hstep
  clear hstep
  rcases hmin with ⟨h10, hm10⟩ | ⟨h10, hm10⟩
  all_goals
    try have hx : (10 : Int) ≤ s.size := by omega
    try have hx : (s.size : Int) < 10 := by omega
    go_enter Tryd.func45, Tryd.ntmps45
    go_wp2
    go_loop [4] (fun e => ∃ k : Nat, k ≤ m ∧ 2 ≤ k ∧ e = .int .i64 k ∧ seqEnd s (10 - k) k = seqN s) (fun e => m - (intOf e).toNat)
    case atStart => exact ⟨2, by omega, by omega, rfl, rfl⟩
    case round =>
      obtain ⟨k, hk, hk2, rfl, hrel⟩ := hrel
      have HREL := hid hrel
      clear hrel
      by_cases hkm : k < m
      · have hkz : k < s.size := by omega
        have hb := byteAt_bd s k
        have hbe := byteAt_eq hkz
        cases hdg : digitB (byteAt s k)
        · have HV : Hid (seqN s = k) := by unfold Hid; rw [← HREL.out, HS.out k (by omega), if_neg (fun h => by rw [hdg] at h; exact absurd h.2.2 (by decide))]
          have hd1 := hd (byteAt s k)
          rw [hdg] at hd1
          clear hdg hd
          go_wp2_with (go_at_call 46; refine (hd1 _).mono ?_; rintro e w2 ⟨rfl, rfl⟩)
          go_ret
          exact ⟨ret_int (by rw [HV.out]), rfl⟩
        · have HV : Hid (seqEnd s (10 - (k + 1)) (k + 1) = seqN s) := by unfold Hid; rw [← HREL.out, HS.out k (by omega), if_pos ⟨hkz, by omega, hdg⟩]
          have hd1 := hd (byteAt s k)
          rw [hdg] at hd1
          clear hdg hd
          go_wp2_with (go_at_call 46; refine (hd1 _).mono ?_; rintro e w2 ⟨rfl, rfl⟩)
          go_round
          case rel => exact ⟨k + 1, by omega, by omega, by go_num, HV.out⟩
          case measure => simp [intOf]; omega
      · have HV : Hid (seqN s = k) := by
          unfold Hid
          rw [← HREL.out]
          by_cases hk10 : k = 10
          · subst hk10; rfl
          · rw [HS.out k (by omega), if_neg (fun h => by omega)]
        go_wp2
        go_ret
        exact ⟨ret_int (by rw [HV.out]), rfl⟩
end Go.Proofs.YtlcahkbbefcjnaaDoor
