/- The law UtfReads, walked. -/
import Derived.Test.YtdokdcbfgogbbaaDoorUtfP
namespace Go.Proofs.YtdokdcbfgogbbaaDoor
open Go.RowKit

theorem refFirst_at {s : ByteArray} {a b c : Int} (hg : firstG s = ⟨a, b, c⟩) (w : World) (hs : s.size ≤ maxLen) :
    Calls Tryd.prog 14 #[.string s] w fun e w' => e = .returned (.agg #[.int .i32 a, .int .i64 b, .int .i64 c]) ∧ Below w.heap.size w w' := by
  have h := refFirst_any s w hs
  rw [hg] at h
  exact h

set_option maxRecDepth 100000 in
set_option maxHeartbeats 400000 in
theorem refValid_any (s : ByteArray) (w : World) (hs : s.size ≤ maxLen) :
    Calls Tryd.prog 16 #[.string s] w fun e w' => e = .returned (.bool (validG s)) ∧ Below w.heap.size w w' := by
  unfold maxLen at hs
  go_enter Tryd.func16, Tryd.ntmps16
  go_wp2
  go_loopw [0] (fun v wr => ∃ t : ByteArray, v = .string t ∧ t.size ≤ s.size ∧ validG s = validG t ∧ Below w.heap.size w wr) (fun v _ => strLen v)
  case atStart => exact ⟨s, rfl, Nat.le_refl _, rfl, Below.refl _ _⟩
  case round =>
    obtain ⟨t, rfl, hts, hv, hb⟩ := hrel
    have hsz := hb.size
    have HV := hid hv
    clear hv
    by_cases h0 : t.size = 0
    · have HA : Hid (validG s = true) := by unfold Hid; rw [HV.out]; exact validG_empty h0
      have hn : ¬ 0 < t.size := by omega
      clear HV h0
      go_wp2_with fail
      go_ret
      exact ⟨ret_bool HA.out.symm, hb⟩
    · have hst := validG_step h0
      have hpos : 0 < t.size := by omega
      rcases firstG_cases t with ⟨r, hr, e, hl, _⟩ | ⟨e, _⟩ | ⟨n, e, _⟩
      · have hz := sizeOf_bd r
        have hc := refFirst_at e wr (by unfold maxLen; omega)
        rw [e] at hst
        simp only [if_true, Int.toNat_natCast] at hst
        have HA : Hid (validG s = validG (t.extract (sizeOf r) t.size)) := by unfold Hid; rw [HV.out, hst]
        have hq := hid (show (t.extract (sizeOf r) t.size).size = t.size - sizeOf r by rw [size_extract']; omega)
        clear hst HV h0 e
        obtain ⟨m, hm⟩ : ∃ m, sizeOf r = m := ⟨_, rfl⟩
        rw [hm] at hc HA hl hz hq
        clear hm
        go_wp2_with (go_at_call 14; refine hc.mono ?_; rintro e w' ⟨rfl, hb1⟩)
        have hb2 := hb.trans (hb1.mono hsz)
        go_roundw
        case rel => exact ⟨_, rfl, by rw [hq.out]; omega, HA.out, hb2.alloc hb2.size _⟩
        case measure =>
          show (t.extract m t.size).size < t.size
          rw [hq.out]; omega
      · have hc := refFirst_at e wr (by unfold maxLen; omega)
        rw [e] at hst
        have HA : Hid (validG s = false) := by unfold Hid; rw [HV.out, hst]; rfl
        clear hst HV h0 e
        go_wp2_with (go_at_call 14; refine hc.mono ?_; rintro e w' ⟨rfl, hb1⟩)
        have hb2 := hb.trans (hb1.mono hsz)
        go_ret
        exact ⟨ret_bool HA.out.symm, hb2.alloc hb2.size _⟩
      · have hc := refFirst_at e wr (by unfold maxLen; omega)
        rw [e] at hst
        have HA : Hid (validG s = false) := by unfold Hid; rw [HV.out, hst]; rfl
        clear hst HV h0 e
        go_wp2_with (go_at_call 14; refine hc.mono ?_; rintro e w' ⟨rfl, hb1⟩)
        have hb2 := hb.trans (hb1.mono hsz)
        go_ret
        exact ⟨ret_bool HA.out.symm, hb2.alloc hb2.size _⟩

theorem cut_short200 {s : ByteArray} (h : s.size ≤ 200) : s = s.extract 0 200 := by
  apply bytes_ext
  · rw [size_extract']; omega
  · intro i hi
    rw [byteAt_extract _ _ _ _ (by omega)]; congr 1; omega

set_option maxRecDepth 100000 in
set_option maxHeartbeats 800000 in
theorem reads_any (s : ByteArray) (w : World) (hs : s.size ≤ maxLen) (hT : Tab w) :
    Calls Tryd.prog 4 #[.string s] w fun e w' => e = .returned (.bool true) ∧ Below w.heap.size w w' := by
  unfold maxLen at hs
  obtain ⟨q, hq⟩ : ∃ q, s.extract 0 200 = q := ⟨_, rfl⟩
  have HQ := hid hq
  have hqs : q.size ≤ 200 := by rw [← hq, size_extract']; omega
  clear hq
  go_enter Tryd.func4, Tryd.ntmps4
  go_upto_region 1 with fail
  go_cut [0] (fun v wx => v = .string q ∧ wx = w)
  case first =>
    go_wp2_with fail
    all_goals go_meet
    · exact ⟨congrArg Value.string HQ.out, rfl⟩
    · exact ⟨congrArg Value.string ((cut_short200 (by omega)).trans HQ.out), rfl⟩
  case rest =>
    obtain ⟨rfl, rfl⟩ := hcut
    obtain ⟨wo, rfl⟩ : ∃ wo : World, wo = wc := ⟨_, rfl⟩
    clear HQ hs
    obtain ⟨a, b, c, hg⟩ : ∃ a b c, firstG q = ⟨a, b, c⟩ := ⟨_, _, _, rfl⟩
    have hF := first_at hg wo (by unfold maxLen; omega) hT
    have hR := fun W => refFirst_at hg W (by unfold maxLen; omega)
    have hA := fun W (h : Below wo.heap.size wo W) => alive_any W (hT.below h)
    have hV := fun W (h : Below wo.heap.size wo W) => valid_any q W (by unfold maxLen; omega) (hT.below h)
    have hRV := fun W => refValid_any q W (by unfold maxLen; omega)
    obtain ⟨v, hv⟩ : ∃ v, validG q = v := ⟨_, rfl⟩
    rw [hv] at hV hRV
    clear hg hv
    go_wp2_with (go_at_call 13; refine hF.mono ?_; rintro e w2 ⟨rfl, hb2⟩)
    refine (hR _).mono ?_
    rintro e w3 ⟨rfl, hb3⟩
    have hb3 := hb2.trans (hb3.mono hb2.size)
    go_wp2_with fail
    refine (hA _ (hb3.alloc hb3.size _)).mono ?_
    rintro e w4 ⟨rfl, hb4⟩
    have c0 : w4.cell? ⟨w3.heap.size, 0, none⟩ = some (.int .i32 a) := (hb4.cell (p := ⟨w3.heap.size, 0, none⟩) (by simp)).trans (by simp [World.cell?_alloc_new])
    have c1 : w4.cell? ⟨w3.heap.size, 1, none⟩ = some (.int .i64 b) := (hb4.cell (p := ⟨w3.heap.size, 1, none⟩) (by simp)).trans (by simp [World.cell?_alloc_new])
    have c2 : w4.cell? ⟨w3.heap.size, 2, none⟩ = some (.int .i64 c) := (hb4.cell (p := ⟨w3.heap.size, 2, none⟩) (by simp)).trans (by simp [World.cell?_alloc_new])
    have hb4 := (hb3.alloc hb3.size _).trans (hb4.mono (by have := hb3.size; simp; omega))
    go_wp2_with fail
    refine (hV _ hb4).mono ?_
    rintro e w5 ⟨rfl, hb5⟩
    have hb5 := hb4.trans (hb5.mono hb4.size)
    go_wp2_with fail
    refine (hRV _).mono ?_
    rintro e w6 ⟨rfl, hb6⟩
    have hb6 := hb5.trans (hb6.mono hb5.size)
    go_wp2_with fail
    go_ret
    exact ⟨ret_bool (by simp), hb6⟩
end Go.Proofs.YtdokdcbfgogbbaaDoor
