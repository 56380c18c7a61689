/- Layer 7: lines that may be kept; what is kept may be: the package's, the statements'. Made by wip/gen/backK.py. -/
import Derived.Test.YtdpicbfpjnampaaDoorBackCQ
import Derived.Test.YtdpicbfpjnampaaDoorGridHQ
namespace Go.Proofs.YtdpicbfpjnampaaDoor
open Go.RowKit

set_option maxRecDepth 100000 in
set_option maxHeartbeats 1000000 in
theorem mayKept_any (v : Value) (lv : List (Ln × Value)) (W : World) (hr : LR W v lv) (hc : CesOf W lv) (hs : Sm lv) (hT : Tab W) (hW : TabW W) :
    Calls Tryd.prog 70 #[v] W fun e w' => e = .returned (.bool (keptB lv)) ∧ Below W.heap.size W w' := by
  obtain ⟨A, c0, rfl⟩ := hr.spell
  obtain ⟨n, hnl⟩ : ∃ n, lv.length = n := ⟨_, rfl⟩
  have HL := hid hnl
  rw [hnl]
  obtain ⟨hs1, hs2⟩ := hs
  rw [hnl] at hs1
  clear hnl
  go_enter Tryd.func70, Tryd.ntmps70
  go_wp2
  go_loopw [8] (fun i wr => ∃ k : Nat, k ≤ n ∧ i = .int .i64 k ∧ Below W.heap.size W wr ∧ keptB (lv.take k) = true) (fun i _ => n - (intOf i).toNat)
  case atStart => exact ⟨0, by omega, rfl, Below.refl _ _, rfl⟩
  case round =>
    obtain ⟨k, hk, rfl, hbl, hrel'⟩ := hrel
    have HREL := hid hrel'
    clear hrel'
    by_cases hlt : k < n
    · have hki : (k : Int) < n := by omega
      have hkl : k < lv.length := by rw [HL.out]; exact hlt
      have hx := List.getElem?_eq_getElem hkl
      obtain ⟨z1, z2⟩ := hs2 lv[k] (List.getElem_mem _)
      have hce := hc lv[k] (List.getElem_mem _)
      obtain ⟨A', c', hA', _, hcell⟩ := hr.below hbl
      cases hA'
      obtain ⟨g, o, rfl, hg, hcell⟩ := hcell (by intro e; subst e; simp at hkl)
      obtain ⟨p0, p1⟩ := hcell k _ hx
      generalize lv[k] = x at *
      obtain ⟨⟨cs, soft⟩, cv⟩ := x
      simp only at *
      have hbl1 := hbl.alloc hbl.size (.cells #[cv, .bool soft] 57)
      have hF := pFits_any cs.length cv cs soft (wr.alloc (.cells #[cv, .bool soft] 57)) (hce.below hbl1) z2 (by omega) (hT.below hbl1) (hW.below hbl1)
      obtain ⟨cA, cc, rfl⟩ := hce.spell
      have hbx := Box.new wr 57 #[.slice cA cs.length cc, .bool soft]
      have HBL1 := hid hbl1
      have HX := hid hx
      obtain ⟨⟨a0, a1⟩, af0, af1⟩ := hbx.two
      have hlo := fun h => keptB_no HX.out (keptE_lo (cs := cs) (soft := soft) (u := .slice cA cs.length cc) h)
      have hhi := fun h => keptB_no HX.out (keptE_hi (cs := cs) (soft := soft) (u := .slice cA cs.length cc) h)
      have hmi := fun h1 h2 => keptE_mid (cs := cs) (soft := soft) (u := .slice cA cs.length cc) h1 h2
      generalize hm : cs.length = m at *
      clear hbl1 hbx hx hcell hce hc hs2 hm
      have h3 : (m : Int) < 1 ∨ (1 ≤ (m : Int) ∧ 80 < (m : Int)) ∨ (1 ≤ (m : Int) ∧ (m : Int) ≤ 80) := by omega
      rcases h3 with h | ⟨h, h'⟩ | ⟨h, h'⟩
      · have HE := hid (hlo h)
        clear hlo hhi hmi hF
        go_wp2
        go_ret
        exact ⟨ret_bool HE.out.symm, HBL1.out⟩
      · have HE := hid (hhi h')
        clear hlo hhi hmi hF
        go_wp2
        go_ret
        exact ⟨ret_bool HE.out.symm, HBL1.out⟩
      · have hmid := hmi h h'
        cases h1 : fitsB m cs
        · rw [h1] at hF hmid
          have HE := hid (keptB_no HX.out hmid)
          clear h1 hmid hlo hhi hmi
          go_wp2_with (with_reducible refine hF.mono ?_; rintro e w2 ⟨rfl, hb2⟩)
          go_ret
          exact ⟨ret_bool HE.out.symm, HBL1.out.trans (hb2.mono HBL1.out.size)⟩
        · rw [h1] at hF hmid
          have HE := hid (keptB_step HREL.out HX.out hmid)
          clear h1 hmid hlo hhi hmi
          go_wp2_with (with_reducible refine hF.mono ?_; rintro e w2 ⟨rfl, hb2⟩)
          go_roundw
          case rel => exact ⟨k + 1, by omega, by go_num, HBL1.out.trans (hb2.mono HBL1.out.size), HE.out⟩
          case measure => simp [intOf]; omega
    · have hkm : k = n := by omega
      subst hkm
      have HE : Hid (keptB lv = true) := by
        have h := HREL.out
        rw [← HL.out] at h
        exact keptB_stop h
      go_wp2
      go_ret
      exact ⟨ret_bool HE.out.symm, hbl⟩
set_option maxRecDepth 100000 in
set_option maxHeartbeats 1000000 in
theorem lawKept_any (v : Value) (lv : List (Ln × Value)) (W : World) (hr : LR W v lv) (hc : CesOf W lv) (hs : Sm lv) :
    Calls Tryd.prog 42 #[v] W fun e w' => e = .returned (.bool (keptB lv)) ∧ Below W.heap.size W w' := by
  obtain ⟨A, c0, rfl⟩ := hr.spell
  obtain ⟨n, hnl⟩ : ∃ n, lv.length = n := ⟨_, rfl⟩
  have HL := hid hnl
  rw [hnl]
  obtain ⟨hs1, hs2⟩ := hs
  rw [hnl] at hs1
  clear hnl
  go_enter Tryd.func42, Tryd.ntmps42
  go_wp2
  go_loopw [7] (fun i wr => ∃ k : Nat, k ≤ n ∧ i = .int .i64 k ∧ Below W.heap.size W wr ∧ keptB (lv.take k) = true) (fun i _ => n - (intOf i).toNat)
  case atStart => exact ⟨0, by omega, rfl, Below.refl _ _, rfl⟩
  case round =>
    obtain ⟨k, hk, rfl, hbl, hrel'⟩ := hrel
    have HREL := hid hrel'
    clear hrel'
    by_cases hlt : k < n
    · have hki : (k : Int) < n := by omega
      have hkl : k < lv.length := by rw [HL.out]; exact hlt
      have hx := List.getElem?_eq_getElem hkl
      obtain ⟨z1, z2⟩ := hs2 lv[k] (List.getElem_mem _)
      have hce := hc lv[k] (List.getElem_mem _)
      obtain ⟨A', c', hA', _, hcell⟩ := hr.below hbl
      cases hA'
      obtain ⟨g, o, rfl, hg, hcell⟩ := hcell (by intro e; subst e; simp at hkl)
      obtain ⟨p0, p1⟩ := hcell k _ hx
      generalize lv[k] = x at *
      obtain ⟨⟨cs, soft⟩, cv⟩ := x
      simp only at *
      have hbl1 := hbl.alloc hbl.size (.cells #[cv, .bool soft] 57)
      have hF := rFits_any cs.length cv cs soft (wr.alloc (.cells #[cv, .bool soft] 57)) (hce.below hbl1) z2 (by omega)
      obtain ⟨cA, cc, rfl⟩ := hce.spell
      have hbx := Box.new wr 57 #[.slice cA cs.length cc, .bool soft]
      have HBL1 := hid hbl1
      have HX := hid hx
      obtain ⟨⟨a0, a1⟩, af0, af1⟩ := hbx.two
      have hlo := fun h => keptB_no HX.out (keptE_lo (cs := cs) (soft := soft) (u := .slice cA cs.length cc) h)
      have hhi := fun h => keptB_no HX.out (keptE_hi (cs := cs) (soft := soft) (u := .slice cA cs.length cc) h)
      have hmi := fun h1 h2 => keptE_mid (cs := cs) (soft := soft) (u := .slice cA cs.length cc) h1 h2
      generalize hm : cs.length = m at *
      clear hbl1 hbx hx hcell hce hc hs2 hm
      have h3 : (m : Int) < 1 ∨ (1 ≤ (m : Int) ∧ 80 < (m : Int)) ∨ (1 ≤ (m : Int) ∧ (m : Int) ≤ 80) := by omega
      rcases h3 with h | ⟨h, h'⟩ | ⟨h, h'⟩
      · have HE := hid (hlo h)
        clear hlo hhi hmi hF
        go_wp2
        go_ret
        exact ⟨ret_bool HE.out.symm, HBL1.out⟩
      · have HE := hid (hhi h')
        clear hlo hhi hmi hF
        go_wp2
        go_ret
        exact ⟨ret_bool HE.out.symm, HBL1.out⟩
      · have hmid := hmi h h'
        cases h1 : fitsB m cs
        · rw [h1] at hF hmid
          have HE := hid (keptB_no HX.out hmid)
          clear h1 hmid hlo hhi hmi
          go_wp2_with (with_reducible refine hF.mono ?_; rintro e w2 ⟨rfl, hb2⟩)
          go_ret
          exact ⟨ret_bool HE.out.symm, HBL1.out.trans (hb2.mono HBL1.out.size)⟩
        · rw [h1] at hF hmid
          have HE := hid (keptB_step HREL.out HX.out hmid)
          clear h1 hmid hlo hhi hmi
          go_wp2_with (with_reducible refine hF.mono ?_; rintro e w2 ⟨rfl, hb2⟩)
          go_roundw
          case rel => exact ⟨k + 1, by omega, by go_num, HBL1.out.trans (hb2.mono HBL1.out.size), HE.out⟩
          case measure => simp [intOf]; omega
    · have hkm : k = n := by omega
      subst hkm
      have HE : Hid (keptB lv = true) := by
        have h := HREL.out
        rw [← HL.out] at h
        exact keptB_stop h
      go_wp2
      go_ret
      exact ⟨ret_bool HE.out.symm, hbl⟩
set_option maxRecDepth 100000 in
set_option maxHeartbeats 1000000 in
theorem bRight_any (mx : Int) (v : Value) (lv : List (Ln × Value)) (W : World) (hr : LR W v lv) (hc : CesOf W lv) (hs : Sm lv) (hT : Tab W) (hW : TabW W) :
    Calls Tryd.prog 38 #[.agg #[.int .i64 mx, v]] W fun e w' => e = .returned (.bool (backB mx lv)) ∧ Below W.heap.size W w' := by
  have hbel : Below W.heap.size W (W.alloc (.cells #[.int .i64 mx, v] 61)) := below_alloc _ _
  have hk := mayKept_any v lv _ (hr.below hbel) (hc.below hbel) hs (hT.below hbel) (hW.below hbel)
  obtain ⟨A, c0, rfl⟩ := hr.spell
  have hB : backB mx lv = (decide (0 ≤ mx ∧ mx ≤ 40) && (decide ((lv.length : Int) ≤ mx) && keptB lv)) := rfl
  have HB := hid hB
  have HK := hid hk
  have HBL := hid hbel
  obtain ⟨n, hn⟩ : ∃ n, lv.length = n := ⟨_, rfl⟩
  rw [hn] at HB HK HBL ⊢
  generalize hbb : keptB lv = R at *
  clear hB hk hbel hr hc hs hn hbb
  have h4 : mx < 0 ∨ (0 ≤ mx ∧ 40 < mx) ∨ ((0 ≤ mx ∧ mx ≤ 40) ∧ mx < n) ∨ ((0 ≤ mx ∧ mx ≤ 40) ∧ (n : Int) ≤ mx) := by omega
  rcases h4 with h | ⟨h, h'⟩ | ⟨⟨h, h'⟩, h2⟩ | ⟨⟨h, h'⟩, h2⟩
  · have HE : Hid (backB mx lv = false) := by unfold Hid; rw [HB.out, decide_eq_false (p := 0 ≤ mx ∧ mx ≤ 40) (by omega), Bool.false_and]
    have hd : decide (0 ≤ mx) = false := decide_eq_false (by omega)
    go_enter Tryd.func38, Tryd.ntmps38
    go_wp2
    go_ret
    exact ⟨ret_bool HE.out.symm, HBL.out⟩
  · have HE : Hid (backB mx lv = false) := by unfold Hid; rw [HB.out, decide_eq_false (p := 0 ≤ mx ∧ mx ≤ 40) (by omega), Bool.false_and]
    have hd : decide (mx ≤ 40) = false := decide_eq_false (by omega)
    go_enter Tryd.func38, Tryd.ntmps38
    go_wp2
    go_ret
    exact ⟨ret_bool HE.out.symm, HBL.out⟩
  · have HE : Hid (backB mx lv = false) := by unfold Hid; rw [HB.out, decide_eq_false (p := (n : Int) ≤ mx) (by omega), Bool.false_and, Bool.and_false]
    have hd : decide ((n : Int) ≤ mx) = false := decide_eq_false (by omega)
    go_enter Tryd.func38, Tryd.ntmps38
    go_wp2
    go_ret
    exact ⟨ret_bool HE.out.symm, HBL.out⟩
  · have HE : Hid (backB mx lv = R) := by unfold Hid; rw [HB.out, decide_eq_true (p := 0 ≤ mx ∧ mx ≤ 40) (by omega), decide_eq_true (p := (n : Int) ≤ mx) h2]; rfl
    go_enter Tryd.func38, Tryd.ntmps38
    go_wp2_with (with_reducible refine HK.out.mono ?_; rintro e w2 ⟨rfl, hb⟩)
    go_ret
    exact ⟨ret_bool HE.out.symm, HBL.out.trans (hb.mono HBL.out.size)⟩
set_option maxRecDepth 100000 in
set_option maxHeartbeats 1000000 in
theorem lawRight_any (mx : Int) (v : Value) (lv : List (Ln × Value)) (W : World) (hr : LR W v lv) (hc : CesOf W lv) (hs : Sm lv) :
    Calls Tryd.prog 39 #[.agg #[.int .i64 mx, v]] W fun e w' => e = .returned (.bool (backB mx lv)) ∧ Below W.heap.size W w' := by
  have hbel : Below W.heap.size W (W.alloc (.cells #[.int .i64 mx, v] 61)) := below_alloc _ _
  have hk := lawKept_any v lv _ (hr.below hbel) (hc.below hbel) hs
  obtain ⟨A, c0, rfl⟩ := hr.spell
  have hB : backB mx lv = (decide (0 ≤ mx ∧ mx ≤ 40) && (decide ((lv.length : Int) ≤ mx) && keptB lv)) := rfl
  have HB := hid hB
  have HK := hid hk
  have HBL := hid hbel
  obtain ⟨n, hn⟩ : ∃ n, lv.length = n := ⟨_, rfl⟩
  rw [hn] at HB HK HBL ⊢
  generalize hbb : keptB lv = R at *
  clear hB hk hbel hr hc hs hn hbb
  have h4 : mx < 0 ∨ (0 ≤ mx ∧ 40 < mx) ∨ ((0 ≤ mx ∧ mx ≤ 40) ∧ mx < n) ∨ ((0 ≤ mx ∧ mx ≤ 40) ∧ (n : Int) ≤ mx) := by omega
  rcases h4 with h | ⟨h, h'⟩ | ⟨⟨h, h'⟩, h2⟩ | ⟨⟨h, h'⟩, h2⟩
  · have HE : Hid (backB mx lv = false) := by unfold Hid; rw [HB.out, decide_eq_false (p := 0 ≤ mx ∧ mx ≤ 40) (by omega), Bool.false_and]
    have hd : decide (0 ≤ mx) = false := decide_eq_false (by omega)
    go_enter Tryd.func39, Tryd.ntmps39
    go_wp2
    go_ret
    exact ⟨ret_bool HE.out.symm, HBL.out⟩
  · have HE : Hid (backB mx lv = false) := by unfold Hid; rw [HB.out, decide_eq_false (p := 0 ≤ mx ∧ mx ≤ 40) (by omega), Bool.false_and]
    have hd : decide (mx ≤ 40) = false := decide_eq_false (by omega)
    go_enter Tryd.func39, Tryd.ntmps39
    go_wp2
    go_ret
    exact ⟨ret_bool HE.out.symm, HBL.out⟩
  · have HE : Hid (backB mx lv = false) := by unfold Hid; rw [HB.out, decide_eq_false (p := (n : Int) ≤ mx) (by omega), Bool.false_and, Bool.and_false]
    have hd : decide ((n : Int) ≤ mx) = false := decide_eq_false (by omega)
    go_enter Tryd.func39, Tryd.ntmps39
    go_wp2
    go_ret
    exact ⟨ret_bool HE.out.symm, HBL.out⟩
  · have HE : Hid (backB mx lv = R) := by unfold Hid; rw [HB.out, decide_eq_true (p := 0 ≤ mx ∧ mx ≤ 40) (by omega), decide_eq_true (p := (n : Int) ≤ mx) h2]; rfl
    go_enter Tryd.func39, Tryd.ntmps39
    go_wp2_with (with_reducible refine HK.out.mono ?_; rintro e w2 ⟨rfl, hb⟩)
    go_ret
    exact ⟨ret_bool HE.out.symm, HBL.out.trans (hb.mono HBL.out.size)⟩
end Go.Proofs.YtdpicbfpjnampaaDoor
