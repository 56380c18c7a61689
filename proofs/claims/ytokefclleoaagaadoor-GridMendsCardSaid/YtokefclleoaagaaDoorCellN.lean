/- Layer 4, the package: which cells may be; a letter's cell, a mark more, a blank one. -/
import Derived.Test.YtokefclleoaagaaDoorCellU
namespace Go.Proofs.YtokefclleoaagaaDoor
open Go.RowKit

set_option maxRecDepth 100000 in
set_option maxHeartbeats 1000000 in
theorem right_any (c : Ce) (w : World) (hs : c.tx.size ≤ maxLen) (hT : Tab w) (hW : TabW w) :
    Calls Tryd.prog 37 #[c.agg] w fun e w' => e = .returned (.bool (rightB c)) ∧ Below w.heap.size w w' := by
  obtain ⟨tx, wd, fg, bg, fl⟩ := c
  have hlook := pLook_any ⟨fg, bg, fl⟩
  have hpa := fun W (hb : Below w.heap.size w W) => parts_any tx W hs (hT.below hb) (hW.below hb)
  have hR : rightB ⟨tx, wd, fg, bg, fl⟩ = (lookB ⟨fg, bg, fl⟩ && (if tx.size = 0 then decide (wd = 0 ∨ wd = 1) else decide (0 < (partsG tx).1 ∧ (partsG tx).1 = wd))) := rfl
  have hbx := Box.new w 28 #[.string tx, .int .i64 wd, .int .i64 fg, .int .i64 bg, .int .i64 fl]
  have hbel : Below w.heap.size w (w.alloc (.cells #[.string tx, .int .i64 wd, .int .i64 fg, .int .i64 bg, .int .i64 fl] 28)) := below_alloc _ _
  have HBX := hid hbx
  have HBL := hid hbel
  unfold At.agg at hlook
  unfold TwoInts at hpa
  show Calls _ _ #[.agg #[.string tx, .int .i64 wd, .int .i64 fg, .int .i64 bg, .int .i64 fl]] _ _
  simp only at hlook
  clear hbx hbel
  cases hl : lookB ⟨fg, bg, fl⟩
  · rw [hl] at hlook hR
    rw [Bool.false_and] at hR
    have HR := hid hR
    clear hR hpa hl
    go_enter Tryd.func37, Tryd.ntmps37
    go_wp2_with (go_at_call 40; refine (hlook _).mono ?_; rintro e w2 ⟨rfl, hb⟩)
    go_ret
    exact ⟨ret_bool HR.out.symm, HBL.out.trans (hb.mono (by simp))⟩
  · rw [hl] at hlook hR
    rw [Bool.true_and] at hR
    clear hl
    by_cases h0 : tx.size = 0
    · rw [if_pos h0] at hR
      have HR := hid hR
      have hx := empty_yes h0
      subst hx
      clear hR hpa h0 hs
      have hc : wd = 0 ∨ wd = 1 ∨ (¬ wd = 0 ∧ ¬ wd = 1) := by omega
      rcases hc with rfl | rfl | ⟨g0, g1⟩
      · go_enter Tryd.func37, Tryd.ntmps37
        go_upto_region 3 with (go_at_call 40; refine (hlook _).mono ?_; rintro e w2 ⟨rfl, hb⟩)
        obtain ⟨⟨c0, c1, c2, c3, c4⟩, f0, f1, f2, f3, f4⟩ := (HBX.out.below hb (by simp)).five
        go_wp2
        go_ret
        exact ⟨ret_bool (by rw [HR.out]; simp), HBL.out.trans (hb.mono (by simp))⟩
      · go_enter Tryd.func37, Tryd.ntmps37
        go_upto_region 3 with (go_at_call 40; refine (hlook _).mono ?_; rintro e w2 ⟨rfl, hb⟩)
        obtain ⟨⟨c0, c1, c2, c3, c4⟩, f0, f1, f2, f3, f4⟩ := (HBX.out.below hb (by simp)).five
        go_wp2
        go_ret
        exact ⟨ret_bool (by rw [HR.out]; simp), HBL.out.trans (hb.mono (by simp))⟩
      · have HR2 : Hid (decide (wd = 0 ∨ wd = 1) = false) := by unfold Hid; exact decide_eq_false (by omega)
        have q0 : (wd == 0) = false := by simp [g0]
        have q1 : (wd == 1) = false := by simp [g1]
        clear g0 g1
        go_enter Tryd.func37, Tryd.ntmps37
        go_upto_region 3 with (go_at_call 40; refine (hlook _).mono ?_; rintro e w2 ⟨rfl, hb⟩)
        obtain ⟨⟨c0, c1, c2, c3, c4⟩, f0, f1, f2, f3, f4⟩ := (HBX.out.below hb (by simp)).five
        go_wp2
        go_ret
        exact ⟨ret_bool (by rw [HR.out, HR2.out]), HBL.out.trans (hb.mono (by simp))⟩
    · rw [if_neg h0] at hR
      have hne := empty_no h0
      generalize partsG tx = P at *
      obtain ⟨p, k⟩ := P
      simp only at hR hpa
      have HR := hid hR
      have hcs : (0 < p ∧ p = wd) ∨ (0 < p ∧ ¬ p = wd) ∨ p ≤ 0 := by omega
      clear hR h0 hs
      rcases hcs with ⟨g0, rfl⟩ | ⟨g0, g1⟩ | g0
      · have HR2 : Hid (decide (0 < p ∧ p = p) = true) := by unfold Hid; exact decide_eq_true ⟨g0, rfl⟩
        go_enter Tryd.func37, Tryd.ntmps37
        go_upto_region 3 with (go_at_call 40; refine (hlook _).mono ?_; rintro e w2 ⟨rfl, hb⟩)
        have d0 := HBX.out.below hb (by simp)
        have n2 := HBL.out.trans (hb.mono (by simp))
        obtain ⟨⟨c0, c1, c2, c3, c4⟩, f0, f1, f2, f3, f4⟩ := d0.five
        go_upto_region 6 with (go_at_call 63; refine (hpa _ n2).mono ?_; rintro e w3 ⟨rfl, hb3⟩)
        clear c0 c1 c2 c3 c4 f0 f1 f2 f3 f4
        obtain ⟨⟨c0, c1, c2, c3, c4⟩, f0, f1, f2, f3, f4⟩ := (d0.below hb3 d0.lt).five
        go_wp2
        go_ret
        exact ⟨ret_bool (by rw [HR.out, HR2.out]), n2.trans (hb3.mono n2.size)⟩
      · have HR2 : Hid (decide (0 < p ∧ p = wd) = false) := by unfold Hid; exact decide_eq_false (fun h => g1 h.2)
        have q1 : (p == wd) = false := by simp [g1]
        clear g1
        go_enter Tryd.func37, Tryd.ntmps37
        go_upto_region 3 with (go_at_call 40; refine (hlook _).mono ?_; rintro e w2 ⟨rfl, hb⟩)
        have d0 := HBX.out.below hb (by simp)
        have n2 := HBL.out.trans (hb.mono (by simp))
        obtain ⟨⟨c0, c1, c2, c3, c4⟩, f0, f1, f2, f3, f4⟩ := d0.five
        go_upto_region 6 with (go_at_call 63; refine (hpa _ n2).mono ?_; rintro e w3 ⟨rfl, hb3⟩)
        clear c0 c1 c2 c3 c4 f0 f1 f2 f3 f4
        obtain ⟨⟨c0, c1, c2, c3, c4⟩, f0, f1, f2, f3, f4⟩ := (d0.below hb3 d0.lt).five
        go_wp2
        go_ret
        exact ⟨ret_bool (by rw [HR.out, HR2.out]), n2.trans (hb3.mono n2.size)⟩
      · have HR2 : Hid (decide (0 < p ∧ p = wd) = false) := by unfold Hid; exact decide_eq_false (fun h => by omega)
        go_enter Tryd.func37, Tryd.ntmps37
        go_upto_region 3 with (go_at_call 40; refine (hlook _).mono ?_; rintro e w2 ⟨rfl, hb⟩)
        have d0 := HBX.out.below hb (by simp)
        have n2 := HBL.out.trans (hb.mono (by simp))
        obtain ⟨⟨c0, c1, c2, c3, c4⟩, f0, f1, f2, f3, f4⟩ := d0.five
        go_upto_region 6 with (go_at_call 63; refine (hpa _ n2).mono ?_; rintro e w3 ⟨rfl, hb3⟩)
        clear c0 c1 c2 c3 c4 f0 f1 f2 f3 f4
        obtain ⟨⟨c0, c1, c2, c3, c4⟩, f0, f1, f2, f3, f4⟩ := (d0.below hb3 d0.lt).five
        go_wp2
        go_ret
        exact ⟨ret_bool (by rw [HR.out, HR2.out]), n2.trans (hb3.mono n2.size)⟩
end Go.Proofs.YtokefclleoaagaaDoor
