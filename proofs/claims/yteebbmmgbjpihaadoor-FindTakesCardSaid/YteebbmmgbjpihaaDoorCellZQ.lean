/- The reference of layer 4: which cells may be. -/
/- The reference of layer 4: which cells with a text may be. -/
import Derived.Test.YteebbmmgbjpihaaDoorCellGQ
import Derived.Test.YteebbmmgbjpihaaDoorCellIQ
import Derived.Test.YteebbmmgbjpihaaDoorUtfPQ
import Derived.Test.YteebbmmgbjpihaaDoorUtfHQ
import Derived.Lib.QuietBelow
namespace Go.Proofs.YteebbmmgbjpihaaDoor
open Go.RowKit

theorem widthI_le (r : Int) : widthI r ≤ 2 := by
  unfold widthI
  repeat' split
  all_goals omega
theorem right_no {c : Ce} (h0 : c.tx.size ≠ 0) (h : partsG c.tx = (0, 0)) : rightB c = false := by
  unfold rightB
  rw [if_neg h0, h]
  simp
theorem right_apart {c : Ce} (h0 : c.tx.size ≠ 0) (h : (firstG c.tx).e ≠ 0 ∨ widthI (firstG c.tx).r ≠ c.wd ∨ c.wd = 0 ∨ c.wd < 0 ∨ 2 < c.wd) : rightB c = false := by
  have hle := widthI_le (firstG c.tx).r
  unfold rightB
  rw [if_neg h0]
  have : decide (0 < (partsG c.tx).1 ∧ (partsG c.tx).1 = c.wd) = false := by
    refine decide_eq_false ?_
    unfold partsG
    split
    · rename_i he
      split
      · simp only
        rintro ⟨_, h2⟩
        rcases h with h | h | h | h | h
        · exact h he.1
        · exact h h2
        · omega
        · omega
        · omega
      · simp
    · simp
  rw [this, Bool.and_false]
theorem right_empty {c : Ce} (h0 : c.tx.size = 0) (h : c.wd < 0 ∨ 2 < c.wd) : rightB c = false := by
  unfold rightB
  rw [if_pos h0, decide_eq_false (by omega), Bool.and_false]

set_option maxRecDepth 100000 in
set_option maxHeartbeats 1000000 in
theorem rright_short (c : Ce) (w : World) (h : lookB c.at = false ∨ c.wd < 0 ∨ 2 < c.wd) :
    Calls Tryd.prog 38 #[c.agg] w fun e w' => e = .returned (.bool (rightB c)) ∧ Below w.heap.size w w' := by
  have hr : rightB c = false := by
    rcases h with h | h
    · unfold rightB; rw [h, Bool.false_and]
    · by_cases h0 : c.tx.size = 0
      · exact right_empty h0 h
      · exact right_apart h0 (.inr (.inr (.inr h)))
  rw [hr]
  obtain ⟨tx, wd, fg, bg, fl⟩ := c
  have hlook := rLook_any ⟨fg, bg, fl⟩
  have hbx := Box.new w 44 #[.string tx, .int .i64 wd, .int .i64 fg, .int .i64 bg, .int .i64 fl]
  have n0 := below_alloc w (.cells #[.string tx, .int .i64 wd, .int .i64 fg, .int .i64 bg, .int .i64 fl] 44)
  have HX := hid hbx
  simp only [Ce.at] at h
  unfold At.agg at hlook
  simp only at hlook
  show Calls _ _ #[.agg #[.string tx, .int .i64 wd, .int .i64 fg, .int .i64 bg, .int .i64 fl]] _ _
  clear hbx hr
  cases hl : lookB ⟨fg, bg, fl⟩
  · rw [hl] at hlook
    clear h hl
    go_enter Tryd.func38, Tryd.ntmps38
    go_wp2_with (go_at_call 46; refine (hlook _).mono ?_; rintro e w2 ⟨rfl, hb⟩)
    go_ret
    exact ⟨rfl, n0.trans (hb.mono n0.size)⟩
  · rw [hl] at hlook h
    have h' : wd < 0 ∨ (0 ≤ wd ∧ 2 < wd) := by
      rcases h with h | h | h
      · exact absurd h (by simp)
      · exact .inl h
      · exact .inr ⟨by omega, h⟩
    clear h hl
    rcases h' with h | ⟨h, h'⟩
    all_goals
      go_enter Tryd.func38, Tryd.ntmps38
      go_wp2_with (go_at_call 46; refine (hlook _).mono ?_; rintro e w2 ⟨rfl, hb⟩; obtain ⟨⟨c0, c1, c2, c3, c4⟩, f0, f1, f2, f3, f4⟩ := (HX.out.below hb (by simp)).five)
      go_ret
      exact ⟨rfl, n0.trans (hb.mono n0.size)⟩

set_option maxRecDepth 100000 in
set_option maxHeartbeats 1000000 in
theorem rright_empty (c : Ce) (w : World) (hl : lookB c.at = true) (h0 : 0 ≤ c.wd) (h2 : c.wd ≤ 2) (hx : c.tx.size = 0) :
    Calls Tryd.prog 38 #[c.agg] w fun e w' => e = .returned (.bool (rightB c)) ∧ Below w.heap.size w w' := by
  have hr : rightB c = decide (c.wd < 2) := by
    unfold rightB
    rw [hl, Bool.true_and, if_pos hx]
    exact decide_eq_decide.2 (by omega)
  rw [hr]
  obtain ⟨tx, wd, fg, bg, fl⟩ := c
  have hlook := rLook_any ⟨fg, bg, fl⟩
  simp only [Ce.at] at hl h0 h2 hx ⊢
  rw [hl] at hlook
  have ht := empty_yes hx
  subst ht
  have hbx := Box.new w 44 #[.string ⟨#[]⟩, .int .i64 wd, .int .i64 fg, .int .i64 bg, .int .i64 fl]
  have n0 := below_alloc w (.cells #[.string ⟨#[]⟩, .int .i64 wd, .int .i64 fg, .int .i64 bg, .int .i64 fl] 44)
  have HX := hid hbx
  unfold At.agg at hlook
  simp only at hlook
  show Calls _ _ #[.agg #[.string ⟨#[]⟩, .int .i64 wd, .int .i64 fg, .int .i64 bg, .int .i64 fl]] _ _
  clear hbx hr hl hx
  by_cases h : wd < 2
  all_goals
    go_enter Tryd.func38, Tryd.ntmps38
    go_wp2_with (go_at_call 46; refine (hlook _).mono ?_; rintro e w2 ⟨rfl, hb⟩; obtain ⟨⟨c0, c1, c2, c3, c4⟩, f0, f1, f2, f3, f4⟩ := (HX.out.below hb (by simp)).five)
    go_ret
    exact ⟨ret_bool (by first | rfl | simp [h] | (simp; omega)), n0.trans (hb.mono n0.size)⟩
end Go.Proofs.YteebbmmgbjpihaaDoor

namespace Go.Proofs.YteebbmmgbjpihaaDoor
open Go.RowKit

theorem toStr_ne {s : ByteArray} (h0 : s.size ≠ 0) : ¬ s.toList = [] := by
  intro h
  have := empty_no h0
  rw [h] at this
  exact absurd this (by simp)

set_option maxRecDepth 100000 in
set_option maxHeartbeats 2000000 in
theorem rright_text (c : Ce) (w : World) (hs : c.tx.size ≤ 1000) (hl : lookB c.at = true) (h0 : 0 ≤ c.wd) (h2 : c.wd ≤ 2) (hx : c.tx.size ≠ 0) :
    Calls Tryd.prog 38 #[c.agg] w fun e w' => e = .returned (.bool (rightB c)) ∧ Below w.heap.size w w' := by
  have hfi := fun W => refFirst_any c.tx W (by unfold maxLen; omega)
  have hap := fun h => right_apart (c := c) hx h
  have hin := firstG_in c.tx
  have hR : (firstG c.tx).e = 0 → widthI (firstG c.tx).r = c.wd → 1 ≤ c.wd → rightB c = match marksF 2 (c.tx.extract (firstG c.tx).n.toNat c.tx.size) 0 with | some _ => true | none => false := by
    intro he hw h1
    unfold rightB
    rw [hl, Bool.true_and, if_neg hx]
    unfold partsG
    rw [if_pos ⟨he, by omega⟩, hw]
    split
    · rename_i k hk
      rw [hk]
      simp only
      exact decide_eq_true ⟨by omega, trivial⟩
    · rename_i hk
      rw [hk]
      simp
  obtain ⟨tx, wd, fg, bg, fl⟩ := c
  have hlook := rLook_any ⟨fg, bg, fl⟩
  simp only [Ce.at] at hl h0 h2 hx hs hfi hap hin hR ⊢
  rw [hl] at hlook
  unfold Got.agg at hfi
  generalize firstG tx = g at *
  obtain ⟨r, gn, ge⟩ := g
  simp only at hfi hap hin hR
  have hne := empty_no hx
  have hne' := toStr_ne hx
  have hbx := Box.new w 44 #[.string tx, .int .i64 wd, .int .i64 fg, .int .i64 bg, .int .i64 fl]
  have n0 := below_alloc w (.cells #[.string tx, .int .i64 wd, .int .i64 fg, .int .i64 bg, .int .i64 fl] 44)
  have HX := hid hbx
  have hwi := refWidth_any r
  unfold At.agg at hlook
  simp only at hlook
  show Calls _ _ #[.agg #[.string tx, .int .i64 wd, .int .i64 fg, .int .i64 bg, .int .i64 fl]] _ _
  clear hbx hl hx
  have HAP := hid hap
  have HRR := hid hR
  have HIN := hid hin
  clear hap hR hin
  generalize rightB ⟨tx, wd, fg, bg, fl⟩ = RB at *
  go_enter Tryd.func38, Tryd.ntmps38
  go_upto_region 5 with (go_at_call 46; refine (hlook _).mono ?_; rintro e w2 ⟨rfl, hb⟩; obtain ⟨⟨c0, c1, c2, c3, c4⟩, f0, f1, f2, f3, f4⟩ := (HX.out.below hb (by simp)).five)
  have n2 := n0.trans (hb.mono n0.size)
  have d0 := HX.out.below hb (by simp)
  clear hb n0 HX
  go_upto_region 6 with (go_at_call 47; refine (hfi _).mono ?_; rintro e w3 ⟨rfl, hb3⟩)
  have n3 := (n2.trans (hb3.mono n2.size)).alloc (Nat.le_trans n2.size hb3.size) (.cells #[.int .i32 r, .int .i64 gn, .int .i64 ge] 77)
  have d0 := (d0.below hb3 d0.lt).alloc (.cells #[.int .i32 r, .int .i64 gn, .int .i64 ge] 77)
  have d3 := Box.new w3 77 #[.int .i32 r, .int .i64 gn, .int .i64 ge]
  generalize w3.alloc (.cells #[.int .i32 r, .int .i64 gn, .int .i64 ge] 77) = W3 at *
  generalize w3.heap.size = N3 at *
  clear hb3 hfi c0 c1 c2 c3 c4 f0 f1 f2 f3 f4 n2
  obtain ⟨⟨c0, c1, c2, c3, c4⟩, f0, f1, f2, f3, f4⟩ := d0.five
  obtain ⟨⟨b0, b1, b2⟩, g0, g1, g2⟩ := d3.three
  have c0 := cell_regrown c0
  have c1 := cell_regrown c1
  have b0 := cell_regrown b0
  have b1 := cell_regrown b1
  have b2 := cell_regrown b2
  have cW : ∀ d os, Calls Tryd.prog 48 #[.int .i32 r] (Go.Sort.grow (redrawn W3 d) os) fun e w'' => e = .returned (.int .i64 (widthI r)) ∧ ∃ p : Regrown, w'' = Go.Sort.grow (redrawn W3 p.d) p.os := fun d os => Calls.regrown_of ((hwi _).mono fun _ _ ⟨he, hw⟩ => ⟨he, hw ▸ Below.refl _ _⟩)
  by_cases he : ge = 0
  · subst he
    by_cases hw0 : wd = 0
    · subst hw0
      have HF := hid (HAP.out (.inr (.inr (.inl rfl))))
      clear hwi
      refine wp_region_quiet_below (by kernel_rfl) (by kernel_rfl) ?_
      repeat (quiet_step (exact cW _ _))
      refine wpQuiet_nil ?_
      intro _ hw'
      obtain ⟨⟨dq, osq⟩, hw''⟩ := hw'
      subst hw''
      have n4 := n3.trans ((below_regrown W3 dq osq).mono n3.size)
      clear cW
      generalize Go.Sort.grow (redrawn W3 dq) osq = W4 at *
      go_wp2
      go_ret
      exact ⟨ret_bool HF.out.symm, n4⟩
    · have q0 : (wd == 0) = false := by simp [hw0]
      by_cases hv : widthI r = wd
      · have HRB := hid (HRR.out rfl hv (by omega))
        have hg0 : 0 ≤ gn := HIN.out.1
        have hg1 : gn ≤ (tx.size : Int) := by have := HIN.out.2.1; omega
        rw [hv] at cW
        clear hwi hw0 hv
        refine wp_region_quiet_below (by kernel_rfl) (by kernel_rfl) ?_
        repeat (quiet_step (exact cW _ _))
        refine wpQuiet_nil ?_
        intro _ hw'
        obtain ⟨⟨dq, osq⟩, hw''⟩ := hw'
        subst hw''
        have hb4 := below_regrown W3 dq osq
        have n4 := n3.trans (hb4.mono n3.size)
        have d0 := d0.below hb4 d0.lt
        have d3 := d3.below hb4 d3.lt
        clear cW hb4 c0 c1 b0 b1 b2 f0 f1 f2 f3 f4 g0 g1 g2 c2 c3 c4
        generalize Go.Sort.grow (redrawn W3 dq) osq = W4 at *
        obtain ⟨⟨c0, c1, c2, c3, c4⟩, f0, f1, f2, f3, f4⟩ := d0.five
        obtain ⟨⟨b0, b1, b2⟩, g0, g1, g2⟩ := d3.three
        obtain ⟨s1, hs1⟩ : ∃ s1, tx.extract gn.toNat tx.size = s1 := ⟨_, rfl⟩
        have hz1 : s1.size ≤ 1000 := by rw [← hs1, size_extract']; omega
        rw [hs1] at HRB
        go_upto_region 10 with fail
        have hm0 : marksF 2 s1 0 = marksF (2 - 0) s1 0 := rfl
        clear HIN HAP b0 b1 b2 c0 c1 c2 c3 c4 f0 f1 f2 f3 f4 g0 g1 g2 d0 d3 hs1 hg0 hg1 n3 hlook hs q0 h0 h2 hne hne'
        go_loopw [4, 5] (fun xv mv wr => ∃ (x : ByteArray) (m : Nat), xv = .string x ∧ mv = .int .i64 m ∧ m + x.size ≤ 1000 ∧ ((m ≤ 2 ∧ marksF 2 s1 0 = marksF (2 - m) x m) ∨ (3 ≤ m ∧ marksF 2 s1 0 = none)) ∧ Below w.heap.size w wr) (fun xv _ _ => strLen xv)
        case atStart => exact ⟨s1, 0, rfl, rfl, by omega, .inl ⟨by omega, hm0⟩, n4⟩
        case round =>
          clear n4 hm0
          obtain ⟨x, m, rfl, rfl, hmx, hmk, hbr⟩ := hrel
          have HMK := hid hmk
          clear hmk
          by_cases hx : x.size = 0
          · have hxe := empty_yes hx
            subst hxe
            by_cases hm2 : m ≤ 2
            · have HF : Hid (RB = true) := by
                unfold Hid
                rw [HRB.out]
                rcases HMK.out with ⟨_, h⟩ | ⟨h, _⟩
                · rw [h, marks_end rfl]
                · omega
              have hmi : (m : Int) ≤ 2 := by omega
              clear hx hm2
              go_wp2
              go_ret
              exact ⟨ret_bool HF.out.symm, hbr⟩
            · have HF : Hid (RB = false) := by
                unfold Hid
                rw [HRB.out]
                rcases HMK.out with ⟨h, _⟩ | ⟨_, h⟩
                · omega
                · rw [h]
              have hmi : ¬ (m : Int) ≤ 2 := by omega
              clear hx hm2
              go_wp2
              go_ret
              exact ⟨ret_bool (by rw [HF.out]), hbr⟩
          · have hxp : (0 : Int) < x.size := by omega
            have hf2 := refFirst_any x wr (by unfold maxLen; omega)
            have hin2 := firstG_in x
            have hst : ∀ h : m ≤ 2, marksF (2 - m) x m = if (firstG x).e = 0 ∧ widthI (firstG x).r = 0 ∧ m ≠ 2 then marksF (2 - (m + 1)) (x.extract (firstG x).n.toNat x.size) (m + 1) else none := fun h => marks_step hx h
            unfold Got.agg at hf2
            generalize firstG x = g at *
            obtain ⟨r2, gn2, ge2⟩ := g
            simp only at hf2 hin2 hst
            have hwi2 := refWidth_any r2
            have HST := hid hst
            have HI2 := hid hin2
            clear hst hin2 hx
            by_cases he2 : ge2 = 0
            · subst he2
              by_cases hv2 : widthI r2 = 0
              · rw [hv2] at hwi2
                obtain ⟨x2, hx2⟩ : ∃ x2, x.extract gn2.toNat x.size = x2 := ⟨_, rfl⟩
                have hz2 : x2.size = x.size - gn2.toNat := by rw [← hx2, size_extract']; omega
                have hi2 := HI2.out
                have hi3 : 1 ≤ gn2.toNat := hi2.2.2 rfl
                have hgi0 : 0 ≤ gn2 := hi2.1
                have hgi1 : gn2 ≤ (x.size : Int) := by omega
                have hnew : Hid ((m + 1 ≤ 2 ∧ marksF 2 s1 0 = marksF (2 - (m + 1)) x2 (m + 1)) ∨ (3 ≤ m + 1 ∧ marksF 2 s1 0 = none)) := by
                  unfold Hid
                  rcases HMK.out with ⟨h1, h2⟩ | ⟨h1, h2⟩
                  · have h3 := HST.out h1
                    by_cases hm2 : m = 2
                    · rw [if_neg (fun h => h.2.2 hm2)] at h3
                      exact .inr ⟨by omega, h2.trans h3⟩
                    · rw [if_pos ⟨rfl, hv2, hm2⟩, hx2] at h3
                      exact .inl ⟨by omega, h2.trans h3⟩
                  · exact .inr ⟨by omega, h2⟩
                have hlt : x2.size < x.size := by omega
                have hle2 : m + 1 + x2.size ≤ 1000 := by omega
                have HZ := hid hz2
                clear hi2 hi3 hv2 hz2
                go_upto_region 12 with (go_at_call 47; refine hf2.mono ?_; rintro e w5 ⟨rfl, hb5⟩)
                have n5 := (hbr.trans (hb5.mono hbr.size)).alloc (Nat.le_trans hbr.size hb5.size) (.cells #[.int .i32 r2, .int .i64 gn2, .int .i64 0] 77)
                have d5 := Box.new w5 77 #[.int .i32 r2, .int .i64 gn2, .int .i64 0]
                generalize w5.alloc (.cells #[.int .i32 r2, .int .i64 gn2, .int .i64 0] 77) = W5 at *
                generalize w5.heap.size = N5 at *
                clear hb5 hf2
                obtain ⟨⟨b0, b1, b2⟩, g0, g1, g2⟩ := d5.three
                go_wp2_with (go_at_call 48; refine (hwi2 _).mono ?_; rintro e w6 ⟨rfl, rfl⟩)
                go_roundw
                case rel => exact ⟨x2, m + 1, rfl, by go_num, by omega, hnew.out, n5⟩
                case measure => simp only [strLen]; omega
              · have HF : Hid (RB = false) := by
                  unfold Hid
                  rw [HRB.out]
                  rcases HMK.out with ⟨h1, h2⟩ | ⟨_, h2⟩
                  · rw [h2, HST.out h1, if_neg (fun h => hv2 h.2.1)]
                  · rw [h2]
                generalize widthI r2 = V2 at *
                have hv3 : (V2 != 0) = true := by simp [hv2]
                clear hv2
                go_upto_region 12 with (go_at_call 47; refine hf2.mono ?_; rintro e w5 ⟨rfl, hb5⟩)
                have n5 := (hbr.trans (hb5.mono hbr.size)).alloc (Nat.le_trans hbr.size hb5.size) (.cells #[.int .i32 r2, .int .i64 gn2, .int .i64 0] 77)
                have d5 := Box.new w5 77 #[.int .i32 r2, .int .i64 gn2, .int .i64 0]
                generalize w5.alloc (.cells #[.int .i32 r2, .int .i64 gn2, .int .i64 0] 77) = W5 at *
                generalize w5.heap.size = N5 at *
                clear hb5 hf2
                obtain ⟨⟨b0, b1, b2⟩, g0, g1, g2⟩ := d5.three
                go_wp2_with (go_at_call 48; refine (hwi2 _).mono ?_; rintro e w6 ⟨rfl, rfl⟩)
                go_ret
                exact ⟨ret_bool HF.out.symm, n5⟩
            · have HF : Hid (RB = false) := by
                unfold Hid
                rw [HRB.out]
                rcases HMK.out with ⟨h1, h2⟩ | ⟨_, h2⟩
                · rw [h2, HST.out h1, if_neg (fun h => he2 h.1)]
                · rw [h2]
              have he3 : (ge2 != 0) = true := by simp [he2]
              clear he2
              go_upto_region 12 with (go_at_call 47; refine hf2.mono ?_; rintro e w5 ⟨rfl, hb5⟩)
              have n5 := (hbr.trans (hb5.mono hbr.size)).alloc (Nat.le_trans hbr.size hb5.size) (.cells #[.int .i32 r2, .int .i64 gn2, .int .i64 ge2] 77)
              have d5 := Box.new w5 77 #[.int .i32 r2, .int .i64 gn2, .int .i64 ge2]
              generalize w5.alloc (.cells #[.int .i32 r2, .int .i64 gn2, .int .i64 ge2] 77) = W5 at *
              generalize w5.heap.size = N5 at *
              clear hb5 hf2
              obtain ⟨⟨b0, b1, b2⟩, g0, g1, g2⟩ := d5.three
              go_wp2
              go_ret
              exact ⟨ret_bool HF.out.symm, n5⟩
      · have HF := hid (HAP.out (.inr (.inl hv)))
        generalize widthI r = V at *
        have q1 : (V != wd) = true := by simp [hv]
        clear hwi hw0 hv
        refine wp_region_quiet_below (by kernel_rfl) (by kernel_rfl) ?_
        repeat (quiet_step (exact cW _ _))
        refine wpQuiet_nil ?_
        intro _ hw'
        obtain ⟨⟨dq, osq⟩, hw''⟩ := hw'
        subst hw''
        have n4 := n3.trans ((below_regrown W3 dq osq).mono n3.size)
        clear cW
        generalize Go.Sort.grow (redrawn W3 dq) osq = W4 at *
        go_wp2
        go_ret
        exact ⟨ret_bool HF.out.symm, n4⟩
  · have HF := hid (HAP.out (.inl he))
    have q1 : (ge != 0) = true := by simp [he]
    clear hwi he
    refine wp_region_quiet_below (by kernel_rfl) (by kernel_rfl) ?_
    repeat (quiet_step (exact cW _ _))
    refine wpQuiet_nil ?_
    intro _ hw'
    obtain ⟨⟨dq, osq⟩, hw''⟩ := hw'
    subst hw''
    have n4 := n3.trans ((below_regrown W3 dq osq).mono n3.size)
    clear cW
    generalize Go.Sort.grow (redrawn W3 dq) osq = W4 at *
    go_wp2
    go_ret
    exact ⟨ret_bool HF.out.symm, n4⟩

theorem rright_any (c : Ce) (w : World) (hs : c.tx.size ≤ 1000) :
    Calls Tryd.prog 38 #[c.agg] w fun e w' => e = .returned (.bool (rightB c)) ∧ Below w.heap.size w w' := by
  cases hl : lookB c.at
  · exact rright_short c w (.inl hl)
  · by_cases h : c.wd < 0 ∨ 2 < c.wd
    · exact rright_short c w (.inr h)
    · by_cases hx : c.tx.size = 0
      · exact rright_empty c w hl (by omega) (by omega) hx
      · exact rright_text c w hs hl (by omega) (by omega) hx
end Go.Proofs.YteebbmmgbjpihaaDoor
