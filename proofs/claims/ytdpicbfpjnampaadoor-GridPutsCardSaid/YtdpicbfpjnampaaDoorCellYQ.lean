/- The reference of layer 4: which cells may be. -/
import Derived.Test.YtdpicbfpjnampaaDoorCellGQ
import Derived.Test.YtdpicbfpjnampaaDoorCellIQ
import Derived.Test.YtdpicbfpjnampaaDoorUtfPQ
import Derived.Test.YtdpicbfpjnampaaDoorUtfHQ
import Derived.Lib.QuietBelow
namespace Go.Proofs.YtdpicbfpjnampaaDoor
open Go.RowKit

theorem widthI_le (r : Int) : widthI r ≤ 2 := by
  unfold widthI
  repeat' split
  all_goals omega
theorem right_no {c : Ce} (h0 : c.tx.size ≠ 0) (h : partsG c.tx = (0, 0)) : rightB c = false := by
  unfold rightB
  rw [if_neg h0, h]
  simp
theorem right_apart {c : Ce} (h0 : c.tx.size ≠ 0) (h : (firstG c.tx).e ≠ 0 ∨ widthI (firstG c.tx).r ≠ c.wd ∨ c.wd = 0 ∨ c.wd < 0 ∨ 2 < c.wd) : rightB c = false := by
  have hle := widthI_le (firstG c.tx).r
  unfold rightB
  rw [if_neg h0]
  have : decide (0 < (partsG c.tx).1 ∧ (partsG c.tx).1 = c.wd) = false := by
    refine decide_eq_false ?_
    unfold partsG
    split
    · rename_i he
      split
      · simp only
        rintro ⟨_, h2⟩
        rcases h with h | h | h | h | h
        · exact h he.1
        · exact h h2
        · omega
        · omega
        · omega
      · simp
    · simp
  rw [this, Bool.and_false]
theorem right_empty {c : Ce} (h0 : c.tx.size = 0) (h : c.wd < 0 ∨ 2 < c.wd) : rightB c = false := by
  unfold rightB
  rw [if_pos h0, decide_eq_false (by omega), Bool.and_false]

set_option maxRecDepth 100000 in
set_option maxHeartbeats 1000000 in
theorem rright_short (c : Ce) (w : World) (h : lookB c.at = false ∨ c.wd < 0 ∨ 2 < c.wd) :
    Calls Tryd.prog 18 #[c.agg] w fun e w' => e = .returned (.bool (rightB c)) ∧ Below w.heap.size w w' := by
  have hr : rightB c = false := by
    rcases h with h | h
    · unfold rightB; rw [h, Bool.false_and]
    · by_cases h0 : c.tx.size = 0
      · exact right_empty h0 h
      · exact right_apart h0 (.inr (.inr (.inr h)))
  rw [hr]
  obtain ⟨tx, wd, fg, bg, fl⟩ := c
  have hlook := rLook_any ⟨fg, bg, fl⟩
  have hbx := Box.new w 28 #[.string tx, .int .i64 wd, .int .i64 fg, .int .i64 bg, .int .i64 fl]
  have n0 := below_alloc w (.cells #[.string tx, .int .i64 wd, .int .i64 fg, .int .i64 bg, .int .i64 fl] 28)
  have HX := hid hbx
  simp only [Ce.at] at h
  unfold At.agg at hlook
  simp only at hlook
  show Calls _ _ #[.agg #[.string tx, .int .i64 wd, .int .i64 fg, .int .i64 bg, .int .i64 fl]] _ _
  clear hbx hr
  cases hl : lookB ⟨fg, bg, fl⟩
  · rw [hl] at hlook
    clear h hl
    go_enter Tryd.func18, Tryd.ntmps18
    go_wp2_with (go_at_call 13; refine (hlook _).mono ?_; rintro e w2 ⟨rfl, hb⟩)
    go_ret
    exact ⟨rfl, n0.trans (hb.mono n0.size)⟩
  · rw [hl] at hlook h
    have h' : wd < 0 ∨ (0 ≤ wd ∧ 2 < wd) := by
      rcases h with h | h | h
      · exact absurd h (by simp)
      · exact .inl h
      · exact .inr ⟨by omega, h⟩
    clear h hl
    rcases h' with h | ⟨h, h'⟩
    all_goals
      go_enter Tryd.func18, Tryd.ntmps18
      go_wp2_with (go_at_call 13; refine (hlook _).mono ?_; rintro e w2 ⟨rfl, hb⟩; obtain ⟨⟨c0, c1, c2, c3, c4⟩, f0, f1, f2, f3, f4⟩ := (HX.out.below hb (by simp)).five)
      go_ret
      exact ⟨rfl, n0.trans (hb.mono n0.size)⟩

set_option maxRecDepth 100000 in
set_option maxHeartbeats 1000000 in
theorem rright_empty (c : Ce) (w : World) (hl : lookB c.at = true) (h0 : 0 ≤ c.wd) (h2 : c.wd ≤ 2) (hx : c.tx.size = 0) :
    Calls Tryd.prog 18 #[c.agg] w fun e w' => e = .returned (.bool (rightB c)) ∧ Below w.heap.size w w' := by
  have hr : rightB c = decide (c.wd < 2) := by
    unfold rightB
    rw [hl, Bool.true_and, if_pos hx]
    exact decide_eq_decide.2 (by omega)
  rw [hr]
  obtain ⟨tx, wd, fg, bg, fl⟩ := c
  have hlook := rLook_any ⟨fg, bg, fl⟩
  simp only [Ce.at] at hl h0 h2 hx ⊢
  rw [hl] at hlook
  have ht := empty_yes hx
  subst ht
  have hbx := Box.new w 28 #[.string ⟨#[]⟩, .int .i64 wd, .int .i64 fg, .int .i64 bg, .int .i64 fl]
  have n0 := below_alloc w (.cells #[.string ⟨#[]⟩, .int .i64 wd, .int .i64 fg, .int .i64 bg, .int .i64 fl] 28)
  have HX := hid hbx
  unfold At.agg at hlook
  simp only at hlook
  show Calls _ _ #[.agg #[.string ⟨#[]⟩, .int .i64 wd, .int .i64 fg, .int .i64 bg, .int .i64 fl]] _ _
  clear hbx hr hl hx
  by_cases h : wd < 2
  all_goals
    go_enter Tryd.func18, Tryd.ntmps18
    go_wp2_with (go_at_call 13; refine (hlook _).mono ?_; rintro e w2 ⟨rfl, hb⟩; obtain ⟨⟨c0, c1, c2, c3, c4⟩, f0, f1, f2, f3, f4⟩ := (HX.out.below hb (by simp)).five)
    go_ret
    exact ⟨ret_bool (by first | rfl | simp [h] | (simp; omega)), n0.trans (hb.mono n0.size)⟩
end Go.Proofs.YtdpicbfpjnampaaDoor
