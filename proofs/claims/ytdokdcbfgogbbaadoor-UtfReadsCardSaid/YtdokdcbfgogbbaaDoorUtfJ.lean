/- The law UtfWrites, walked. -/
import Derived.Test.YtdokdcbfgogbbaaDoorUtfI
namespace Go.Proofs.YtdokdcbfgogbbaaDoor
open Go.RowKit

theorem refText_any {r : Int} (hr : letterB r = true) (w : World) :
    Calls Tryd.prog 12 #[.int .i32 r] w fun e w' => e = .returned (.string (Utf8.encode r)) ∧ Below w.heap.size w w' := by
  have h := letter_iff.1 hr
  by_cases c : r < 128
  · exact refText_1 r (by omega) c w
  · exact refText_n r (by omega) (by omega) h w

set_option maxRecDepth 100000 in
set_option maxHeartbeats 800000 in
theorem writes_any (r : Int) (w : World) (hT : Tab w) (hW : TabW w) :
    Calls Tryd.prog 3 #[.int .i32 r] w fun e w' => e = .returned (.bool true) ∧ Below w.heap.size w w' := by
  have hX := text_any r w hT
  have hWd := fun W (h : Below w.heap.size w W) => width_any r W (hT.below h) (hW.below h)
  have hRW := refWidth_any r
  have hA := fun W (h : Below w.heap.size w W) => alive_at hT h
  have hIs := refIs_any r
  obtain ⟨wd, hwd⟩ : ∃ wd, widthI r = wd := ⟨_, rfl⟩
  rw [hwd] at hWd hRW
  clear hwd
  cases hr : letterB r
  · have hS : textS r = ⟨#[]⟩ := by unfold textS; rw [hr]; rfl
    rw [hr] at hIs
    rw [hS, textE_no hr] at hX
    clear hr hS
    go_enter Tryd.func3, Tryd.ntmps3
    go_wp2_with (first | (go_at_call 7; refine hX.mono ?_; rintro e w2 ⟨rfl, hb2⟩) | (go_at_call 8; refine (hWd _ hb2).mono ?_; rintro e w3 ⟨rfl, hb3⟩; have hb3 := hb2.trans (hb3.mono hb2.size)) | (go_at_call 9; refine (hRW _).mono ?_; rintro e w4 ⟨rfl, rfl⟩) | (go_at_call 10; refine (hA _ hb3).mono ?_; rintro e w5 ⟨rfl, hb5⟩) | (go_at_call 11; refine (hIs _).mono ?_; rintro e w6 ⟨rfl, rfl⟩))
    go_ret
    exact ⟨rfl, hb5⟩
  · have hS : textS r = Utf8.encode r := by unfold textS; rw [if_pos hr]
    rw [hr] at hIs
    rw [hS, textE_yes hr] at hX
    have hR := refText_any hr
    clear hr hS
    go_enter Tryd.func3, Tryd.ntmps3
    go_wp2_with (first | (go_at_call 7; refine hX.mono ?_; rintro e w2 ⟨rfl, hb2⟩) | (go_at_call 8; refine (hWd _ hb2).mono ?_; rintro e w3 ⟨rfl, hb3⟩; have hb3 := hb2.trans (hb3.mono hb2.size)) | (go_at_call 9; refine (hRW _).mono ?_; rintro e w4 ⟨rfl, rfl⟩) | (go_at_call 10; refine (hA _ hb3).mono ?_; rintro e w5 ⟨rfl, hb5⟩) | (go_at_call 11; refine (hIs _).mono ?_; rintro e w6 ⟨rfl, rfl⟩) | (go_at_call 12; refine (hR _).mono ?_; rintro e w7 ⟨rfl, hb7⟩))
    go_ret
    exact ⟨rfl, hb5.trans (hb7.mono hb5.size)⟩
end Go.Proofs.YtdokdcbfgogbbaaDoor
