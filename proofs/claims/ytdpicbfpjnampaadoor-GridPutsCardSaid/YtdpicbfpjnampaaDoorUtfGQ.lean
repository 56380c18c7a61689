/- How wide a letter is: the package's table and the document's ranges. -/
import Derived.Test.YtdpicbfpjnampaaDoorUtfFQ
import Derived.Deep.DeepCutAuto
namespace Go.Proofs.YtdpicbfpjnampaaDoor
open Go.RowKit

def widthI (r : Int) : Int :=
  if ¬ ((0 ≤ r ∧ r ≤ 55295) ∨ (57344 ≤ r ∧ r ≤ 1114111)) ∨ r < 32 ∨ (127 ≤ r ∧ r ≤ 159) then -1
  else if (768 ≤ r ∧ r ≤ 879) ∨ (8203 ≤ r ∧ r ≤ 8205) ∨ (65024 ≤ r ∧ r ≤ 65039) then 0
  else if (4352 ≤ r ∧ r ≤ 4447) ∨ (12353 ≤ r ∧ r ≤ 19903) ∨ (19968 ≤ r ∧ r ≤ 40959) ∨ (44032 ≤ r ∧ r ≤ 55203) ∨ (63744 ≤ r ∧ r ≤ 64255) ∨ (65281 ≤ r ∧ r ≤ 65376) ∨ (127744 ≤ r ∧ r ≤ 129791) ∨ (131072 ≤ r ∧ r ≤ 262141) then 2
  else 1

theorem widthI_m {r : Int} (h : ¬ ((0 ≤ r ∧ r ≤ 55295) ∨ (57344 ≤ r ∧ r ≤ 1114111)) ∨ r < 32 ∨ (127 ≤ r ∧ r ≤ 159)) : widthI r = -1 := by
  unfold widthI; rw [if_pos h]
theorem widthI_0 {r : Int} (h : (768 ≤ r ∧ r ≤ 879) ∨ (8203 ≤ r ∧ r ≤ 8205) ∨ (65024 ≤ r ∧ r ≤ 65039)) : widthI r = 0 := by
  unfold widthI; rw [if_neg (by omega), if_pos h]
theorem widthI_2 {r : Int} (h : (4352 ≤ r ∧ r ≤ 4447) ∨ (12353 ≤ r ∧ r ≤ 19903) ∨ (19968 ≤ r ∧ r ≤ 40959) ∨ (44032 ≤ r ∧ r ≤ 55203) ∨ (63744 ≤ r ∧ r ≤ 64255) ∨ (65281 ≤ r ∧ r ≤ 65376) ∨ (127744 ≤ r ∧ r ≤ 129791) ∨ (131072 ≤ r ∧ r ≤ 262141)) : widthI r = 2 := by
  unfold widthI; rw [if_neg (by omega), if_neg (by omega), if_pos h]
theorem widthI_1 {r : Int} (h1 : (0 ≤ r ∧ r ≤ 55295) ∨ (57344 ≤ r ∧ r ≤ 1114111)) (h2 : ¬ r < 32) (h3 : ¬ (127 ≤ r ∧ r ≤ 159)) (h4 : ¬ ((768 ≤ r ∧ r ≤ 879) ∨ (8203 ≤ r ∧ r ≤ 8205) ∨ (65024 ≤ r ∧ r ≤ 65039)))
    (h5 : ¬ ((4352 ≤ r ∧ r ≤ 4447) ∨ (12353 ≤ r ∧ r ≤ 19903) ∨ (19968 ≤ r ∧ r ≤ 40959) ∨ (44032 ≤ r ∧ r ≤ 55203) ∨ (63744 ≤ r ∧ r ≤ 64255) ∨ (65281 ≤ r ∧ r ≤ 65376) ∨ (127744 ≤ r ∧ r ≤ 129791) ∨ (131072 ≤ r ∧ r ≤ 262141))) : widthI r = 1 := by
  unfold widthI; rw [if_neg (by omega), if_neg h4, if_neg h5]

/-- The variable of the widths holds what its text lays. -/
def TabW (w : World) : Prop := ∃ t, w.heap[0]? = some (.cells #[.int .i32 0, .int .i32 31, .int .i32 (-1), .int .i32 127, .int .i32 159, .int .i32 (-1), .int .i32 768, .int .i32 879, .int .i32 0, .int .i32 8203, .int .i32 8205, .int .i32 0, .int .i32 65024, .int .i32 65039, .int .i32 0, .int .i32 4352, .int .i32 4447, .int .i32 2, .int .i32 12353, .int .i32 19903, .int .i32 2, .int .i32 19968, .int .i32 40959, .int .i32 2, .int .i32 44032, .int .i32 55203, .int .i32 2, .int .i32 63744, .int .i32 64255, .int .i32 2, .int .i32 65281, .int .i32 65376, .int .i32 2, .int .i32 127744, .int .i32 129791, .int .i32 2, .int .i32 131072, .int .i32 262141, .int .i32 2] t (0, 0))
theorem TabW.below {w w' : World} (h : TabW w) (hb : Below w.heap.size w w') : TabW w' := by
  obtain ⟨t, h⟩ := h
  exact ⟨t, (hb.block _ (Array.getElem?_eq_some_iff.1 h).1).trans h⟩

def lo13 (k : Nat) : Int := [0, 127, 768, 8203, 65024, 4352, 12353, 19968, 44032, 63744, 65281, 127744, 131072].getD k 0
def hi13 (k : Nat) : Int := [31, 159, 879, 8205, 65039, 4447, 19903, 40959, 55203, 64255, 65376, 129791, 262141].getD k 0
def v13 (k : Nat) : Int := [-1, -1, 0, 0, 0, 2, 2, 2, 2, 2, 2, 2, 2].getD k 0

theorem under13 {k : Nat} (hk : k < 13) : k = 0 ∨ k = 1 ∨ k = 2 ∨ k = 3 ∨ k = 4 ∨ k = 5 ∨ k = 6 ∨ k = 7 ∨ k = 8 ∨ k = 9 ∨ k = 10 ∨ k = 11 ∨ k = 12 := by omega
theorem v13_bd {k : Nat} (hk : k < 13) : -1 ≤ v13 k ∧ v13 k ≤ 2 := by
  rcases under13 hk with rfl | rfl | rfl | rfl | rfl | rfl | rfl | rfl | rfl | rfl | rfl | rfl | rfl <;> decide
theorem width_hit {r : Int} {k : Nat} (hk : k < 13) (h : withinB r (lo13 k) (hi13 k) = true) : v13 k = widthI r := by
  have h := of_decide_eq_true h
  rcases under13 hk with rfl | rfl | rfl | rfl | rfl | rfl | rfl | rfl | rfl | rfl | rfl | rfl | rfl <;> simp only [lo13, hi13, List.getD_cons_zero, List.getD_cons_succ] at h <;>
    first
    | exact (widthI_m (by omega)).symm
    | exact (widthI_0 (by omega)).symm
    | exact (widthI_2 (by omega)).symm
theorem width_none {r : Int} (hr : letterB r = true) (h : ∀ j < 13, withinB r (lo13 j) (hi13 j) = false) : (1 : Int) = widthI r := by
  have g : ∀ j < 13, ¬ (lo13 j ≤ r ∧ r ≤ hi13 j) := fun j hj => of_decide_eq_false (h j hj)
  have g0 := g 0 (by omega); have g1 := g 1 (by omega); have g2 := g 2 (by omega); have g3 := g 3 (by omega); have g4 := g 4 (by omega); have g5 := g 5 (by omega); have g6 := g 6 (by omega)
  have g7 := g 7 (by omega); have g8 := g 8 (by omega); have g9 := g 9 (by omega); have g10 := g 10 (by omega); have g11 := g 11 (by omega); have g12 := g 12 (by omega)
  simp only [lo13, hi13, List.getD_cons_zero, List.getD_cons_succ] at g0 g1 g2 g3 g4 g5 g6 g7 g8 g9 g10 g11 g12
  have hl := letter_iff.1 hr
  exact (widthI_1 hl (by omega) (by omega) (by omega) (by omega)).symm

theorem ix13 (k : Nat) (hk : k < 13) (w : World) : (Instr.index 118 (.agg #[.int .i32 0, .int .i32 31, .int .i32 (-1), .int .i32 127, .int .i32 159, .int .i32 (-1), .int .i32 768, .int .i32 879, .int .i32 0, .int .i32 8203, .int .i32 8205, .int .i32 0, .int .i32 65024, .int .i32 65039, .int .i32 0, .int .i32 4352, .int .i32 4447, .int .i32 2, .int .i32 12353, .int .i32 19903, .int .i32 2, .int .i32 19968, .int .i32 40959, .int .i32 2, .int .i32 44032, .int .i32 55203, .int .i32 2, .int .i32 63744, .int .i32 64255, .int .i32 2, .int .i32 65281, .int .i32 65376, .int .i32 2, .int .i32 127744, .int .i32 129791, .int .i32 2, .int .i32 131072, .int .i32 262141, .int .i32 2]) (.int .i64 (k : Int))).run Tryd.prog w = .ok (.agg #[.int .i32 (lo13 k), .int .i32 (hi13 k), .int .i32 (v13 k)]) w := by
  rcases under13 hk with rfl | rfl | rfl | rfl | rfl | rfl | rfl | rfl | rfl | rfl | rfl | rfl | rfl <;> (show _ = _; kernel_rfl)

set_option maxRecDepth 100000 in
set_option maxHeartbeats 800000 in
theorem width_any (r : Int) (w : World) (hT : Tab w) (hW : TabW w) :
    Calls Tryd.prog 90 #[.int .i32 r] w fun e w' => e = .returned (.int .i64 (widthI r)) ∧ Below w.heap.size w w' := by
  have hl := letter_any r w hT
  cases hr : letterB r
  · rw [hr] at hl
    have HM := hid (widthI_m (r := r) (Or.inl (of_decide_eq_false hr)))
    clear hr
    go_enter Tryd.func90, Tryd.ntmps90
    go_wp2_with (go_at_call 94; refine hl.mono ?_; rintro e w' ⟨rfl, hb⟩)
    go_ret
    exact ⟨ret_int HM.out.symm, hb⟩
  · rw [hr] at hl
    have hWb := fun w' (hb : Below w.heap.size w w') => hW.below hb
    have HR := hid hr
    clear hr hW
    go_enter Tryd.func90, Tryd.ntmps90
    go_upto_region 3 with (go_at_call 94; refine hl.mono ?_; rintro e w' ⟨rfl, hb⟩)
    obtain ⟨tt, hg⟩ := hWb _ hb
    clear hWb hl
    go_wp2_with (refine wpList_load_row rfl 118 _ rfl 0 rfl tt _ (0, 0) _ hg Tryd.underlying118 rfl (by kernel_rfl) ?_)
    clear hg
    go_loopw [9] (fun i wr => ∃ k : Nat, k ≤ 13 ∧ i = .int .i64 k ∧ (∀ j < k, withinB r (lo13 j) (hi13 j) = false) ∧ Below w.heap.size w wr) (fun i _ => 13 - (intOf i).toNat)
    case atStart => exact ⟨0, by omega, rfl, fun j h => absurd h (by omega), hb⟩
    case round =>
      obtain ⟨k, hk, rfl, hno, hbr⟩ := hrel
      have hsz := hbr.size
      have HN := hid hno
      clear hno hb
      by_cases hlt : k < 13
      · have hix := ix13 k hlt
        obtain ⟨hv1, hv2⟩ := v13_bd hlt
        by_cases hw : withinB r (lo13 k) (hi13 k) = true
        · have HV := hid (width_hit hlt hw)
          go_wp2_with (go_at_call 95; refine (within_any _ _ _ _ _).mono ?_; rintro e w' ⟨rfl, hb1⟩; have hc : w'.cell? ⟨wr.heap.size, 2, none⟩ = some (.int .i32 (v13 k)) := (hb1.cell (p := ⟨wr.heap.size, 2, none⟩) (by simp)).trans (by simp [World.cell?_alloc_new]))
          go_ret
          exact ⟨ret_int HV.out, (hbr.alloc hsz _).trans (hb1.mono (by simp; omega))⟩
        · have hw : withinB r (lo13 k) (hi13 k) = false := by simpa using hw
          go_wp2_with (go_at_call 95; refine (within_any _ _ _ _ _).mono ?_; rintro e w' ⟨rfl, hb1⟩)
          go_roundw
          case rel => exact ⟨k + 1, by omega, by go_num, step5 HN.out hw, (hbr.alloc hsz _).trans (hb1.mono (by simp; omega))⟩
          case measure => simp [intOf]; omega
      · have HV := hid (width_none HR.out (fun j hj => HN.out j (by omega)))
        go_wp2
        go_ret
        exact ⟨ret_int HV.out, hbr⟩
end Go.Proofs.YtdpicbfpjnampaaDoor
