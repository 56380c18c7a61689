/- How wide a letter is: the package's table and the document's ranges. -/
import Derived.Test.YtpcpdbofbbpglaaDoorUtfN
import Derived.Deep.DeepCutAuto
namespace Go.Proofs.YtpcpdbofbbpglaaDoor
open Go.RowKit

def widthI (r : Int) : Int :=
  if ¬ ((0 ≤ r ∧ r ≤ 55295) ∨ (57344 ≤ r ∧ r ≤ 1114111)) ∨ r < 32 ∨ (127 ≤ r ∧ r ≤ 159) then -1
  else if (768 ≤ r ∧ r ≤ 879) ∨ (8203 ≤ r ∧ r ≤ 8205) ∨ (65024 ≤ r ∧ r ≤ 65039) then 0
  else if (4352 ≤ r ∧ r ≤ 4447) ∨ (12353 ≤ r ∧ r ≤ 19903) ∨ (19968 ≤ r ∧ r ≤ 40959) ∨ (44032 ≤ r ∧ r ≤ 55203) ∨ (63744 ≤ r ∧ r ≤ 64255) ∨ (65281 ≤ r ∧ r ≤ 65376) ∨ (127744 ≤ r ∧ r ≤ 129791) ∨ (131072 ≤ r ∧ r ≤ 262141) then 2
  else 1

theorem widthI_m {r : Int} (h : ¬ ((0 ≤ r ∧ r ≤ 55295) ∨ (57344 ≤ r ∧ r ≤ 1114111)) ∨ r < 32 ∨ (127 ≤ r ∧ r ≤ 159)) : widthI r = -1 := by
  unfold widthI; rw [if_pos h]
theorem widthI_0 {r : Int} (h : (768 ≤ r ∧ r ≤ 879) ∨ (8203 ≤ r ∧ r ≤ 8205) ∨ (65024 ≤ r ∧ r ≤ 65039)) : widthI r = 0 := by
  unfold widthI; rw [if_neg (by omega), if_pos h]
theorem widthI_2 {r : Int} (h : (4352 ≤ r ∧ r ≤ 4447) ∨ (12353 ≤ r ∧ r ≤ 19903) ∨ (19968 ≤ r ∧ r ≤ 40959) ∨ (44032 ≤ r ∧ r ≤ 55203) ∨ (63744 ≤ r ∧ r ≤ 64255) ∨ (65281 ≤ r ∧ r ≤ 65376) ∨ (127744 ≤ r ∧ r ≤ 129791) ∨ (131072 ≤ r ∧ r ≤ 262141)) : widthI r = 2 := by
  unfold widthI; rw [if_neg (by omega), if_neg (by omega), if_pos h]
theorem widthI_1 {r : Int} (h1 : (0 ≤ r ∧ r ≤ 55295) ∨ (57344 ≤ r ∧ r ≤ 1114111)) (h2 : ¬ r < 32) (h3 : ¬ (127 ≤ r ∧ r ≤ 159)) (h4 : ¬ ((768 ≤ r ∧ r ≤ 879) ∨ (8203 ≤ r ∧ r ≤ 8205) ∨ (65024 ≤ r ∧ r ≤ 65039)))
    (h5 : ¬ ((4352 ≤ r ∧ r ≤ 4447) ∨ (12353 ≤ r ∧ r ≤ 19903) ∨ (19968 ≤ r ∧ r ≤ 40959) ∨ (44032 ≤ r ∧ r ≤ 55203) ∨ (63744 ≤ r ∧ r ≤ 64255) ∨ (65281 ≤ r ∧ r ≤ 65376) ∨ (127744 ≤ r ∧ r ≤ 129791) ∨ (131072 ≤ r ∧ r ≤ 262141))) : widthI r = 1 := by
  unfold widthI; rw [if_neg (by omega), if_neg h4, if_neg h5]

def lo13 (k : Nat) : Int := [0, 127, 768, 8203, 65024, 4352, 12353, 19968, 44032, 63744, 65281, 127744, 131072].getD k 0
def hi13 (k : Nat) : Int := [31, 159, 879, 8205, 65039, 4447, 19903, 40959, 55203, 64255, 65376, 129791, 262141].getD k 0
def v13 (k : Nat) : Int := [-1, -1, 0, 0, 0, 2, 2, 2, 2, 2, 2, 2, 2].getD k 0

theorem under13 {k : Nat} (hk : k < 13) : k = 0 ∨ k = 1 ∨ k = 2 ∨ k = 3 ∨ k = 4 ∨ k = 5 ∨ k = 6 ∨ k = 7 ∨ k = 8 ∨ k = 9 ∨ k = 10 ∨ k = 11 ∨ k = 12 := by omega
theorem v13_bd {k : Nat} (hk : k < 13) : -1 ≤ v13 k ∧ v13 k ≤ 2 := by
  rcases under13 hk with rfl | rfl | rfl | rfl | rfl | rfl | rfl | rfl | rfl | rfl | rfl | rfl | rfl <;> decide
theorem width_hit {r : Int} {k : Nat} (hk : k < 13) (h : withinB r (lo13 k) (hi13 k) = true) : v13 k = widthI r := by
  have h := of_decide_eq_true h
  rcases under13 hk with rfl | rfl | rfl | rfl | rfl | rfl | rfl | rfl | rfl | rfl | rfl | rfl | rfl <;> simp only [lo13, hi13, List.getD_cons_zero, List.getD_cons_succ] at h <;>
    first
    | exact (widthI_m (by omega)).symm
    | exact (widthI_0 (by omega)).symm
    | exact (widthI_2 (by omega)).symm
theorem width_none {r : Int} (hr : letterB r = true) (h : ∀ j < 13, withinB r (lo13 j) (hi13 j) = false) : (1 : Int) = widthI r := by
  have g : ∀ j < 13, ¬ (lo13 j ≤ r ∧ r ≤ hi13 j) := fun j hj => of_decide_eq_false (h j hj)
  have g0 := g 0 (by omega); have g1 := g 1 (by omega); have g2 := g 2 (by omega); have g3 := g 3 (by omega); have g4 := g 4 (by omega); have g5 := g 5 (by omega); have g6 := g 6 (by omega)
  have g7 := g 7 (by omega); have g8 := g 8 (by omega); have g9 := g 9 (by omega); have g10 := g 10 (by omega); have g11 := g 11 (by omega); have g12 := g 12 (by omega)
  simp only [lo13, hi13, List.getD_cons_zero, List.getD_cons_succ] at g0 g1 g2 g3 g4 g5 g6 g7 g8 g9 g10 g11 g12
  have hl := letter_iff.1 hr
  exact (widthI_1 hl (by omega) (by omega) (by omega) (by omega)).symm

end Go.Proofs.YtpcpdbofbbpglaaDoor
