/- How wide a letter is: the package's table and the document's ranges. -/
/- Layer 4, plain: cells; how wide a text's letter is, and how many marks are behind it. -/
/- Layer 6, plain: cells that are half of a letter, lines that are mended, grids. -/
/- The document's own answers of layer 1, walked: how wide, how many bytes, the bytes. -/
import Derived.Test.YteebbmmgbjpihaaDoorUtfFQ
import Derived.Deep.DeepCutAuto
import Derived.Test.YteebbmmgbjpihaaDoorCellIQ
import Derived.Deep.RegionWith
namespace Go.Proofs.YteebbmmgbjpihaaDoor
open Go.RowKit

def widthI (r : Int) : Int :=
  if ¬ ((0 ≤ r ∧ r ≤ 55295) ∨ (57344 ≤ r ∧ r ≤ 1114111)) ∨ r < 32 ∨ (127 ≤ r ∧ r ≤ 159) then -1
  else if (768 ≤ r ∧ r ≤ 879) ∨ (8203 ≤ r ∧ r ≤ 8205) ∨ (65024 ≤ r ∧ r ≤ 65039) then 0
  else if (4352 ≤ r ∧ r ≤ 4447) ∨ (12353 ≤ r ∧ r ≤ 19903) ∨ (19968 ≤ r ∧ r ≤ 40959) ∨ (44032 ≤ r ∧ r ≤ 55203) ∨ (63744 ≤ r ∧ r ≤ 64255) ∨ (65281 ≤ r ∧ r ≤ 65376) ∨ (127744 ≤ r ∧ r ≤ 129791) ∨ (131072 ≤ r ∧ r ≤ 262141) then 2
  else 1

theorem widthI_m {r : Int} (h : ¬ ((0 ≤ r ∧ r ≤ 55295) ∨ (57344 ≤ r ∧ r ≤ 1114111)) ∨ r < 32 ∨ (127 ≤ r ∧ r ≤ 159)) : widthI r = -1 := by
  unfold widthI; rw [if_pos h]
theorem widthI_0 {r : Int} (h : (768 ≤ r ∧ r ≤ 879) ∨ (8203 ≤ r ∧ r ≤ 8205) ∨ (65024 ≤ r ∧ r ≤ 65039)) : widthI r = 0 := by
  unfold widthI; rw [if_neg (by omega), if_pos h]
theorem widthI_2 {r : Int} (h : (4352 ≤ r ∧ r ≤ 4447) ∨ (12353 ≤ r ∧ r ≤ 19903) ∨ (19968 ≤ r ∧ r ≤ 40959) ∨ (44032 ≤ r ∧ r ≤ 55203) ∨ (63744 ≤ r ∧ r ≤ 64255) ∨ (65281 ≤ r ∧ r ≤ 65376) ∨ (127744 ≤ r ∧ r ≤ 129791) ∨ (131072 ≤ r ∧ r ≤ 262141)) : widthI r = 2 := by
  unfold widthI; rw [if_neg (by omega), if_neg (by omega), if_pos h]
theorem widthI_1 {r : Int} (h1 : (0 ≤ r ∧ r ≤ 55295) ∨ (57344 ≤ r ∧ r ≤ 1114111)) (h2 : ¬ r < 32) (h3 : ¬ (127 ≤ r ∧ r ≤ 159)) (h4 : ¬ ((768 ≤ r ∧ r ≤ 879) ∨ (8203 ≤ r ∧ r ≤ 8205) ∨ (65024 ≤ r ∧ r ≤ 65039)))
    (h5 : ¬ ((4352 ≤ r ∧ r ≤ 4447) ∨ (12353 ≤ r ∧ r ≤ 19903) ∨ (19968 ≤ r ∧ r ≤ 40959) ∨ (44032 ≤ r ∧ r ≤ 55203) ∨ (63744 ≤ r ∧ r ≤ 64255) ∨ (65281 ≤ r ∧ r ≤ 65376) ∨ (127744 ≤ r ∧ r ≤ 129791) ∨ (131072 ≤ r ∧ r ≤ 262141))) : widthI r = 1 := by
  unfold widthI; rw [if_neg (by omega), if_neg h4, if_neg h5]

/-- The variable of the widths holds what its text lays. -/
def TabW (w : World) : Prop := ∃ t, w.heap[3]? = some (.cells #[.int .i32 0, .int .i32 31, .int .i32 (-1), .int .i32 127, .int .i32 159, .int .i32 (-1), .int .i32 768, .int .i32 879, .int .i32 0, .int .i32 8203, .int .i32 8205, .int .i32 0, .int .i32 65024, .int .i32 65039, .int .i32 0, .int .i32 4352, .int .i32 4447, .int .i32 2, .int .i32 12353, .int .i32 19903, .int .i32 2, .int .i32 19968, .int .i32 40959, .int .i32 2, .int .i32 44032, .int .i32 55203, .int .i32 2, .int .i32 63744, .int .i32 64255, .int .i32 2, .int .i32 65281, .int .i32 65376, .int .i32 2, .int .i32 127744, .int .i32 129791, .int .i32 2, .int .i32 131072, .int .i32 262141, .int .i32 2] t (0, 0))
theorem TabW.below {w w' : World} (h : TabW w) (hb : Below w.heap.size w w') : TabW w' := by
  obtain ⟨t, h⟩ := h
  exact ⟨t, (hb.block _ (Array.getElem?_eq_some_iff.1 h).1).trans h⟩

def lo13 (k : Nat) : Int := [0, 127, 768, 8203, 65024, 4352, 12353, 19968, 44032, 63744, 65281, 127744, 131072].getD k 0
def hi13 (k : Nat) : Int := [31, 159, 879, 8205, 65039, 4447, 19903, 40959, 55203, 64255, 65376, 129791, 262141].getD k 0
def v13 (k : Nat) : Int := [-1, -1, 0, 0, 0, 2, 2, 2, 2, 2, 2, 2, 2].getD k 0

theorem under13 {k : Nat} (hk : k < 13) : k = 0 ∨ k = 1 ∨ k = 2 ∨ k = 3 ∨ k = 4 ∨ k = 5 ∨ k = 6 ∨ k = 7 ∨ k = 8 ∨ k = 9 ∨ k = 10 ∨ k = 11 ∨ k = 12 := by omega
theorem v13_bd {k : Nat} (hk : k < 13) : -1 ≤ v13 k ∧ v13 k ≤ 2 := by
  rcases under13 hk with rfl | rfl | rfl | rfl | rfl | rfl | rfl | rfl | rfl | rfl | rfl | rfl | rfl <;> decide
theorem width_hit {r : Int} {k : Nat} (hk : k < 13) (h : withinB r (lo13 k) (hi13 k) = true) : v13 k = widthI r := by
  have h := of_decide_eq_true h
  rcases under13 hk with rfl | rfl | rfl | rfl | rfl | rfl | rfl | rfl | rfl | rfl | rfl | rfl | rfl <;> simp only [lo13, hi13, List.getD_cons_zero, List.getD_cons_succ] at h <;>
    first
    | exact (widthI_m (by omega)).symm
    | exact (widthI_0 (by omega)).symm
    | exact (widthI_2 (by omega)).symm
theorem width_none {r : Int} (hr : letterB r = true) (h : ∀ j < 13, withinB r (lo13 j) (hi13 j) = false) : (1 : Int) = widthI r := by
  have g : ∀ j < 13, ¬ (lo13 j ≤ r ∧ r ≤ hi13 j) := fun j hj => of_decide_eq_false (h j hj)
  have g0 := g 0 (by omega); have g1 := g 1 (by omega); have g2 := g 2 (by omega); have g3 := g 3 (by omega); have g4 := g 4 (by omega); have g5 := g 5 (by omega); have g6 := g 6 (by omega)
  have g7 := g 7 (by omega); have g8 := g 8 (by omega); have g9 := g 9 (by omega); have g10 := g 10 (by omega); have g11 := g 11 (by omega); have g12 := g 12 (by omega)
  simp only [lo13, hi13, List.getD_cons_zero, List.getD_cons_succ] at g0 g1 g2 g3 g4 g5 g6 g7 g8 g9 g10 g11 g12
  have hl := letter_iff.1 hr
  exact (widthI_1 hl (by omega) (by omega) (by omega) (by omega)).symm

theorem ix13 (k : Nat) (hk : k < 13) (w : World) : (Instr.index 138 (.agg #[.int .i32 0, .int .i32 31, .int .i32 (-1), .int .i32 127, .int .i32 159, .int .i32 (-1), .int .i32 768, .int .i32 879, .int .i32 0, .int .i32 8203, .int .i32 8205, .int .i32 0, .int .i32 65024, .int .i32 65039, .int .i32 0, .int .i32 4352, .int .i32 4447, .int .i32 2, .int .i32 12353, .int .i32 19903, .int .i32 2, .int .i32 19968, .int .i32 40959, .int .i32 2, .int .i32 44032, .int .i32 55203, .int .i32 2, .int .i32 63744, .int .i32 64255, .int .i32 2, .int .i32 65281, .int .i32 65376, .int .i32 2, .int .i32 127744, .int .i32 129791, .int .i32 2, .int .i32 131072, .int .i32 262141, .int .i32 2]) (.int .i64 (k : Int))).run Tryd.prog w = .ok (.agg #[.int .i32 (lo13 k), .int .i32 (hi13 k), .int .i32 (v13 k)]) w := by
  rcases under13 hk with rfl | rfl | rfl | rfl | rfl | rfl | rfl | rfl | rfl | rfl | rfl | rfl | rfl <;> (show _ = _; kernel_rfl)

set_option maxRecDepth 100000 in
set_option maxHeartbeats 800000 in
theorem width_any (r : Int) (w : World) (hT : Tab w) (hW : TabW w) :
    Calls Tryd.prog 91 #[.int .i32 r] w fun e w' => e = .returned (.int .i64 (widthI r)) ∧ Below w.heap.size w w' := by
  have hl := letter_any r w hT
  cases hr : letterB r
  · rw [hr] at hl
    have HM := hid (widthI_m (r := r) (Or.inl (of_decide_eq_false hr)))
    clear hr
    go_enter Tryd.func91, Tryd.ntmps91
    go_wp2_with (go_at_call 95; refine hl.mono ?_; rintro e w' ⟨rfl, hb⟩)
    go_ret
    exact ⟨ret_int HM.out.symm, hb⟩
  · rw [hr] at hl
    have hWb := fun w' (hb : Below w.heap.size w w') => hW.below hb
    have HR := hid hr
    clear hr hW
    go_enter Tryd.func91, Tryd.ntmps91
    go_upto_region 3 with (go_at_call 95; refine hl.mono ?_; rintro e w' ⟨rfl, hb⟩)
    obtain ⟨tt, hg⟩ := hWb _ hb
    clear hWb hl
    go_wp2_with (refine wpList_load_row rfl 138 _ rfl 3 rfl tt _ (0, 0) _ hg Tryd.underlying138 rfl (by kernel_rfl) ?_)
    clear hg
    go_loopw [9] (fun i wr => ∃ k : Nat, k ≤ 13 ∧ i = .int .i64 k ∧ (∀ j < k, withinB r (lo13 j) (hi13 j) = false) ∧ Below w.heap.size w wr) (fun i _ => 13 - (intOf i).toNat)
    case atStart => exact ⟨0, by omega, rfl, fun j h => absurd h (by omega), hb⟩
    case round =>
      obtain ⟨k, hk, rfl, hno, hbr⟩ := hrel
      have hsz := hbr.size
      have HN := hid hno
      clear hno hb
      by_cases hlt : k < 13
      · have hix := ix13 k hlt
        obtain ⟨hv1, hv2⟩ := v13_bd hlt
        by_cases hw : withinB r (lo13 k) (hi13 k) = true
        · have HV := hid (width_hit hlt hw)
          go_wp2_with (go_at_call 96; refine (within_any _ _ _ _ _).mono ?_; rintro e w' ⟨rfl, hb1⟩; have hc : w'.cell? ⟨wr.heap.size, 2, none⟩ = some (.int .i32 (v13 k)) := (hb1.cell (p := ⟨wr.heap.size, 2, none⟩) (by simp)).trans (by simp [World.cell?_alloc_new]))
          go_ret
          exact ⟨ret_int HV.out, (hbr.alloc hsz _).trans (hb1.mono (by simp; omega))⟩
        · have hw : withinB r (lo13 k) (hi13 k) = false := by simpa using hw
          go_wp2_with (go_at_call 96; refine (within_any _ _ _ _ _).mono ?_; rintro e w' ⟨rfl, hb1⟩)
          go_roundw
          case rel => exact ⟨k + 1, by omega, by go_num, step5 HN.out hw, (hbr.alloc hsz _).trans (hb1.mono (by simp; omega))⟩
          case measure => simp [intOf]; omega
      · have HV := hid (width_none HR.out (fun j hj => HN.out j (by omega)))
        go_wp2
        go_ret
        exact ⟨ret_int HV.out, hbr⟩
end Go.Proofs.YteebbmmgbjpihaaDoor

namespace Go.Proofs.YteebbmmgbjpihaaDoor
open Go.RowKit

/-- Marks alone, as many as may be, behind m of them. -/
def marksF : Nat → ByteArray → Nat → Option Nat
  | 0, s, m => if s.size = 0 then some m else none
  | f + 1, s, m => if s.size = 0 then some m else if (firstG s).e = 0 ∧ widthI (firstG s).r = 0 then marksF f (s.extract (firstG s).n.toNat s.size) (m + 1) else none
def partsG (s : ByteArray) : Int × Nat :=
  if (firstG s).e = 0 ∧ 1 ≤ widthI (firstG s).r then
    match marksF 2 (s.extract (firstG s).n.toNat s.size) 0 with
    | some k => (widthI (firstG s).r, k)
    | none => (0, 0)
  else (0, 0)
def rightB (c : Ce) : Bool := lookB c.at && (if c.tx.size = 0 then decide (c.wd = 0 ∨ c.wd = 1) else decide (0 < (partsG c.tx).1 ∧ (partsG c.tx).1 = c.wd))

theorem width_letter {r : Int} (h : 0 ≤ widthI r) : letterB r = true := by
  cases hl : letterB r
  · have := widthI_m (r := r) (Or.inl (of_decide_eq_false hl))
    omega
  · rfl
theorem marks_front {f m : Nat} {r : Int} {s : ByteArray} (h : widthI r = 0) : marksF (f + 1) (Utf8.encode r ++ s) m = marksF f s (m + 1) := by
  have hr := width_letter (r := r) (by omega)
  have hz := enc_pos hr
  rw [marksF, if_neg (by rw [size_append']; omega), first_front hr]
  simp only
  rw [if_pos ⟨trivial, h⟩, Int.toNat_natCast, rest_front hr]
theorem parts_front {r : Int} (s : ByteArray) (h : 1 ≤ widthI r) : partsG (Utf8.encode r ++ s) = match marksF 2 s 0 with | some k => (widthI r, k) | none => (0, 0) := by
  have hr := width_letter (r := r) (by omega)
  unfold partsG
  rw [first_front hr]
  simp only
  rw [if_pos ⟨trivial, h⟩, Int.toNat_natCast, rest_front hr]
theorem parts_0 {r : Int} (h : 1 ≤ widthI r) : partsG (Utf8.encode r) = (widthI r, 0) := by
  have := parts_front ⟨#[]⟩ h
  rw [app_nil] at this
  rw [this]; rfl
theorem parts_1 {r a : Int} (h : 1 ≤ widthI r) (ha : widthI a = 0) : partsG (Utf8.encode r ++ Utf8.encode a) = (widthI r, 1) := by
  rw [parts_front _ h]
  have := marks_front (f := 1) (m := 0) (s := ⟨#[]⟩) ha
  rw [app_nil] at this
  rw [this]; rfl
theorem parts_2 {r a b : Int} (h : 1 ≤ widthI r) (ha : widthI a = 0) (hb : widthI b = 0) : partsG (Utf8.encode r ++ Utf8.encode a ++ Utf8.encode b) = (widthI r, 2) := by
  rw [ByteArray.append_assoc, parts_front _ h, marks_front ha]
  have := marks_front (f := 0) (m := 1) (s := ⟨#[]⟩) hb
  rw [app_nil] at this
  rw [this]; rfl
end Go.Proofs.YteebbmmgbjpihaaDoor

namespace Go.Proofs.YteebbmmgbjpihaaDoor
open Go.RowKit

/-- A blank cell of a look. -/
def blkC (a : At) : Ce := ⟨⟨#[]⟩, 1, 0, a.bg, 0⟩
/-- A right half of a look. -/
def rhC (a : At) : Ce := ⟨⟨#[]⟩, 0, a.fg, a.bg, a.fl⟩
/-- Lacks a cell its other half: how wide the one ahead is, the cell, those behind. -/
def hf (p : Int) (c : Ce) (r : List Ce) : Bool :=
  if c.wd = 2 then (match r with | [] => true | d :: _ => decide (d.wd ≠ 0)) else if c.wd = 0 then decide (p ≠ 2) else false
def mendL (p : Int) : List Ce → List Ce
  | [] => []
  | c :: r => if hf p c r = true then blkC c.at :: mendL 1 r else c :: mendL c.wd r
def wholeL (p : Int) : List Ce → Bool
  | [] => true
  | c :: r => !hf p c r && wholeL c.wd r
def rightsL (l : List Ce) : Bool := l.all rightB
def fitsB (cols : Int) (l : List Ce) : Bool := decide ((l.length : Int) = cols) && (rightsL l && wholeL 1 l)
def lastW : List Ce → Int
  | [] => 1
  | [c] => c.wd
  | _ :: r => lastW r
theorem lastW_snoc (c : Ce) : ∀ l, lastW (l ++ [c]) = c.wd
  | [] => rfl
  | [_] => rfl
  | _ :: b :: r => by
    have := lastW_snoc c (b :: r)
    show lastW (_ :: (b :: r ++ [c])) = _
    rw [List.cons_append] at this ⊢
    exact this
theorem lastW_last : ∀ (l : List Ce) (h : l ≠ []), lastW l = (l[l.length - 1]'(by have := List.length_pos_iff.2 h; omega)).wd
  | [c], _ => rfl
  | a :: b :: r, h => by
    have := lastW_last (b :: r) (by simp)
    show lastW (b :: r) = _
    rw [this]
    rfl
theorem mendL_length : ∀ (l : List Ce) (p : Int), (mendL p l).length = l.length
  | [], _ => rfl
  | c :: r, p => by
    unfold mendL
    split
    · rw [List.length_cons, mendL_length r, List.length_cons]
    · rw [List.length_cons, mendL_length r, List.length_cons]
theorem hf_blk (p : Int) (a : At) (r : List Ce) : hf p (blkC a) r = false := by
  unfold hf blkC
  simp
theorem hf_mend {p : Int} {c : Ce} {r : List Ce} (h : hf p c r = false) : hf p c (mendL c.wd r) = false := by
  unfold hf at *
  by_cases h2 : c.wd = 2
  · rw [if_pos h2] at *
    cases r with
    | nil => exact h
    | cons d q =>
      have hd : d.wd = 0 := by simpa using h
      rw [h2]
      unfold mendL
      have : hf 2 d q = false := by unfold hf; rw [if_neg (by omega), if_pos hd]; simp
      rw [this]
      simp [hd]
  · rw [if_neg h2] at *
    exact h
theorem whole_mend : ∀ (l : List Ce) (p : Int), wholeL p (mendL p l) = true
  | [], _ => rfl
  | c :: r, p => by
    unfold mendL
    cases h : hf p c r
    · rw [if_neg (by simp)]
      unfold wholeL
      rw [hf_mend h, whole_mend r]; rfl
    · rw [if_pos rfl]
      unfold wholeL
      rw [hf_blk, show (blkC c.at).wd = 1 from rfl, whole_mend r]; rfl
theorem mend_whole : ∀ (l : List Ce) (p : Int), wholeL p l = true → mendL p l = l
  | [], _, _ => rfl
  | c :: r, p, h => by
    unfold wholeL at h
    rw [Bool.and_eq_true] at h
    unfold mendL
    rw [if_neg (by simpa using h.1), mend_whole r _ h.2]
theorem mend_mend (l : List Ce) (p : Int) : mendL p (mendL p l) = mendL p l := mend_whole _ _ (whole_mend l p)
theorem right_blk {a : At} (h : lookB a = true) : rightB (blkC a) = true := by
  rw [look_iff] at h
  have : lookB (Ce.at ⟨⟨#[]⟩, 1, 0, a.bg, 0⟩) = true := by rw [look_iff]; simp only [Ce.at]; omega
  unfold rightB blkC
  rw [this]
  rfl
theorem right_rh {a : At} (h : lookB a = true) : rightB (rhC a) = true := by
  have : lookB (Ce.at ⟨⟨#[]⟩, 0, a.fg, a.bg, a.fl⟩) = true := h
  unfold rightB rhC
  rw [this]
  rfl
theorem right_look {c : Ce} (h : rightB c = true) : lookB c.at = true := by
  unfold rightB at h
  rw [Bool.and_eq_true] at h
  exact h.1
theorem rights_cons {c : Ce} {l : List Ce} : rightsL (c :: l) = (rightB c && rightsL l) := rfl
theorem rights_append (a b : List Ce) : rightsL (a ++ b) = (rightsL a && rightsL b) := List.all_append
theorem rights_iff {l : List Ce} : rightsL l = true ↔ ∀ c ∈ l, rightB c = true := List.all_eq_true
theorem rights_mend : ∀ (l : List Ce) (p : Int), rightsL l = true → rightsL (mendL p l) = true
  | [], _, _ => rfl
  | c :: r, p, h => by
    rw [rights_cons, Bool.and_eq_true] at h
    unfold mendL
    split
    · rw [rights_cons, right_blk (right_look h.1), rights_mend r _ h.2]; rfl
    · rw [rights_cons, h.1, rights_mend r _ h.2]; rfl
theorem fits_iff {cols : Int} {l : List Ce} : fitsB cols l = true ↔ (l.length : Int) = cols ∧ rightsL l = true ∧ wholeL 1 l = true := by
  unfold fitsB
  rw [Bool.and_eq_true, Bool.and_eq_true, decide_eq_true_iff]
theorem fits_mend {l : List Ce} (h : rightsL l = true) : fitsB l.length (mendL 1 l) = true :=
  fits_iff.2 ⟨by rw [mendL_length], rights_mend l 1 h, whole_mend l 1⟩
theorem mend_fits {cols : Int} {l : List Ce} (h : fitsB cols l = true) : mendL 1 l = l := mend_whole l 1 (fits_iff.1 h).2.2

/-- Lacks the cell of a place its other half? -/
def halfB (l : List Ce) (i : Nat) : Bool :=
  match l[i]? with
  | none => false
  | some c => if c.wd = 2 then (match l[i + 1]? with | none => true | some d => decide (d.wd ≠ 0)) else if c.wd = 0 then (if i = 0 then true else match l[i - 1]? with | none => false | some d => decide (d.wd ≠ 2)) else false
theorem half_at (done : List Ce) (c : Ce) (r : List Ce) : halfB (done ++ c :: r) done.length = hf (lastW done) c r := by
  have h0 : (done ++ c :: r)[done.length]? = some c := by simp
  have h1 : (done ++ c :: r)[done.length + 1]? = r[0]? := by rw [List.getElem?_append_right (by omega)]; simp
  unfold halfB hf
  rw [h0, h1]
  simp only
  by_cases h2 : c.wd = 2
  · rw [if_pos h2, if_pos h2]
    cases r <;> rfl
  · rw [if_neg h2, if_neg h2]
    by_cases h3 : c.wd = 0
    · rw [if_pos h3, if_pos h3]
      by_cases hd : done = []
      · subst hd; simp [lastW]
      · have hp := List.length_pos_iff.2 hd
        rw [if_neg (by omega), List.getElem?_append_left (by omega), List.getElem?_eq_getElem (by omega), lastW_last done hd]
    · rw [if_neg h3, if_neg h3]
/-- One round of mending. -/
theorem mend_step (done : List Ce) (c : Ce) (r : List Ce) : done ++ mendL (lastW done) (c :: r) = (done ++ [if hf (lastW done) c r = true then blkC c.at else c]) ++ mendL (lastW (done ++ [if hf (lastW done) c r = true then blkC c.at else c])) r := by
  rw [lastW_snoc, mendL]
  split <;> simp [blkC]
/-- One round of a test. -/
theorem whole_step (done : List Ce) (c : Ce) (r : List Ce) : wholeL (lastW done) (c :: r) = (!hf (lastW done) c r && wholeL (lastW (done ++ [c])) r) := by
  rw [lastW_snoc, wholeL]

structure Ln where
  cs : List Ce
  soft : Bool
structure Gd where
  cols : Int
  ls : List Ln
def rightG (g : Gd) : Bool := decide (1 ≤ g.cols ∧ g.cols ≤ 80) && (decide (1 ≤ g.ls.length ∧ g.ls.length ≤ 50) && g.ls.all fun l => fitsB g.cols l.cs)
theorem rightG_iff {g : Gd} : rightG g = true ↔ (1 ≤ g.cols ∧ g.cols ≤ 80) ∧ (1 ≤ g.ls.length ∧ g.ls.length ≤ 50) ∧ ∀ l ∈ g.ls, fitsB g.cols l.cs = true := by
  unfold rightG
  rw [Bool.and_eq_true, Bool.and_eq_true, decide_eq_true_iff, decide_eq_true_iff, List.all_eq_true]
/-- A line, mended. -/
def mendN (l : Ln) : Ln := ⟨mendL 1 l.cs, l.soft⟩
end Go.Proofs.YteebbmmgbjpihaaDoor

namespace Go.Proofs.YteebbmmgbjpihaaDoor
open Go.RowKit

set_option maxHeartbeats 400000 in
theorem refIn_any (r a b : Int) (w : World) :
    Calls Tryd.prog 60 #[.int .i32 r, .int .i32 a, .int .i32 b] w fun e w' => e = .returned (.bool (withinB r a b)) ∧ w = w' := by
  by_cases h1 : a ≤ r
  · by_cases h2 : r ≤ b
    all_goals
      go_enter Tryd.func60, Tryd.ntmps60
      go_wp2
      go_ret
      exact ⟨ret_bool (by simp [withinB]; omega), rfl⟩
  · go_enter Tryd.func60, Tryd.ntmps60
    go_wp2
    go_ret
    exact ⟨ret_bool (by simp [withinB]; omega), rfl⟩

theorem withinB_t {r a b : Int} (h : a ≤ r ∧ r ≤ b) : withinB r a b = true := decide_eq_true h
theorem withinB_f {r a b : Int} (h : ¬ (a ≤ r ∧ r ≤ b)) : withinB r a b = false := decide_eq_false h

set_option maxHeartbeats 400000 in
theorem refIs_any (r : Int) (w : World) :
    Calls Tryd.prog 59 #[.int .i32 r] w fun e w' => e = .returned (.bool (letterB r)) ∧ w = w' := by
  have hc : r < 0 ∨ 1114111 < r ∨ (0 ≤ r ∧ r < 55296) ∨ (57343 < r ∧ r ≤ 1114111) ∨ (55296 ≤ r ∧ r ≤ 57343) := by omega
  rcases hc with h | h | ⟨h, h'⟩ | ⟨h, h'⟩ | ⟨h, h'⟩
  all_goals
    go_enter Tryd.func59, Tryd.ntmps59
    go_wp2
    go_ret
    exact ⟨ret_bool (by unfold letterB; first | exact (decide_eq_true (by omega)).symm | exact (decide_eq_false (by omega)).symm | (rw [Bool.eq_iff_iff]; simp; omega)), rfl⟩

set_option maxHeartbeats 1600000 in
theorem refWidth_any (r : Int) (w : World) :
    Calls Tryd.prog 48 #[.int .i32 r] w fun e w' => e = .returned (.int .i64 (widthI r)) ∧ w = w' := by
  have hIs := refIs_any r
  have hIn := refIn_any r
  cases hl : letterB r
  · have HM := hid (widthI_m (r := r) (Or.inl (of_decide_eq_false hl)))
    rw [hl] at hIs
    clear hl
    go_enter Tryd.func48, Tryd.ntmps48
    go_wp2_with (go_at_call 59; refine (hIs _).mono ?_; rintro e w' ⟨rfl, rfl⟩)
    go_ret
    exact ⟨ret_int HM.out.symm, rfl⟩
  · have hlr := letter_iff.1 hl
    rw [hl] at hIs
    clear hl
    have HLR := hid hlr
    have e0 := hIn 127 159
    have e1 := hIn 768 879
    have e2 := hIn 8203 8205
    have e3 := hIn 65024 65039
    have e4 := hIn 4352 4447
    have e5 := hIn 12353 19903
    have e6 := hIn 19968 40959
    have e7 := hIn 44032 55203
    have e8 := hIn 63744 64255
    have e9 := hIn 65281 65376
    have e10 := hIn 127744 129791
    have e11 := hIn 131072 262141
    clear hlr
    by_cases c0 : 127 ≤ r ∧ r ≤ 159
    · rw [withinB_t c0] at e0
      have HM := hid (widthI_m (r := r) (Or.inr (Or.inr c0)))
      have h32 : ¬ r < 32 := by omega
      clear e1 e2 e3 e4 e5 e6 e7 e8 e9 e10 e11 hIn c0
      go_enter Tryd.func48, Tryd.ntmps48
      go_wp2_with (first | (go_at_call 59; refine (hIs _).mono ?_; rintro e w' ⟨rfl, rfl⟩) | (go_at_call 60; refine (e0 _).mono ?_; rintro e w' ⟨rfl, rfl⟩))
      go_ret
      exact ⟨ret_int HM.out.symm, rfl⟩
    · rw [withinB_f c0] at e0
      by_cases h32 : r < 32
      · have HM := hid (widthI_m (r := r) (Or.inr (Or.inl h32)))
        clear e1 e2 e3 e4 e5 e6 e7 e8 e9 e10 e11 hIn c0
        go_enter Tryd.func48, Tryd.ntmps48
        go_wp2_with (go_at_call 59; refine (hIs _).mono ?_; rintro e w' ⟨rfl, rfl⟩)
        go_ret
        exact ⟨ret_int HM.out.symm, rfl⟩
      · clear hIn
        have hcs : (768 ≤ r ∧ r ≤ 879) ∨ (8203 ≤ r ∧ r ≤ 8205) ∨ (65024 ≤ r ∧ r ≤ 65039) ∨ (4352 ≤ r ∧ r ≤ 4447) ∨ (12353 ≤ r ∧ r ≤ 19903) ∨ (19968 ≤ r ∧ r ≤ 40959) ∨ (44032 ≤ r ∧ r ≤ 55203) ∨ (63744 ≤ r ∧ r ≤ 64255) ∨ (65281 ≤ r ∧ r ≤ 65376) ∨ (127744 ≤ r ∧ r ≤ 129791) ∨ (131072 ≤ r ∧ r ≤ 262141) ∨ ((r < 768 ∨ 879 < r) ∧ (r < 8203 ∨ 8205 < r) ∧ (r < 65024 ∨ 65039 < r) ∧ (r < 4352 ∨ 4447 < r) ∧ (r < 12353 ∨ 19903 < r) ∧ (r < 19968 ∨ 40959 < r) ∧ (r < 44032 ∨ 55203 < r) ∧ (r < 63744 ∨ 64255 < r) ∧ (r < 65281 ∨ 65376 < r) ∧ (r < 127744 ∨ 129791 < r) ∧ (r < 131072 ∨ 262141 < r)) := by omega
        rcases hcs with h | h | h | h | h | h | h | h | h | h | h | h
        all_goals
          (first | rw [withinB_t (by omega)] at e1 | rw [withinB_f (by omega)] at e1)
          (first | rw [withinB_t (by omega)] at e2 | rw [withinB_f (by omega)] at e2)
          (first | rw [withinB_t (by omega)] at e3 | rw [withinB_f (by omega)] at e3)
          (first | rw [withinB_t (by omega)] at e4 | rw [withinB_f (by omega)] at e4)
          (first | rw [withinB_t (by omega)] at e5 | rw [withinB_f (by omega)] at e5)
          (first | rw [withinB_t (by omega)] at e6 | rw [withinB_f (by omega)] at e6)
          (first | rw [withinB_t (by omega)] at e7 | rw [withinB_f (by omega)] at e7)
          (first | rw [withinB_t (by omega)] at e8 | rw [withinB_f (by omega)] at e8)
          (first | rw [withinB_t (by omega)] at e9 | rw [withinB_f (by omega)] at e9)
          (first | rw [withinB_t (by omega)] at e10 | rw [withinB_f (by omega)] at e10)
          (first | rw [withinB_t (by omega)] at e11 | rw [withinB_f (by omega)] at e11)
          have HH := hid h
          have H0 := hid c0
          clear h c0
          go_enter Tryd.func48, Tryd.ntmps48
          go_wp2_with (first | (go_at_call 59; refine (hIs _).mono ?_; rintro e w' ⟨rfl, rfl⟩) | (go_at_call_of 60 (Value.int .i32 127); refine (e0 _).mono ?_; rintro e w' ⟨rfl, rfl⟩) | (go_at_call_of 60 (Value.int .i32 768); refine (e1 _).mono ?_; rintro e w' ⟨rfl, rfl⟩) | (go_at_call_of 60 (Value.int .i32 8203); refine (e2 _).mono ?_; rintro e w' ⟨rfl, rfl⟩) | (go_at_call_of 60 (Value.int .i32 65024); refine (e3 _).mono ?_; rintro e w' ⟨rfl, rfl⟩) | (go_at_call_of 60 (Value.int .i32 4352); refine (e4 _).mono ?_; rintro e w' ⟨rfl, rfl⟩) | (go_at_call_of 60 (Value.int .i32 12353); refine (e5 _).mono ?_; rintro e w' ⟨rfl, rfl⟩) | (go_at_call_of 60 (Value.int .i32 19968); refine (e6 _).mono ?_; rintro e w' ⟨rfl, rfl⟩) | (go_at_call_of 60 (Value.int .i32 44032); refine (e7 _).mono ?_; rintro e w' ⟨rfl, rfl⟩) | (go_at_call_of 60 (Value.int .i32 63744); refine (e8 _).mono ?_; rintro e w' ⟨rfl, rfl⟩) | (go_at_call_of 60 (Value.int .i32 65281); refine (e9 _).mono ?_; rintro e w' ⟨rfl, rfl⟩) | (go_at_call_of 60 (Value.int .i32 127744); refine (e10 _).mono ?_; rintro e w' ⟨rfl, rfl⟩) | (go_at_call_of 60 (Value.int .i32 131072); refine (e11 _).mono ?_; rintro e w' ⟨rfl, rfl⟩))
          go_ret
          have h1 := HH.out
          have h2 := H0.out
          have h3 := HLR.out
          first
          | exact ⟨ret_int (widthI_0 (by omega)).symm, rfl⟩
          | exact ⟨ret_int (widthI_2 (by omega)).symm, rfl⟩
          | exact ⟨ret_int (widthI_1 (by omega) (by omega) (by omega) (by omega) (by omega)).symm, rfl⟩
end Go.Proofs.YteebbmmgbjpihaaDoor
