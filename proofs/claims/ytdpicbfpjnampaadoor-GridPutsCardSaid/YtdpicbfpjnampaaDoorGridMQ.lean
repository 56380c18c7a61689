/- Layer 4, plain: cells; how wide a text's letter is, and how many marks are behind it. -/
/- Layer 6, plain: cells that are half of a letter, lines that are mended, grids. -/
import Derived.Test.YtdpicbfpjnampaaDoorCellIQ
import Derived.Test.YtdpicbfpjnampaaDoorUtfGQ
import Derived.Test.YtdpicbfpjnampaaDoorUtfFQ
namespace Go.Proofs.YtdpicbfpjnampaaDoor
open Go.RowKit

/-- Marks alone, as many as may be, behind m of them. -/
def marksF : Nat → ByteArray → Nat → Option Nat
  | 0, s, m => if s.size = 0 then some m else none
  | f + 1, s, m => if s.size = 0 then some m else if (firstG s).e = 0 ∧ widthI (firstG s).r = 0 then marksF f (s.extract (firstG s).n.toNat s.size) (m + 1) else none
def partsG (s : ByteArray) : Int × Nat :=
  if (firstG s).e = 0 ∧ 1 ≤ widthI (firstG s).r then
    match marksF 2 (s.extract (firstG s).n.toNat s.size) 0 with
    | some k => (widthI (firstG s).r, k)
    | none => (0, 0)
  else (0, 0)
def rightB (c : Ce) : Bool := lookB c.at && (if c.tx.size = 0 then decide (c.wd = 0 ∨ c.wd = 1) else decide (0 < (partsG c.tx).1 ∧ (partsG c.tx).1 = c.wd))

theorem width_letter {r : Int} (h : 0 ≤ widthI r) : letterB r = true := by
  cases hl : letterB r
  · have := widthI_m (r := r) (Or.inl (of_decide_eq_false hl))
    omega
  · rfl
theorem marks_front {f m : Nat} {r : Int} {s : ByteArray} (h : widthI r = 0) : marksF (f + 1) (Utf8.encode r ++ s) m = marksF f s (m + 1) := by
  have hr := width_letter (r := r) (by omega)
  have hz := enc_pos hr
  rw [marksF, if_neg (by rw [size_append']; omega), first_front hr]
  simp only
  rw [if_pos ⟨trivial, h⟩, Int.toNat_natCast, rest_front hr]
theorem parts_front {r : Int} (s : ByteArray) (h : 1 ≤ widthI r) : partsG (Utf8.encode r ++ s) = match marksF 2 s 0 with | some k => (widthI r, k) | none => (0, 0) := by
  have hr := width_letter (r := r) (by omega)
  unfold partsG
  rw [first_front hr]
  simp only
  rw [if_pos ⟨trivial, h⟩, Int.toNat_natCast, rest_front hr]
theorem parts_0 {r : Int} (h : 1 ≤ widthI r) : partsG (Utf8.encode r) = (widthI r, 0) := by
  have := parts_front ⟨#[]⟩ h
  rw [app_nil] at this
  rw [this]; rfl
theorem parts_1 {r a : Int} (h : 1 ≤ widthI r) (ha : widthI a = 0) : partsG (Utf8.encode r ++ Utf8.encode a) = (widthI r, 1) := by
  rw [parts_front _ h]
  have := marks_front (f := 1) (m := 0) (s := ⟨#[]⟩) ha
  rw [app_nil] at this
  rw [this]; rfl
theorem parts_2 {r a b : Int} (h : 1 ≤ widthI r) (ha : widthI a = 0) (hb : widthI b = 0) : partsG (Utf8.encode r ++ Utf8.encode a ++ Utf8.encode b) = (widthI r, 2) := by
  rw [ByteArray.append_assoc, parts_front _ h, marks_front ha]
  have := marks_front (f := 0) (m := 1) (s := ⟨#[]⟩) hb
  rw [app_nil] at this
  rw [this]; rfl
end Go.Proofs.YtdpicbfpjnampaaDoor

namespace Go.Proofs.YtdpicbfpjnampaaDoor
open Go.RowKit

/-- A blank cell of a look. -/
def blkC (a : At) : Ce := ⟨⟨#[]⟩, 1, 0, a.bg, 0⟩
/-- A right half of a look. -/
def rhC (a : At) : Ce := ⟨⟨#[]⟩, 0, a.fg, a.bg, a.fl⟩
/-- Lacks a cell its other half: how wide the one ahead is, the cell, those behind. -/
def hf (p : Int) (c : Ce) (r : List Ce) : Bool :=
  if c.wd = 2 then (match r with | [] => true | d :: _ => decide (d.wd ≠ 0)) else if c.wd = 0 then decide (p ≠ 2) else false
def mendL (p : Int) : List Ce → List Ce
  | [] => []
  | c :: r => if hf p c r = true then blkC c.at :: mendL 1 r else c :: mendL c.wd r
def wholeL (p : Int) : List Ce → Bool
  | [] => true
  | c :: r => !hf p c r && wholeL c.wd r
def rightsL (l : List Ce) : Bool := l.all rightB
def fitsB (cols : Int) (l : List Ce) : Bool := decide ((l.length : Int) = cols) && (rightsL l && wholeL 1 l)
def lastW : List Ce → Int
  | [] => 1
  | [c] => c.wd
  | _ :: r => lastW r
theorem lastW_snoc (c : Ce) : ∀ l, lastW (l ++ [c]) = c.wd
  | [] => rfl
  | [_] => rfl
  | _ :: b :: r => by
    have := lastW_snoc c (b :: r)
    show lastW (_ :: (b :: r ++ [c])) = _
    rw [List.cons_append] at this ⊢
    exact this
theorem lastW_last : ∀ (l : List Ce) (h : l ≠ []), lastW l = (l[l.length - 1]'(by have := List.length_pos_iff.2 h; omega)).wd
  | [c], _ => rfl
  | a :: b :: r, h => by
    have := lastW_last (b :: r) (by simp)
    show lastW (b :: r) = _
    rw [this]
    rfl
theorem mendL_length : ∀ (l : List Ce) (p : Int), (mendL p l).length = l.length
  | [], _ => rfl
  | c :: r, p => by
    unfold mendL
    split
    · rw [List.length_cons, mendL_length r, List.length_cons]
    · rw [List.length_cons, mendL_length r, List.length_cons]
theorem hf_blk (p : Int) (a : At) (r : List Ce) : hf p (blkC a) r = false := by
  unfold hf blkC
  simp
theorem hf_mend {p : Int} {c : Ce} {r : List Ce} (h : hf p c r = false) : hf p c (mendL c.wd r) = false := by
  unfold hf at *
  by_cases h2 : c.wd = 2
  · rw [if_pos h2] at *
    cases r with
    | nil => exact h
    | cons d q =>
      have hd : d.wd = 0 := by simpa using h
      rw [h2]
      unfold mendL
      have : hf 2 d q = false := by unfold hf; rw [if_neg (by omega), if_pos hd]; simp
      rw [this]
      simp [hd]
  · rw [if_neg h2] at *
    exact h
theorem whole_mend : ∀ (l : List Ce) (p : Int), wholeL p (mendL p l) = true
  | [], _ => rfl
  | c :: r, p => by
    unfold mendL
    cases h : hf p c r
    · rw [if_neg (by simp)]
      unfold wholeL
      rw [hf_mend h, whole_mend r]; rfl
    · rw [if_pos rfl]
      unfold wholeL
      rw [hf_blk, show (blkC c.at).wd = 1 from rfl, whole_mend r]; rfl
theorem mend_whole : ∀ (l : List Ce) (p : Int), wholeL p l = true → mendL p l = l
  | [], _, _ => rfl
  | c :: r, p, h => by
    unfold wholeL at h
    rw [Bool.and_eq_true] at h
    unfold mendL
    rw [if_neg (by simpa using h.1), mend_whole r _ h.2]
theorem mend_mend (l : List Ce) (p : Int) : mendL p (mendL p l) = mendL p l := mend_whole _ _ (whole_mend l p)
theorem right_blk {a : At} (h : lookB a = true) : rightB (blkC a) = true := by
  rw [look_iff] at h
  have : lookB (Ce.at ⟨⟨#[]⟩, 1, 0, a.bg, 0⟩) = true := by rw [look_iff]; simp only [Ce.at]; omega
  unfold rightB blkC
  rw [this]
  rfl
theorem right_rh {a : At} (h : lookB a = true) : rightB (rhC a) = true := by
  have : lookB (Ce.at ⟨⟨#[]⟩, 0, a.fg, a.bg, a.fl⟩) = true := h
  unfold rightB rhC
  rw [this]
  rfl
theorem right_look {c : Ce} (h : rightB c = true) : lookB c.at = true := by
  unfold rightB at h
  rw [Bool.and_eq_true] at h
  exact h.1
theorem rights_cons {c : Ce} {l : List Ce} : rightsL (c :: l) = (rightB c && rightsL l) := rfl
theorem rights_append (a b : List Ce) : rightsL (a ++ b) = (rightsL a && rightsL b) := List.all_append
theorem rights_iff {l : List Ce} : rightsL l = true ↔ ∀ c ∈ l, rightB c = true := List.all_eq_true
theorem rights_mend : ∀ (l : List Ce) (p : Int), rightsL l = true → rightsL (mendL p l) = true
  | [], _, _ => rfl
  | c :: r, p, h => by
    rw [rights_cons, Bool.and_eq_true] at h
    unfold mendL
    split
    · rw [rights_cons, right_blk (right_look h.1), rights_mend r _ h.2]; rfl
    · rw [rights_cons, h.1, rights_mend r _ h.2]; rfl
theorem fits_iff {cols : Int} {l : List Ce} : fitsB cols l = true ↔ (l.length : Int) = cols ∧ rightsL l = true ∧ wholeL 1 l = true := by
  unfold fitsB
  rw [Bool.and_eq_true, Bool.and_eq_true, decide_eq_true_iff]
theorem fits_mend {l : List Ce} (h : rightsL l = true) : fitsB l.length (mendL 1 l) = true :=
  fits_iff.2 ⟨by rw [mendL_length], rights_mend l 1 h, whole_mend l 1⟩
theorem mend_fits {cols : Int} {l : List Ce} (h : fitsB cols l = true) : mendL 1 l = l := mend_whole l 1 (fits_iff.1 h).2.2

/-- Lacks the cell of a place its other half? -/
def halfB (l : List Ce) (i : Nat) : Bool :=
  match l[i]? with
  | none => false
  | some c => if c.wd = 2 then (match l[i + 1]? with | none => true | some d => decide (d.wd ≠ 0)) else if c.wd = 0 then (if i = 0 then true else match l[i - 1]? with | none => false | some d => decide (d.wd ≠ 2)) else false
theorem half_at (done : List Ce) (c : Ce) (r : List Ce) : halfB (done ++ c :: r) done.length = hf (lastW done) c r := by
  have h0 : (done ++ c :: r)[done.length]? = some c := by simp
  have h1 : (done ++ c :: r)[done.length + 1]? = r[0]? := by rw [List.getElem?_append_right (by omega)]; simp
  unfold halfB hf
  rw [h0, h1]
  simp only
  by_cases h2 : c.wd = 2
  · rw [if_pos h2, if_pos h2]
    cases r <;> rfl
  · rw [if_neg h2, if_neg h2]
    by_cases h3 : c.wd = 0
    · rw [if_pos h3, if_pos h3]
      by_cases hd : done = []
      · subst hd; simp [lastW]
      · have hp := List.length_pos_iff.2 hd
        rw [if_neg (by omega), List.getElem?_append_left (by omega), List.getElem?_eq_getElem (by omega), lastW_last done hd]
    · rw [if_neg h3, if_neg h3]
/-- One round of mending. -/
theorem mend_step (done : List Ce) (c : Ce) (r : List Ce) : done ++ mendL (lastW done) (c :: r) = (done ++ [if hf (lastW done) c r = true then blkC c.at else c]) ++ mendL (lastW (done ++ [if hf (lastW done) c r = true then blkC c.at else c])) r := by
  rw [lastW_snoc, mendL]
  split <;> simp [blkC]
/-- One round of a test. -/
theorem whole_step (done : List Ce) (c : Ce) (r : List Ce) : wholeL (lastW done) (c :: r) = (!hf (lastW done) c r && wholeL (lastW (done ++ [c])) r) := by
  rw [lastW_snoc, wholeL]

structure Ln where
  cs : List Ce
  soft : Bool
structure Gd where
  cols : Int
  ls : List Ln
def rightG (g : Gd) : Bool := decide (1 ≤ g.cols ∧ g.cols ≤ 80) && (decide (1 ≤ g.ls.length ∧ g.ls.length ≤ 50) && g.ls.all fun l => fitsB g.cols l.cs)
theorem rightG_iff {g : Gd} : rightG g = true ↔ (1 ≤ g.cols ∧ g.cols ≤ 80) ∧ (1 ≤ g.ls.length ∧ g.ls.length ≤ 50) ∧ ∀ l ∈ g.ls, fitsB g.cols l.cs = true := by
  unfold rightG
  rw [Bool.and_eq_true, Bool.and_eq_true, decide_eq_true_iff, decide_eq_true_iff, List.all_eq_true]
/-- A line, mended. -/
def mendN (l : Ln) : Ln := ⟨mendL 1 l.cs, l.soft⟩
end Go.Proofs.YtdpicbfpjnampaaDoor
