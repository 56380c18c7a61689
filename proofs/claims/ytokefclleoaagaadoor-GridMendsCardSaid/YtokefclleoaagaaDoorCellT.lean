/- Layer 4, plain: cells; how wide a text's letter is, and how many marks are behind it. -/
import Derived.Test.YtokefclleoaagaaDoorCellD
import Derived.Test.YtokefclleoaagaaDoorUtfG
import Derived.Test.YtokefclleoaagaaDoorUtfF
namespace Go.Proofs.YtokefclleoaagaaDoor
open Go.RowKit

/-- Marks alone, as many as may be, behind m of them. -/
def marksF : Nat → ByteArray → Nat → Option Nat
  | 0, s, m => if s.size = 0 then some m else none
  | f + 1, s, m => if s.size = 0 then some m else if (firstG s).e = 0 ∧ widthI (firstG s).r = 0 then marksF f (s.extract (firstG s).n.toNat s.size) (m + 1) else none
def partsG (s : ByteArray) : Int × Nat :=
  if (firstG s).e = 0 ∧ 1 ≤ widthI (firstG s).r then
    match marksF 2 (s.extract (firstG s).n.toNat s.size) 0 with
    | some k => (widthI (firstG s).r, k)
    | none => (0, 0)
  else (0, 0)
def rightB (c : Ce) : Bool := lookB c.at && (if c.tx.size = 0 then decide (c.wd = 0 ∨ c.wd = 1) else decide (0 < (partsG c.tx).1 ∧ (partsG c.tx).1 = c.wd))

theorem width_letter {r : Int} (h : 0 ≤ widthI r) : letterB r = true := by
  cases hl : letterB r
  · have := widthI_m (r := r) (Or.inl (of_decide_eq_false hl))
    omega
  · rfl
theorem marks_front {f m : Nat} {r : Int} {s : ByteArray} (h : widthI r = 0) : marksF (f + 1) (Utf8.encode r ++ s) m = marksF f s (m + 1) := by
  have hr := width_letter (r := r) (by omega)
  have hz := enc_pos hr
  rw [marksF, if_neg (by rw [size_append']; omega), first_front hr]
  simp only
  rw [if_pos ⟨trivial, h⟩, Int.toNat_natCast, rest_front hr]
theorem parts_front {r : Int} (s : ByteArray) (h : 1 ≤ widthI r) : partsG (Utf8.encode r ++ s) = match marksF 2 s 0 with | some k => (widthI r, k) | none => (0, 0) := by
  have hr := width_letter (r := r) (by omega)
  unfold partsG
  rw [first_front hr]
  simp only
  rw [if_pos ⟨trivial, h⟩, Int.toNat_natCast, rest_front hr]
theorem parts_0 {r : Int} (h : 1 ≤ widthI r) : partsG (Utf8.encode r) = (widthI r, 0) := by
  have := parts_front ⟨#[]⟩ h
  rw [app_nil] at this
  rw [this]; rfl
theorem parts_1 {r a : Int} (h : 1 ≤ widthI r) (ha : widthI a = 0) : partsG (Utf8.encode r ++ Utf8.encode a) = (widthI r, 1) := by
  rw [parts_front _ h]
  have := marks_front (f := 1) (m := 0) (s := ⟨#[]⟩) ha
  rw [app_nil] at this
  rw [this]; rfl
theorem parts_2 {r a b : Int} (h : 1 ≤ widthI r) (ha : widthI a = 0) (hb : widthI b = 0) : partsG (Utf8.encode r ++ Utf8.encode a ++ Utf8.encode b) = (widthI r, 2) := by
  rw [ByteArray.append_assoc, parts_front _ h, marks_front ha]
  have := marks_front (f := 0) (m := 1) (s := ⟨#[]⟩) hb
  rw [app_nil] at this
  rw [this]; rfl
end Go.Proofs.YtokefclleoaagaaDoor
