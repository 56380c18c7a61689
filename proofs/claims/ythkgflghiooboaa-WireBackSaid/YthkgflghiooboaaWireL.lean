/- Plain facts on rows of frames that are written, and on what a decoder has taken of them. -/
import Derived.Test.YthkgflghiooboaaWireI
namespace Go.Proofs.Ythkgflghiooboaa
open Go.RowKit

/-- The frames that are sent: cut, and those alone that may be. -/
def cutF (f : Fr) : Fr := ⟨f.tag, cutS f.text⟩
def sentOf : List Fr → List Fr
  | [] => []
  | f :: l => if mayB (cutF f).tag (cutF f).text.size = true then cutF f :: sentOf l else sentOf l
theorem sentOf_cons (f : Fr) (l : List Fr) : sentOf (f :: l) = if mayB (cutF f).tag (cutF f).text.size = true then cutF f :: sentOf l else sentOf l := rfl
theorem sentOf_append : ∀ a b : List Fr, sentOf (a ++ b) = sentOf a ++ sentOf b
  | [], _ => rfl
  | f :: a, b => by
    rw [List.cons_append, sentOf_cons, sentOf_cons, sentOf_append a b]
    split <;> rfl
theorem sentOf_length : ∀ a : List Fr, (sentOf a).length ≤ a.length
  | [] => Nat.le_refl _
  | f :: a => by
    have := sentOf_length a
    unfold sentOf
    split
    · simp only [List.length_cons]; omega
    · simp only [List.length_cons]; omega
theorem sentOf_may : ∀ (a : List Fr), ∀ f ∈ sentOf a, mayB f.tag f.text.size = true
  | [], _, h => by cases h
  | g :: a, f, h => by
    unfold sentOf at h
    split at h
    · rename_i hg
      rcases List.mem_cons.1 h with rfl | h
      · exact hg
      · exact sentOf_may a f h
    · exact sentOf_may a f h
theorem sent_step {l : List Fr} {k : Nat} (h : k < l.length) : sentOf (l.take (k + 1)) = sentOf (l.take k) ++ if mayB (cutF l[k]).tag (cutF l[k]).text.size = true then [cutF l[k]] else [] := by
  rw [List.take_succ_eq_append_getElem h, sentOf_append]
  congr 1

/-- Their bytes, one behind the other. -/
def allOf : List Fr → ByteArray
  | [] => ⟨#[]⟩
  | f :: l => encS f.tag f.text ++ allOf l
theorem allOf_append : ∀ a b : List Fr, allOf (a ++ b) = allOf a ++ allOf b
  | [], b => (nil_app _).symm
  | f :: a, b => by
    rw [List.cons_append]
    show encS f.tag f.text ++ allOf (a ++ b) = (encS f.tag f.text ++ allOf a) ++ allOf b
    rw [allOf_append a b, ByteArray.append_assoc]
theorem allOf_snoc (a : List Fr) (f : Fr) : allOf (a ++ [f]) = allOf a ++ encS f.tag f.text := by
  rw [allOf_append]
  show allOf a ++ (encS f.tag f.text ++ ⟨#[]⟩) = _
  rw [app_nil]
theorem allOf_size : ∀ (a : List Fr), (∀ f ∈ a, mayB f.tag f.text.size = true) → (allOf a).size ≤ 516 * a.length
  | [], _ => Nat.le_refl _
  | f :: a, h => by
    have h1 := allOf_size a (fun g hg => h g (List.mem_cons_of_mem _ hg))
    have h2 := may_iff.1 (h f (List.mem_cons_self))
    show (encS f.tag f.text ++ allOf a).size ≤ _
    rw [size_append', enc_size, List.length_cons]
    omega
/-- They are read as they were. -/
theorem allOf_read : ∀ (a : List Fr), (∀ f ∈ a, mayB f.tag f.text.size = true) → framesG (allOf a) = a ∧ leftG (allOf a) = ⟨#[]⟩
  | [], _ => by
    have h : standsB ⟨#[]⟩ = false := known_empty
    exact ⟨(frames_none h).1, (frames_none h).2⟩
  | f :: a, h => by
    obtain ⟨h1, h2⟩ := allOf_read a (fun g hg => h g (List.mem_cons_of_mem _ hg))
    obtain ⟨h3, h4⟩ := enc_ahead f.tag f.text (allOf a) (h f (List.mem_cons_self))
    show framesG (encS f.tag f.text ++ allOf a) = _ ∧ leftG (encS f.tag f.text ++ allOf a) = _
    rw [h3, h4, h1, h2]
    exact ⟨rfl, rfl⟩

/-- What the decoder answers, of the next bytes of what is right to its end. -/
theorem feed_next {T pre c rest : ByteArray} (hT : T = (pre ++ c) ++ rest) (hl : leftG T = ⟨#[]⟩) :
    feedG (leftG pre) false c = ⟨leftG (pre ++ c), false, framesG (leftG pre ++ c), 0⟩ ∧ framesG (pre ++ c) = framesG pre ++ framesG (leftG pre ++ c) ∧ rightB (leftG (pre ++ c)) false = true ∧ (leftG (pre ++ c)).size ≤ 515 := by
  have hs : ∀ p r : ByteArray, T = p ++ r → spoiltB (leftG p) = false := by
    intro p r h
    cases hq : spoiltB (leftG p)
    · rfl
    · have := (spoilt_on r hq).2
      rw [← h, hl] at this
      have h0 : spoiltB ⟨#[]⟩ = false := by decide +kernel
      rw [h0] at this
      cases this
  have s1 := hs (pre ++ c) rest hT
  have s2 := hs pre (c ++ rest) (by rw [hT, ByteArray.append_assoc])
  obtain ⟨g1, g2⟩ := frames_cut pre c
  have r1 := right_left s1
  have r2 := right_left s2
  refine ⟨?_, g1, r1, right_short r1⟩
  unfold feedG
  rw [if_neg (by simp [r2]), if_neg (by simp), ← g2, if_neg (by simp [s1])]
end Go.Proofs.Ythkgflghiooboaa
