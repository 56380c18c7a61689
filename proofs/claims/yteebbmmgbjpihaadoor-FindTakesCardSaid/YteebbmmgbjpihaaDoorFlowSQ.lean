/- Layer 8, the package: said. -/
import Derived.Test.YteebbmmgbjpihaaDoorFlowEQ
import Derived.Test.YteebbmmgbjpihaaDoorGridRbQ
import Derived.Test.YteebbmmgbjpihaaDoorBldQ
import Derived.Test.YteebbmmgbjpihaaDoorBldSQ
namespace Go.Proofs.YteebbmmgbjpihaaDoor
open Go.RowKit Go.Shelf
attribute [local go_sem] Oper.semAt_some

def textOf {w0 : World} (pre : List (Sg w0)) : ByteArray := catB (pre.map fun x => sayT x.val.1)
theorem textOf_snoc {w0 : World} (pre : List (Sg w0)) (x : Sg w0) : textOf (pre ++ [x]) = textOf pre ++ sayT x.val.1 := by
  unfold textOf
  rw [List.map_append, List.map_singleton, catB_snoc]
theorem sayT_size {w0 : World} (x : Sg w0) : (sayT x.val.1).size ≤ 1000 := by
  have h := x.property.2.2
  unfold sayT
  split
  · exact Nat.zero_le _
  · rename_i c r e
    split
    · show 1 ≤ 1000; omega
    · exact h c (by rw [e]; simp)
theorem textOf_size {w0 : World} (pre : List (Sg w0)) : (textOf pre).size ≤ pre.length * 1000 :=
  snoc_ind (P := fun pre => (textOf pre).size ≤ pre.length * 1000) (Nat.zero_le _) (fun l c ih => by
    have := sayT_size c
    rw [textOf_snoc, ByteArray.size_append, List.length_append, List.length_singleton]
    omega) pre
theorem textOf_all {w0 : World} {ys : List (Sg w0)} {row : List Ce} (h : ys.map (·.val.1) = segs row) : textOf ys = sayP row := by
  unfold textOf sayP
  rw [← h, List.map_map]
  rfl
theorem strCells_append (a b : ByteArray) : Lib.strCells (a ++ b) = Lib.strCells a ++ Lib.strCells b := by
  unfold Lib.strCells
  rw [ByteArray.data_append, Array.toList_append, List.map_append]
theorem builder_own {β : Type} (B b : Nat) (f : β → List Value) : Own (fun (s : β) W => Lib.IsBuilder 83 5 B b (f s) W) := by
  have key : ∀ (p : Value) (bs : List Value) (X Y : World) (row : Option Nat), Lib.BuilderAt 83 5 B b p bs X → X.grownBy Y row → (∀ r, row = some r → ∃ o : Obj, X.heap[r]? = some o ∧ o.isCells = false) → Lib.BuilderAt 83 5 B b p bs Y := by
    rintro p bs X Y row ⟨hB, v, hb, hown, hne⟩ hg hr
    refine ⟨hB, v, (hg.block b (Array.getElem?_eq_some_iff.1 hb).1 fun e => ?_).trans hb, hown.kept hg ?_, hne⟩
    · obtain ⟨o, ho, hc⟩ := hr b e.symm
      rw [hb] at ho
      cases ho
      cases hc
    · rcases hown.2 with ⟨rfl, _⟩ | ⟨g, cap, cur, rfl, _, hgb, _⟩
      · exact .inl rfl
      · refine .inr fun e => ?_
        obtain ⟨o, ho, hc⟩ := hr g e.symm
        rw [hgb] at ho
        cases ho
        cases hc
  intro s X Y row hs hg hr
  rcases hs with hs | hs
  · exact .inl (key _ _ X Y row hs hg hr)
  · exact .inr (key _ _ X Y row hs hg hr)

end Go.Proofs.YteebbmmgbjpihaaDoor
