/- The law GridMends, walked. -/
import Derived.Test.YteebbmmgbjpihaaDoorGridEraseQ
import Derived.Test.YteebbmmgbjpihaaDoorCellZQ
import Derived.Deep.DeepCutAuto
import Derived.Deep.RegionWith
namespace Go.Proofs.YteebbmmgbjpihaaDoor
open Go.RowKit

theorem rights_step {l : List Ce} {k : Nat} {c : Ce} (h : rightsL (l.take k) = true) (hc : l[k]? = some c) (hr : rightB c = true) : rightsL (l.take (k + 1)) = true := by
  obtain ⟨hk, rfl⟩ := List.getElem?_eq_some_iff.1 hc
  rw [List.take_succ_eq_append_getElem hk, rights_append, h, rights_cons, hr]
  rfl

theorem mend_sizes {l : List Ce} {m : Nat} (h : ∀ c ∈ l, c.tx.size ≤ m) : ∀ p, ∀ c ∈ mendL p l, c.tx.size ≤ m := by
  induction l with
  | nil => intro p c hc; simp [mendL] at hc
  | cons x r ih =>
    intro p c hc
    unfold mendL at hc
    have ih' := ih (fun c hc => h c (by simp [hc]))
    split at hc
    · rw [List.mem_cons] at hc
      rcases hc with rfl | hc
      · exact Nat.zero_le _
      · exact ih' _ c hc
    · rw [List.mem_cons] at hc
      rcases hc with rfl | hc
      · exact h _ (by simp)
      · exact ih' _ c hc

end Go.Proofs.YteebbmmgbjpihaaDoor
