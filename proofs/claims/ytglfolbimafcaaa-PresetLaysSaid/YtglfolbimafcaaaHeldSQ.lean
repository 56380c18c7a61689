/- Held's walk: an operation that is not wanted is left out. -/
import Derived.Test.YtglfolbimafcaaaHeldQ
namespace Go.Proofs.Ytglfolbimafcaaa
open Go.RowKit

section
variable {P : Program} {ops : Array Oper} {Q : Exit → Act → World → Prop} {md : Region.Mode} {S : Array Bool → World → Prop}
/-- The one operation that is ready is not wanted. -/
theorem skipS {k : Nat} {o : Oper} {fuel : Nat} {listed : Array Bool} {a : Act} {w : World} (hr : Region.ready md ops listed = [k]) (ho : ops[k]? = some o) (hw : Region.wanted o (yielded ops a.tmps) = false)
    (hS : S (listed.setIfInBounds k true) w) (h : wpAnyS P md ops Q S fuel (listed.setIfInBounds k true) (a.put o.dst undef) w) :
    wpAnyS P md ops Q S (fuel + 1) listed a w := by
  refine ⟨fun h0 => (by rw [hr] at h0; cases h0), fun i hi => ?_⟩
  rw [hr] at hi
  have hik : i = k := by simpa using hi
  subst hik
  unfold wpOp
  simp only [ho, hw, Bool.false_eq_true, if_false]
  exact ⟨hS, h⟩
/-- Either of two may come up. -/
theorem eitherS {k1 k2 : Nat} {o1 o2 : Oper} {fuel : Nat} {listed : Array Bool} {a : Act} {w : World} (hr : Region.ready md ops listed = [k1, k2]) (ho1 : ops[k1]? = some o1) (ho2 : ops[k2]? = some o2) (hw1 : Region.wanted o1 (yielded ops a.tmps) = true) (hw2 : Region.wanted o2 (yielded ops a.tmps) = true)
    (h1 : ∀ K : Act → World → Prop, (∀ a' w', S (listed.setIfInBounds k1 true) w' → wpAnyS P md ops Q S fuel (listed.setIfInBounds k1 true) a' w' → K a' w') → Oper.wp P o1 a w K Q)
    (h2 : ∀ K : Act → World → Prop, (∀ a' w', S (listed.setIfInBounds k2 true) w' → wpAnyS P md ops Q S fuel (listed.setIfInBounds k2 true) a' w' → K a' w') → Oper.wp P o2 a w K Q) :
    wpAnyS P md ops Q S (fuel + 1) listed a w := by
  refine ⟨fun h0 => (by rw [hr] at h0; cases h0), fun i hi => ?_⟩
  rw [hr] at hi
  simp only [List.mem_cons, List.not_mem_nil, or_false] at hi
  rcases hi with rfl | rfl
  · unfold wpOp
    simp only [ho1, hw1, if_true]
    exact .inl (h1 _ (fun _ _ h1 h2 => ⟨h1, h2⟩))
  · unfold wpOp
    simp only [ho2, hw2, if_true]
    exact .inl (h2 _ (fun _ _ h1 h2 => ⟨h1, h2⟩))
/-- One thing is known of the world all along: an operation that reads under it, or is not wanted, is taken first. -/
theorem takeC {i : Nat} {oi : Oper} {v : Value} {fuel : Nat} {listed : Array Bool} {a : Act} {w : World} {S0 : World → Prop} (d : Tmp) (hi : ops[i]? = some oi) (hd : oi.dst = some d)
    (hs : Region.noSelect ops = true) (hf : Region.free md ops listed i = true) (hr : (Region.ready md ops listed).contains i = true) (hc : closedLB md ops listed = true)
    (hQ : ∀ c a w, Q (.panic c) (a.put (some d) v) w → Q (.panic c) a w) (hy : YieldsIf P ops S0 oi v a) (hS : S0 w)
    (h : wpAnyS P md ops Q (fun _ => S0) fuel (listed.setIfInBounds i true) (a.put (some d) v) w) : wpAnyS P md ops Q (fun _ => S0) (fuel + 1) listed a w := by
  rw [← hd] at hQ h
  exact wpAnyS_first S0 hi (Region.noSelect_spec hs) hQ (fun _ _ _ _ h => h) (fun _ _ => Iff.rfl) fuel listed a w (closedL_spec hc) (Region.free_spec hi hf) (by simpa using hr) hy hS h
end
end Go.Proofs.Ytglfolbimafcaaa
