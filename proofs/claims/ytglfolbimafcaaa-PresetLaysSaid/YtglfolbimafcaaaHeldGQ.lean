/- Held's walk: what is known until one operation comes up, which waits for what reads, directly or through others. -/
import Derived.Test.YtglfolbimafcaaaHeldSQ
namespace Go.Proofs.Ytglfolbimafcaaa
open Go.RowKit

section
variable {P : Program} {ops : Array Oper} {Q : Exit → Act → World → Prop} {md : Region.Mode}
/-- k waits for i, directly or through others. -/
def waitsG (md : Region.Mode) (ops : Array Oper) (i : Nat) : Nat → Nat → Bool
  | 0, _ => false
  | f + 1, k => match ops[k]? with
    | none => false
    | some o => o.after.any fun e => Region.binds md e && (e.on == i || waitsG md ops i f e.on)
theorem ClosedL.not_yetG {listed : Array Bool} (c : ClosedL md ops listed) {i : Nat} (h : listed.getD i true = false) : ∀ (f k : Nat), waitsG md ops i f k = true → listed.getD k false = false
  | 0, _, hw => by simp [waitsG] at hw
  | f + 1, k, hw => by
    unfold waitsG at hw
    cases hk : ops[k]? with
    | none => rw [hk] at hw; cases hw
    | some o =>
      rw [hk] at hw
      simp only at hw
      rw [Array.any_eq_true'] at hw
      obtain ⟨e, he, h2⟩ := hw
      rw [Bool.and_eq_true, Bool.or_eq_true] at h2
      cases hs : listed.getD k false
      · rfl
      · have h3 := c k o hk hs e he h2.1
        rcases h2.2 with h4 | h4
        · have h5 : e.on = i := by simpa using h4
          rw [h5, getD_both h] at h3
          cases h3
        · rw [c.not_yetG h f e.on h4] at h3
          cases h3
/-- Known until k has come up. -/
def OneS (k : Nat) (S1 : World → Prop) (listed : Array Bool) (w : World) : Prop := listed.getD k false = false → S1 w
theorem oneS_set {k i : Nat} {S1 : World → Prop} (h1 : i ≠ k) (L : Array Bool) (w : World) : OneS k S1 (L.setIfInBounds i true) w ↔ OneS k S1 L w := by
  unfold OneS
  rw [getD_set_ne false h1]
variable {k : Nat} {S1 : World → Prop}
/-- An operation that reads under what is known, and for which k waits, taken first. -/
theorem takeG {i : Nat} {oi : Oper} {v : Value} {fuel : Nat} {listed : Array Bool} {a : Act} {w : World} (d : Tmp) (hi : ops[i]? = some oi) (hd : oi.dst = some d)
    (hs : Region.noSelect ops = true) (hf : Region.free md ops listed i = true) (hr : (Region.ready md ops listed).contains i = true) (hc : closedLB md ops listed = true) (n1 : i ≠ k) (hw : waitsG md ops i ops.size k = true)
    (hQ : ∀ c a w, Q (.panic c) (a.put (some d) v) w → Q (.panic c) a w) (hy : YieldsIf P ops S1 oi v a) (hS : OneS k S1 listed w)
    (h : wpAnyS P md ops Q (OneS k S1) fuel (listed.setIfInBounds i true) (a.put (some d) v) w) : wpAnyS P md ops Q (OneS k S1) (fuel + 1) listed a w := by
  rw [← hd] at hQ h
  exact wpAnyS_first S1 hi (Region.noSelect_spec hs) hQ (fun _ _ c hn h => h (c.not_yetG hn _ _ hw)) (oneS_set n1) fuel listed a w (closedL_spec hc) (Region.free_spec hi hf) (by simpa using hr) hy hS h
/-- An operation that looks at no memory, taken first. -/
theorem takeN {i : Nat} {oi : Oper} {v : Value} {fuel : Nat} {listed : Array Bool} {a : Act} {w : World} (d : Tmp) (hi : ops[i]? = some oi) (hd : oi.dst = some d)
    (hs : Region.noSelect ops = true) (hf : Region.free md ops listed i = true) (hr : (Region.ready md ops listed).contains i = true) (hc : closedLB md ops listed = true) (n1 : i ≠ k)
    (hQ : ∀ c a w, Q (.panic c) (a.put (some d) v) w → Q (.panic c) a w) (hy : YieldsIf P ops (fun _ => True) oi v a) (hS : OneS k S1 listed w)
    (h : wpAnyS P md ops Q (OneS k S1) fuel (listed.setIfInBounds i true) (a.put (some d) v) w) : wpAnyS P md ops Q (OneS k S1) (fuel + 1) listed a w := by
  rw [← hd] at hQ h
  exact wpAnyS_first (fun _ => True) hi (Region.noSelect_spec hs) hQ (fun _ _ _ _ _ => trivial) (oneS_set n1) fuel listed a w (closedL_spec hc) (Region.free_spec hi hf) (by simpa using hr) hy hS h
end
end Go.Proofs.Ytglfolbimafcaaa
