/- A region that draws its order and stores, at its end, into two places that it has read: what is known of each place is held until its store comes. -/
import Derived.Test.YtglfolbimafcaaaBaseQ
import Derived.OrdersHeld
import Derived.StillTail
namespace Go.Proofs.Ytglfolbimafcaaa
open Go.RowKit

section
variable {P : Program} {ops : Array Oper} {Q : Exit → Act → World → Prop} {md : Region.Mode} {S : Array Bool → World → Prop}

/-- Whatever order is picked from here on; behind each operation what is asked of the world, by what has come up, holds. -/
def wpAnyS (P : Program) (md : Region.Mode) (ops : Array Oper) (Q : Exit → Act → World → Prop) (S : Array Bool → World → Prop) : Nat → Array Bool → Act → World → Prop
  | 0, listed, a, w => Region.ready md ops listed = [] ∧ Q .normal a w
  | fuel + 1, listed, a, w =>
    (Region.ready md ops listed = [] → Q .normal a w) ∧
    ∀ i ∈ Region.ready md ops listed, wpOp P ops Q i (fun a' w' => S (listed.setIfInBounds i true) w' ∧ wpAnyS P md ops Q S fuel (listed.setIfInBounds i true) a' w') a w

theorem wpAny_of_S : ∀ (fuel : Nat) (listed : Array Bool) (a : Act) (w : World), wpAnyS P md ops Q S fuel listed a w → wpAny P md ops Q fuel listed a w
  | 0, _, _, _, h => h
  | fuel + 1, _, _, _, h => ⟨h.1, fun i hi => wpOp_mono (fun a' w' h' => wpAny_of_S fuel _ a' w' h'.2) (h.2 i hi)⟩

/-- What has come up has come up with all that it waits for. -/
def ClosedL (md : Region.Mode) (ops : Array Oper) (listed : Array Bool) : Prop :=
  ∀ j oj, ops[j]? = some oj → listed.getD j false = true → ∀ e ∈ oj.after, Region.binds md e = true → listed.getD e.on false = true
def closedLB (md : Region.Mode) (ops : Array Oper) (listed : Array Bool) : Bool :=
  (List.range ops.size).all fun j => match ops[j]? with
    | none => true
    | some oj => !(listed.getD j false) || oj.after.all fun e => !(Region.binds md e) || listed.getD e.on false
theorem closedL_spec {listed : Array Bool} (h : closedLB md ops listed = true) : ClosedL md ops listed := by
  intro j oj hj hl e he hb
  have hlt := (Array.getElem?_eq_some_iff.1 hj).1
  have h1 := List.all_eq_true.1 h j (List.mem_range.2 hlt)
  simp only [hj, hl, Bool.not_true, Bool.false_or] at h1
  have h2 := Array.all_eq_true'.1 h1 e he
  simpa [hb] using h2
theorem ClosedL.set {listed : Array Bool} (c : ClosedL md ops listed) {i : Nat} (hi : i ∈ Region.ready md ops listed) : ClosedL md ops (listed.setIfInBounds i true) := by
  obtain ⟨_, oi, hoi, hall⟩ := mem_ready.1 hi
  intro j oj hj hl e he hb
  by_cases hij : i = j
  · subst hij
    have : oj = oi := Option.some.inj (hj.symm.trans hoi)
    subst this
    exact getD_set_true (hall e he hb)
  · rw [getD_set_ne false hij] at hl
    exact getD_set_true (c j oj hj hl e he hb)
theorem ClosedL.not_yet {listed : Array Bool} (c : ClosedL md ops listed) {st i : Nat} (hw : Region.waitsFor md ops st i = true) (h : listed.getD i true = false) : listed.getD st false = false := by
  obtain ⟨oj, hoj, e, he, hb, hon⟩ := Region.waitsFor_spec hw
  cases hs : listed.getD st false
  · rfl
  · have := c st oj hoj hs e he hb
    rw [hon, getD_both h] at this
    cases this

theorem wpAnyS_first {i : Nat} {oi : Oper} {v : Value} (S0 : World → Prop) (hi : ops[i]? = some oi) (hsel : ∀ (j : Nat) (o : Oper) cs b, ops[j]? = some o → o.op ≠ .select cs b)
    (hQ : ∀ c a w, Q (.panic c) (a.put oi.dst v) w → Q (.panic c) a w) (hS0 : ∀ L w, ClosedL md ops L → L.getD i true = false → S L w → S0 w) (hSi : ∀ L w, S (L.setIfInBounds i true) w ↔ S L w) :
    ∀ (fuel : Nat) (listed : Array Bool) (a : Act) (w : World), ClosedL md ops listed →
      (∀ j oj, ops[j]? = some oj → j ≠ i → listed.getD j true = false → (∀ e ∈ oj.after, Region.binds md e = true → e.on ≠ i) → oi.apart ops oj = true) →
      i ∈ Region.ready md ops listed → YieldsIf P ops S0 oi v a → S listed w →
      wpAnyS P md ops Q S fuel (listed.setIfInBounds i true) (a.put oi.dst v) w → wpAnyS P md ops Q S (fuel + 1) listed a w := by
  intro fuel
  induction fuel with
  | zero =>
    intro listed a w hcl _ hr hy hS H
    refine ⟨fun h => (by rw [h] at hr; cases hr), fun j hj => ?_⟩
    by_cases hji : j = i
    · subst hji; exact hy.wpOp hi (hS0 _ _ hcl (mem_ready.1 hr).1 hS) ⟨(hSi _ _).2 hS, H⟩
    · have := ready_mono hj hji
      rw [H.1] at this
      cases this
  | succ fuel ih =>
    intro listed a w hcl hfree hr hy hS H
    refine ⟨fun h => (by rw [h] at hr; cases hr), fun j hj => ?_⟩
    by_cases hji : j = i
    · subst hji; exact hy.wpOp hi (hS0 _ _ hcl (mem_ready.1 hr).1 hS) ⟨(hSi _ _).2 hS, H⟩
    · have h1 := H.2 j (ready_mono hj hji)
      obtain ⟨hjun, oj, hoj, hall⟩ := mem_ready.1 hj
      have hnot : ∀ e ∈ oj.after, Region.binds md e = true → e.on ≠ i := fun e he hb heq => by
        have h1 := hall e he hb
        have h0 := (mem_ready.1 hr).1
        rw [heq, getD_both h0] at h1
        cases h1
      have h2 := wpOp_putIf hoj (hfree j oj hoj hji hjun hnot) (fun cs b => hsel i oi cs b hi) (fun cs b => hsel j oj cs b hoj) hQ hy h1
      have hfree' : ∀ k ok, ops[k]? = some ok → k ≠ i → (listed.setIfInBounds j true).getD k true = false →
          (∀ e ∈ ok.after, Region.binds md e = true → e.on ≠ i) → oi.apart ops ok = true := fun k ok hk hki hun hno => by
        refine hfree k ok hk hki ?_ hno
        by_cases hjk : j = k
        · subst hjk; exact hjun
        · rw [getD_set_ne true hjk] at hun; exact hun
      refine wpOp_mono (fun a' w' h3 => ?_) h2
      obtain ⟨hy', hs', hrest⟩ := h3
      rw [Array.setIfInBounds_comm _ _ (Ne.symm hji)] at hs' hrest
      have hs2 := (hSi _ _).1 hs'
      exact ⟨hs2, ih (listed.setIfInBounds j true) a' w' (hcl.set hj) hfree' (ready_mono hr (Ne.symm hji)) hy' hs2 hrest⟩

/-- Two places, each known until its store comes. -/
def TwoS (s1 s2 : Nat) (S1 S2 : World → Prop) (listed : Array Bool) (w : World) : Prop := (listed.getD s1 false = false → S1 w) ∧ (listed.getD s2 false = false → S2 w)
theorem twoS_set {s1 s2 i : Nat} {S1 S2 : World → Prop} (h1 : i ≠ s1) (h2 : i ≠ s2) (L : Array Bool) (w : World) : TwoS s1 s2 S1 S2 (L.setIfInBounds i true) w ↔ TwoS s1 s2 S1 S2 L w := by
  unfold TwoS
  rw [getD_set_ne false h1, getD_set_ne false h2]

variable {s1 s2 : Nat} {S1 S2 : World → Prop}

/-- An operation that looks at no memory, taken first. -/
theorem takeS {i : Nat} {oi : Oper} {v : Value} {fuel : Nat} {listed : Array Bool} {a : Act} {w : World} (d : Tmp) (hi : ops[i]? = some oi) (hd : oi.dst = some d)
    (hs : Region.noSelect ops = true) (hf : Region.free md ops listed i = true) (hr : (Region.ready md ops listed).contains i = true) (hc : closedLB md ops listed = true) (n1 : i ≠ s1) (n2 : i ≠ s2)
    (hQ : ∀ c a w, Q (.panic c) (a.put (some d) v) w → Q (.panic c) a w) (hy : YieldsIf P ops (fun _ => True) oi v a) (hS : TwoS s1 s2 S1 S2 listed w)
    (h : wpAnyS P md ops Q (TwoS s1 s2 S1 S2) fuel (listed.setIfInBounds i true) (a.put (some d) v) w) : wpAnyS P md ops Q (TwoS s1 s2 S1 S2) (fuel + 1) listed a w := by
  rw [← hd] at hQ h
  exact wpAnyS_first (fun _ => True) hi (Region.noSelect_spec hs) hQ (fun _ _ _ _ _ => trivial) (twoS_set n1 n2) fuel listed a w (closedL_spec hc) (Region.free_spec hi hf) (by simpa using hr) hy hS h
/-- A load of the first place, taken first. -/
theorem takeS1 {i : Nat} {oi : Oper} {v : Value} {fuel : Nat} {listed : Array Bool} {a : Act} {w : World} (d : Tmp) (hi : ops[i]? = some oi) (hd : oi.dst = some d)
    (hs : Region.noSelect ops = true) (hf : Region.free md ops listed i = true) (hr : (Region.ready md ops listed).contains i = true) (hc : closedLB md ops listed = true) (n1 : i ≠ s1) (n2 : i ≠ s2) (hw : Region.waitsFor md ops s1 i = true)
    (hQ : ∀ c a w, Q (.panic c) (a.put (some d) v) w → Q (.panic c) a w) (hy : YieldsIf P ops S1 oi v a) (hS : TwoS s1 s2 S1 S2 listed w)
    (h : wpAnyS P md ops Q (TwoS s1 s2 S1 S2) fuel (listed.setIfInBounds i true) (a.put (some d) v) w) : wpAnyS P md ops Q (TwoS s1 s2 S1 S2) (fuel + 1) listed a w := by
  rw [← hd] at hQ h
  exact wpAnyS_first S1 hi (Region.noSelect_spec hs) hQ (fun _ _ c hn h => h.1 (c.not_yet hw hn)) (twoS_set n1 n2) fuel listed a w (closedL_spec hc) (Region.free_spec hi hf) (by simpa using hr) hy hS h
/-- A load of the second place, taken first. -/
theorem takeS2 {i : Nat} {oi : Oper} {v : Value} {fuel : Nat} {listed : Array Bool} {a : Act} {w : World} (d : Tmp) (hi : ops[i]? = some oi) (hd : oi.dst = some d)
    (hs : Region.noSelect ops = true) (hf : Region.free md ops listed i = true) (hr : (Region.ready md ops listed).contains i = true) (hc : closedLB md ops listed = true) (n1 : i ≠ s1) (n2 : i ≠ s2) (hw : Region.waitsFor md ops s2 i = true)
    (hQ : ∀ c a w, Q (.panic c) (a.put (some d) v) w → Q (.panic c) a w) (hy : YieldsIf P ops S2 oi v a) (hS : TwoS s1 s2 S1 S2 listed w)
    (h : wpAnyS P md ops Q (TwoS s1 s2 S1 S2) fuel (listed.setIfInBounds i true) (a.put (some d) v) w) : wpAnyS P md ops Q (TwoS s1 s2 S1 S2) (fuel + 1) listed a w := by
  rw [← hd] at hQ h
  exact wpAnyS_first S2 hi (Region.noSelect_spec hs) hQ (fun _ _ c hn h => h.2 (c.not_yet hw hn)) (twoS_set n1 n2) fuel listed a w (closedL_spec hc) (Region.free_spec hi hf) (by simpa using hr) hy hS h

/-- The one that may come up. -/
theorem oneS {k : Nat} {o : Oper} {fuel : Nat} {listed : Array Bool} {a : Act} {w : World} (hr : Region.ready md ops listed = [k]) (ho : ops[k]? = some o) (hw : Region.wanted o (yielded ops a.tmps) = true)
    (h : ∀ K : Act → World → Prop, (∀ a' w', S (listed.setIfInBounds k true) w' → wpAnyS P md ops Q S fuel (listed.setIfInBounds k true) a' w' → K a' w') → Oper.wp P o a w K Q) :
    wpAnyS P md ops Q S (fuel + 1) listed a w := by
  refine ⟨fun h0 => (by rw [hr] at h0; cases h0), fun i hi => ?_⟩
  rw [hr] at hi
  have hik : i = k := by simpa using hi
  subst hik
  unfold wpOp
  simp only [ho, hw, if_true]
  exact .inl (h _ (fun _ _ h1 h2 => ⟨h1, h2⟩))
theorem doneS {listed : Array Bool} {a : Act} {w : World} (hr : Region.ready md ops listed = []) (h : Q .normal a w) : ∀ fuel, wpAnyS P md ops Q S fuel listed a w
  | 0 => ⟨hr, h⟩
  | _ + 1 => ⟨fun _ => h, by rw [hr]; simp⟩
theorem wp_region_S {id : Nat} {a : Act} {w : World} (S : Array Bool → World → Prop) (hm : P.follows .mixedOrders = true)
    (h : wpAnyS P .any ops Q S ops.size (Array.replicate ops.size false) a w.drew) : (Code.region id ops true).wp P Q a w :=
  wp_region_any hm (wpAny_of_S _ _ _ _ h)
end
end Go.Proofs.Ytglfolbimafcaaa
