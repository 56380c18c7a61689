/- Layer 3, plain: named keys one by one are the rules 1 and 2. -/
import Derived.Test.YtlcahkbbefcjnaaDoorKeysT
import Derived.Test.YtlcahkbbefcjnaaDoorKeysB
namespace Go.Proofs.YtlcahkbbefcjnaaDoor
open Go.RowKit

def hitB (s : ByteArray) (e : ByteArray × ByteArray) : Bool := decide (e.2 ≠ esc) && pre s e.2
def halfB (s : ByteArray) (f : Bool) (e : ByteArray × ByteArray) : Bool := !f && (decide (s.size < e.2.size) && pre e.2 s)
/-- Named keys, one by one. -/
def scanG (s : ByteArray) (f : Bool) : List (ByteArray × ByteArray) → Option (ByteArray × Nat)
  | [] => none
  | e :: l => if hitB s e = true then some (e.1, e.2.size) else if halfB s f e = true then some (⟨#[]⟩, 0) else scanG s f l

theorem all_tab' : ∀ x ∈ allTab, (x.2 ≠ esc ∧ ∃ y ∈ keyTab, y = x) ∨ (x.2 = esc ∧ x.2.size = 1) := by decide +kernel
theorem all_tab : ∀ x ∈ allTab, (x.2 ≠ esc ∧ x ∈ keyTab) ∨ (x.2 = esc ∧ x.2.size = 1) := fun x hx => by
  rcases all_tab' x hx with ⟨h, y, hy, rfl⟩ | h
  · exact .inl ⟨h, hy⟩
  · exact .inr h
theorem tab_all' : ∀ x ∈ keyTab, (∃ y ∈ allTab, y = x) ∧ x.2 ≠ esc := by decide +kernel
theorem tab_all : ∀ x ∈ keyTab, x ∈ allTab ∧ x.2 ≠ esc := fun x hx => by
  obtain ⟨⟨y, hy, rfl⟩, h⟩ := tab_all' x hx
  exact ⟨hy, h⟩
theorem all_size : ∀ x ∈ allTab, x.1.size ≤ 7 ∧ x.2.size ≤ 4 := by decide +kernel

theorem scan_none {s : ByteArray} {f : Bool} : ∀ l : List (ByteArray × ByteArray), (∀ x ∈ l, hitB s x = false) → scanG s f l = if l.any (halfB s f) = true then some (⟨#[]⟩, 0) else none
  | [], _ => rfl
  | e :: l, h => by
    rw [scanG, if_neg (by rw [h e (List.Mem.head _)]; simp), scan_none l (fun x hx => h x (List.Mem.tail _ hx))]
    cases hh : halfB s f e
    · rw [List.any_cons, hh, Bool.false_or, if_neg (by simp)]
    · rw [List.any_cons, hh, Bool.true_or, if_pos rfl, if_pos rfl]
theorem scan_hit {s : ByteArray} {f : Bool} {e : ByteArray × ByteArray} : ∀ l : List (ByteArray × ByteArray), e ∈ l → hitB s e = true → (∀ x ∈ l, halfB s f x = false) → (∀ x ∈ l, hitB s x = true → x = e) → scanG s f l = some (e.1, e.2.size)
  | y :: l, hm, hh, hn, hu => by
    rw [scanG]
    by_cases hy : hitB s y = true
    · rw [if_pos hy, hu y (List.Mem.head _) hy]
    · rw [if_neg hy, if_neg (by rw [hn y (List.Mem.head _)]; simp)]
      cases hm with
      | head => exact absurd hh hy
      | tail _ hm => exact scan_hit l hm hh (fun x hx => hn x (List.Mem.tail _ hx)) (fun x hx => hu x (List.Mem.tail _ hx))

theorem pre_size {s p : ByteArray} (h : pre s p = true) : p.size ≤ s.size := (of_decide_eq_true h).1
theorem pre_eq {s p : ByteArray} (h : pre s p = true) (hs : s.size ≤ p.size) : s = p := by
  have h2 := (of_decide_eq_true h)
  have e : s.extract 0 p.size = s := by rw [show p.size = s.size by omega]; exact ByteArray.extract_zero_size
  rw [← h2.2, e]

/-- The key that stands first, by the scan, and by the other rules. -/
theorem scan_take {s : ByteArray} {f : Bool} (h0 : s.size ≠ 0) :
    (∃ k, scanG s f allTab = some k ∧ takeK s f = k) ∨ (scanG s f allTab = none ∧ (f = true ∨ beginsG s = false) ∧ takeK s f = if byteAt s 0 = 27 then escG s f else lastG s f) := by
  cases hn : namedG s with
  | some e =>
    obtain ⟨hm, hp⟩ := namedG_some hn
    obtain ⟨ha, hne⟩ := tab_all e hm
    have huniq : ∀ x ∈ allTab, hitB s x = true → x = e := by
      intro x hx hh
      unfold hitB at hh
      rw [Bool.and_eq_true] at hh
      obtain ⟨h1, h2⟩ := hh
      have h1 := of_decide_eq_true h1
      rcases all_tab x hx with ⟨_, hk⟩ | ⟨he, _⟩
      · rcases Nat.le_total x.2.size e.2.size with hl | hl
        · exact tab_apart x hk e hm (pre_two h2 hp hl)
        · exact (tab_apart e hm x hk (pre_two hp h2 hl)).symm
      · exact absurd he h1
    have hno : ∀ x ∈ allTab, halfB s f x = false := by
      intro x hx
      cases hh : halfB s f x
      · rfl
      · exfalso
        unfold halfB at hh
        rw [Bool.and_eq_true, Bool.and_eq_true] at hh
        obtain ⟨_, h1, h2⟩ := hh
        have h1 := of_decide_eq_true h1
        rcases all_tab x hx with ⟨_, hk⟩ | ⟨_, hz⟩
        · have := tab_apart e hm x hk (pre_trans h2 hp)
          subst this
          have := pre_size hp
          omega
        · omega
    refine .inl ⟨_, scan_hit allTab ha ?_ hno huniq, ?_⟩
    · unfold hitB; rw [hp]; simp [hne]
    · unfold takeK; rw [hn]
  | none =>
    have hnone : ∀ x ∈ allTab, hitB s x = false := by
      intro x hx
      cases hh : hitB s x
      · rfl
      · exfalso
        unfold hitB at hh
        rw [Bool.and_eq_true] at hh
        obtain ⟨h1, h2⟩ := hh
        have h1 := of_decide_eq_true h1
        rcases all_tab x hx with ⟨_, hk⟩ | ⟨he, _⟩
        · rw [namedG_of hk h2] at hn; cases hn
        · exact absurd he h1
    have hany : allTab.any (halfB s f) = (!f && beginsG s) := by
      rw [Bool.eq_iff_iff, List.any_eq_true, Bool.and_eq_true]
      unfold beginsG
      rw [List.any_eq_true]
      constructor
      · rintro ⟨x, hx, hh⟩
        unfold halfB at hh
        rw [Bool.and_eq_true, Bool.and_eq_true] at hh
        obtain ⟨hf, h1, h2⟩ := hh
        have h1 := of_decide_eq_true h1
        rcases all_tab x hx with ⟨_, hk⟩ | ⟨_, hz⟩
        · exact ⟨hf, x, hk, h2⟩
        · omega
      · rintro ⟨hf, x, hk, h2⟩
        refine ⟨x, (tab_all x hk).1, ?_⟩
        unfold halfB
        rw [hf, h2]
        have hlt : s.size < x.2.size := by
          rcases Nat.lt_or_ge s.size x.2.size with h | h
          · exact h
          · have e := pre_eq h2 h
            have : pre s x.2 = true := by rw [e]; exact pre_self s
            rw [namedG_of hk this] at hn; cases hn
        simp [hlt]
    have hs := scan_none (f := f) allTab hnone
    rw [hany] at hs
    have ht : takeK s f = if beginsG s = true ∧ f = false then (⟨#[]⟩, 0) else if byteAt s 0 = 27 then escG s f else lastG s f := by
      unfold takeK
      rw [hn]
      simp only
      congr 1
      by_cases h27 : byteAt s 0 = 27
      · rw [if_pos h27, if_pos h27]
        unfold escG
        have hl : lastG s f = (escName, 1) := by unfold lastG; rw [if_pos h27]
        rw [hl]
        cases seqG s f with
        | some k => rfl
        | none => cases metaG s f <;> rfl
      · rw [if_neg h27, if_neg h27]
    by_cases hb : beginsG s = true ∧ f = false
    · rw [if_pos hb] at ht
      obtain ⟨hb1, rfl⟩ := hb
      rw [hb1] at hs
      exact .inl ⟨_, hs, ht⟩
    · rw [if_neg hb] at ht
      have hq : (!f && beginsG s) = false := by cases f <;> cases h : beginsG s <;> simp_all
      rw [hq] at hs
      refine .inr ⟨hs, ?_, ht⟩
      cases f
      · right
        simpa using hq
      · exact .inl rfl

theorem flat_at : ∀ (l : List (ByteArray × ByteArray)) (k : Nat) (e : ByteArray × ByteArray), l[k]? = some e → (flatK l)[2 * k]? = some (.string e.1) ∧ (flatK l)[2 * k + 1]? = some (.string e.2)
  | x :: l, 0, e, h => by
    simp at h
    subst h
    exact ⟨rfl, rfl⟩
  | x :: l, k + 1, e, h => by
    have h' : l[k]? = some e := by simpa using h
    have := flat_at l k e h'
    have hf : flatK (x :: l) = .string x.1 :: .string x.2 :: flatK l := rfl
    rw [hf, show 2 * (k + 1) = 2 * k + 1 + 1 by omega, show 2 * k + 1 + 1 + 1 = 2 * k + 1 + 1 + 1 by rfl]
    simpa using this
end Go.Proofs.YtlcahkbbefcjnaaDoor
