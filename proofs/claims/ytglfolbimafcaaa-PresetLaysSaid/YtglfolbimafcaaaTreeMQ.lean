/- Layer 11: trees, plain: what is in one, in order, and where it lies; which may be; panes lie apart. -/
import Derived.Test.YtglfolbimafcaaaBaseQ
namespace Go.Proofs.Ytglfolbimafcaaa
open Go.RowKit

inductive Tr where
  | mk (kind pane size : Int) (kids : List Tr)
def Tr.kind : Tr → Int | .mk k _ _ _ => k
def Tr.pane : Tr → Int | .mk _ p _ _ => p
def Tr.size : Tr → Int | .mk _ _ s _ => s
def Tr.kids : Tr → List Tr | .mk _ _ _ l => l

/-- A number as Go keeps it. -/
def w64 (a : Int) : Int := wrap64 a
theorem w64_id {a : Int} (h : -9000000000000000000 ≤ a) (h' : a ≤ 9000000000000000000) : w64 a = a := by unfold w64 wrap64; omega

structure Rc where
  pane : Int
  x : Int
  y : Int
  w : Int
  h : Int
def Rc.cells (r : Rc) (k : Int) : Int := if k = 1 then r.w else r.h
def Rc.cut (r : Rc) (k s : Int) : Rc := if k = 1 then { r with w := s } else { r with h := s }
def Rc.on (r : Rc) (k s : Int) : Rc := if k = 1 then { r with x := w64 (r.x + w64 (s + 1)) } else { r with y := w64 (r.y + w64 (s + 1)) }

mutual
/-- A tree, and all in it, each with where it lies. -/
def items (q : Rc) : Tr → List (Tr × Rc)
  | .mk k p s l => (.mk k p s l, { q with pane := p }) :: itemsL k { q with pane := p } l
def itemsL (k : Int) (q : Rc) : List Tr → List (Tr × Rc)
  | [] => []
  | t :: r => items (q.cut k t.size) t ++ itemsL k ((q.cut k t.size).on k t.size) r
end
mutual
/-- How many there are. -/
def cntT : Tr → Nat
  | .mk _ _ _ l => 1 + cntL l
def cntL : List Tr → Nat
  | [] => 0
  | t :: r => cntT t + cntL r
end
theorem cnt_pos : ∀ t : Tr, 1 ≤ cntT t
  | .mk _ _ _ _ => by unfold cntT; omega
theorem len_cnt : ∀ l : List Tr, l.length ≤ cntL l
  | [] => Nat.le_refl _
  | t :: r => by have := len_cnt r; have := cnt_pos t; simp only [List.length_cons, cntL]; omega
theorem cnt_append : ∀ a b : List Tr, cntL (a ++ b) = cntL a + cntL b
  | [], b => by simp [cntL]
  | t :: a, b => by rw [List.cons_append, cntL, cntL, cnt_append a b]; omega
mutual
theorem items_len (q : Rc) : ∀ t : Tr, (items q t).length = cntT t
  | .mk k p s l => by unfold items cntT; rw [List.length_cons, itemsL_len]; omega
theorem itemsL_len (k : Int) (q : Rc) : ∀ l : List Tr, (itemsL k q l).length = cntL l
  | [] => rfl
  | t :: r => by unfold itemsL cntL; rw [List.length_append, items_len, itemsL_len]
end
theorem itemsL_append (k : Int) : ∀ (a b : List Tr) (q : Rc), ∃ q', itemsL k q (a ++ b) = itemsL k q a ++ itemsL k q' b
  | [], b, q => ⟨q, by simp [itemsL]⟩
  | t :: a, b, q => by
    obtain ⟨q', h⟩ := itemsL_append k a b ((q.cut k t.size).on k t.size)
    exact ⟨q', by rw [List.cons_append, itemsL, itemsL, h, List.append_assoc]⟩

def fillGo (k : Int) : Int → List Tr → Bool
  | left, [] => decide (left = 0)
  | left, t :: r => if t.kind = k then false else if t.size < 1 then false else if t.size > left then false else fillGo k (left - t.size) r
def fillT (l : List Tr) (k c : Int) : Bool := fillGo k (w64 (c - w64 ((l.length : Int) - 1))) l
def isPaneB (p : Int) : Bool := decide (1 ≤ p ∧ p ≤ 999)
def madeR (t : Tr) (q : Rc) : Bool :=
  if t.kind = 0 then decide (t.kids.length = 0) && isPaneB t.pane
  else if t.kind = 1 ∨ t.kind = 2 then decide (t.pane = 0) && decide (2 ≤ t.kids.length) && fillT t.kids t.kind (q.cells t.kind)
  else false
/-- Right, from here on, behind these panes. -/
def rightGo : List Int → List (Tr × Rc) → Bool
  | _, [] => true
  | ps, (t, q) :: r => if madeR t q = false then false else if t.kind ≠ 0 then rightGo ps r else if ps.length = 8 then false else if t.pane ∈ ps then false else rightGo (ps ++ [t.pane]) r
def sizeB (w h : Int) : Bool := decide (1 ≤ w ∧ w ≤ 80 ∧ 1 ≤ h ∧ h ≤ 50)
def rightB (t : Tr) (w h : Int) : Bool := sizeB w h && rightGo [] (items ⟨0, 0, 0, w, h⟩ t)
def panesOf (l : List (Tr × Rc)) : List Rc := (l.filter fun e => decide (e.1.kind = 0)).map Prod.snd
def rectsT (t : Tr) (w h : Int) : List Rc := panesOf (items ⟨0, 0, 0, w, h⟩ t)

theorem rightGo_made : ∀ (l : List (Tr × Rc)) (ps : List Int), rightGo ps l = true → ∀ e ∈ l, madeR e.1 e.2 = true
  | [], _, _, e, he => by cases he
  | (t, q) :: r, ps, h, e, he => by
    unfold rightGo at h
    split at h
    · cases h
    · rename_i hm
      have hm : madeR t q = true := by simpa using hm
      rcases List.mem_cons.1 he with rfl | he
      · exact hm
      · split at h
        · exact rightGo_made r _ h e he
        · split at h
          · cases h
          · split at h
            · cases h
            · exact rightGo_made r _ h e he
theorem fillGo_sum {k : Int} : ∀ {l : List Tr} {left : Int}, fillGo k left l = true → (l.length : Int) ≤ left
  | [], left, h => by unfold fillGo at h; simp at h; simp [h]
  | t :: r, left, h => by
    unfold fillGo at h
    split at h
    · cases h
    · split at h
      · cases h
      · split at h
        · cases h
        · have := fillGo_sum h
          simp only [List.length_cons]
          omega
/-- Within. -/
def Rc.inside (r q : Rc) : Prop := q.x ≤ r.x ∧ r.x + r.w ≤ q.x + q.w ∧ 1 ≤ r.w ∧ q.y ≤ r.y ∧ r.y + r.h ≤ q.y + q.h ∧ 1 ≤ r.h
def Rc.apart (a b : Rc) : Prop := a.x + a.w < b.x ∨ b.x + b.w < a.x ∨ a.y + a.h < b.y ∨ b.y + b.h < a.y
def Rc.small (q : Rc) : Prop := 0 ≤ q.x ∧ q.x + q.w ≤ 1000 ∧ 1 ≤ q.w ∧ 0 ≤ q.y ∧ q.y + q.h ≤ 1000 ∧ 1 ≤ q.h
def Apart2 (a b : Tr × Rc) : Prop := a.1.kind = 0 → b.1.kind = 0 → a.2.apart b.2
theorem madeR_cases {t : Tr} {q : Rc} (h : madeR t q = true) : (t.kind = 0 ∧ t.kids = []) ∨ ((t.kind = 1 ∨ t.kind = 2) ∧ t.pane = 0 ∧ 2 ≤ t.kids.length ∧ fillT t.kids t.kind (q.cells t.kind) = true) := by
  unfold madeR at h
  split at h
  · rename_i h0
    simp only [Bool.and_eq_true, decide_eq_true_eq] at h
    exact .inl ⟨h0, List.length_eq_zero_iff.1 h.1⟩
  · split at h
    · rename_i h0
      simp only [Bool.and_eq_true, decide_eq_true_eq] at h
      exact .inr ⟨h0, h.1.1, h.1.2, h.2⟩
    · cases h
mutual
theorem lay : ∀ (t : Tr) (q : Rc), cntT t ≤ 1000 → q.small → (∀ e ∈ items q t, madeR e.1 e.2 = true) → (∀ e ∈ items q t, e.1.kind = 0 → e.2.inside q) ∧ (items q t).Pairwise Apart2
  | .mk k p s l, q, hc, hs, hm => by
    unfold items at hm ⊢
    have h0 := hm _ (List.mem_cons_self ..)
    simp only at h0
    rcases madeR_cases h0 with ⟨hk, hl⟩ | ⟨hk, hp, hl, hf⟩
    · simp only [Tr.kids] at hl
      subst hl
      simp only [itemsL]
      refine ⟨fun e he _ => ?_, List.pairwise_singleton _ _⟩
      obtain rfl := List.mem_singleton.1 he
      obtain ⟨a, b, c, d, e, f⟩ := hs
      refine ⟨?_, ?_, ?_, ?_, ?_, ?_⟩ <;> simp only <;> omega
    · simp only [Tr.kids, Tr.kind] at hl hf hk
      have hlc := len_cnt l
      unfold cntT at hc
      have hk0 : k ≠ 0 := by omega
      have hq' : ({ q with pane := p } : Rc).small := hs
      unfold fillT at hf
      rw [w64_id (a := (l.length : Int) - 1) (by omega) (by omega)] at hf
      have hcl : ({ q with pane := p } : Rc).cells k ≤ 1000 ∧ 1 ≤ ({ q with pane := p } : Rc).cells k := by
        obtain ⟨a, b, c, d, e, f⟩ := hs
        unfold Rc.cells
        split <;> simp only <;> omega
      rw [w64_id (by omega) (by omega)] at hf
      obtain ⟨h1, h2⟩ := layL l k { q with pane := p } _ (by omega) hk hq' (by omega) hf fun e he => hm e (List.mem_cons_of_mem _ he)
      refine ⟨fun e he hek => ?_, List.pairwise_cons.2 ⟨fun e _ ha => absurd ha hk0, h2⟩⟩
      rcases List.mem_cons.1 he with rfl | he
      · exact absurd hek hk0
      · have := h1 e he hek
        unfold Rc.cut Rc.cells at this
        rcases hk with rfl | rfl
        · simp [Rc.inside] at this ⊢
          omega
        · simp [Rc.inside] at this ⊢
          omega
theorem layL : ∀ (l : List Tr) (k : Int) (q : Rc) (left : Int), cntL l ≤ 1000 → (k = 1 ∨ k = 2) → q.small → left + l.length - 1 ≤ q.cells k → fillGo k left l = true → (∀ e ∈ itemsL k q l, madeR e.1 e.2 = true) →
    (∀ e ∈ itemsL k q l, e.1.kind = 0 → e.2.inside (q.cut k (left + l.length - 1))) ∧ (itemsL k q l).Pairwise Apart2
  | [], k, q, left, _, _, _, _, _, _ => ⟨fun e he => (by cases he), List.Pairwise.nil⟩
  | t :: r, k, q, left, hc, hk, hs, hle, hf, hm => by
    unfold itemsL at hm ⊢
    unfold fillGo at hf
    split at hf
    · cases hf
    split at hf
    · cases hf
    split at hf
    · cases hf
    rename_i hk1 hk2 hk3
    have hsum := fillGo_sum hf
    unfold cntL at hc
    simp only [List.length_cons] at hle ⊢
    have hsm : (q.cut k t.size).small := by
      obtain ⟨a, b, c, d, e, f⟩ := hs
      unfold Rc.cells at hle
      rcases hk with rfl | rfl
      · simp [Rc.cut, Rc.small] at hle ⊢
        omega
      · simp [Rc.cut, Rc.small] at hle ⊢
        omega
    obtain ⟨a1, a2⟩ := lay t (q.cut k t.size) (by omega) hsm fun e he => hm e (List.mem_append_left _ he)
    by_cases hr : r = []
    · subst hr
      simp only [itemsL, List.append_nil]
      refine ⟨fun e he hek => ?_, a2⟩
      have := a1 e he hek
      simp only [List.length_nil] at hle ⊢
      rcases hk with rfl | rfl
      · simp [Rc.cut, Rc.inside] at this ⊢
        omega
      · simp [Rc.cut, Rc.inside] at this ⊢
        omega
    · have hrl : 1 ≤ r.length := List.length_pos_iff.2 hr
      -- behind it
      obtain ⟨q2, hq2⟩ : ∃ q2, q2 = ((q.cut k t.size).on k t.size).cut k (q.cells k - t.size - 1) := ⟨_, rfl⟩
      have hsz : t.size ≤ 1000 := by
        obtain ⟨a, b, c, d, e, f⟩ := hs
        unfold Rc.cells at hle
        split at hle <;> omega
      have e2 : ((q.cut k t.size).on k t.size) = (if k = 1 then { q with x := q.x + t.size + 1, w := t.size } else { q with y := q.y + t.size + 1, h := t.size }) := by
        obtain ⟨a, b, c, d, e, f⟩ := hs
        unfold Rc.cells at hle
        rcases hk with rfl | rfl
        · simp only [Rc.cut, Rc.on, if_true]
          rw [w64_id (a := t.size + 1) (by omega) (by omega), w64_id (by omega) (by omega), Int.add_assoc]
        · simp only [Rc.cut, Rc.on, show ¬ (2 : Int) = 1 by decide, if_false]
          rw [w64_id (a := t.size + 1) (by omega) (by omega), w64_id (by omega) (by omega), Int.add_assoc]
      have hsame : itemsL k ((q.cut k t.size).on k t.size) r = itemsL k q2 r := by
        subst hq2
        cases r with
        | nil => rfl
        | cons u r =>
          unfold itemsL
          have : ∀ (z : Rc) (a b : Int), (z.cut k a).cut k b = z.cut k b := fun z a b => by unfold Rc.cut; split <;> simp
          rw [this]
      have hq2s : q2.small := by
        obtain ⟨a, b, c, d, e, f⟩ := hs
        unfold Rc.cells at hle
        rw [hq2, e2]
        rcases hk with rfl | rfl
        · simp [Rc.cut, Rc.small, Rc.cells] at hle ⊢
          omega
        · simp [Rc.cut, Rc.small, Rc.cells] at hle ⊢
          omega
      have hq2c : q2.cells k = q.cells k - t.size - 1 := by rw [hq2]; unfold Rc.cells Rc.cut; split <;> rfl
      rw [hsame]
      obtain ⟨b1, b2⟩ := layL r k q2 (left - t.size) (by omega) hk hq2s (by omega) hf fun e he => hm e (List.mem_append_right _ (by rw [hsame]; exact he))
      refine ⟨fun e he hek => ?_, List.pairwise_append.2 ⟨a2, b2, fun x hx y hy hxk hyk => ?_⟩⟩
      · rcases List.mem_append.1 he with he | he
        · have := a1 e he hek
          rcases hk with rfl | rfl
          · simp [Rc.cut, Rc.inside] at this ⊢
            omega
          · simp [Rc.cut, Rc.inside] at this ⊢
            omega
        · have := b1 e he hek
          rw [hq2, e2] at this
          rcases hk with rfl | rfl
          · simp [Rc.cut, Rc.inside] at this ⊢
            omega
          · simp [Rc.cut, Rc.inside] at this ⊢
            omega
      · have hx1 := a1 x hx hxk
        have hy1 := b1 y hy hyk
        rw [hq2, e2] at hy1
        rcases hk with rfl | rfl
        · simp [Rc.cut, Rc.inside, Rc.apart] at hx1 hy1 ⊢
          omega
        · simp [Rc.cut, Rc.inside, Rc.apart] at hx1 hy1 ⊢
          omega
end
mutual
theorem leaf_in : ∀ (t : Tr) (q : Rc), (∀ e ∈ items q t, madeR e.1 e.2 = true) → ∃ e ∈ items q t, e.1.kind = 0
  | .mk k p s l, q, hm => by
    unfold items at hm ⊢
    rcases madeR_cases (hm _ (List.mem_cons_self ..)) with ⟨hk, _⟩ | ⟨_, _, hl, _⟩
    · exact ⟨_, List.mem_cons_self .., hk⟩
    · simp only [Tr.kids] at hl
      obtain ⟨e, he, hk⟩ := leaf_inL l k { q with pane := p } (by intro h; rw [h] at hl; simp at hl) fun e he => hm e (List.mem_cons_of_mem _ he)
      exact ⟨e, List.mem_cons_of_mem _ he, hk⟩
theorem leaf_inL : ∀ (l : List Tr) (k : Int) (q : Rc), l ≠ [] → (∀ e ∈ itemsL k q l, madeR e.1 e.2 = true) → ∃ e ∈ itemsL k q l, e.1.kind = 0
  | [], _, _, h, _ => absurd rfl h
  | t :: r, k, q, _, hm => by
    unfold itemsL at hm ⊢
    obtain ⟨e, he, hk⟩ := leaf_in t (q.cut k t.size) fun e he => hm e (List.mem_append_left _ he)
    exact ⟨e, List.mem_append_left _ he, hk⟩
end
theorem rightGo_count : ∀ (l : List (Tr × Rc)) (ps : List Int), ps.length ≤ 8 → rightGo ps l = true → ps.length + (panesOf l).length ≤ 8
  | [], ps, h8, _ => h8
  | (t, q) :: r, ps, h8, h => by
    unfold rightGo at h
    split at h
    · cases h
    · split at h
      · rename_i hk
        have := rightGo_count r ps h8 h
        simpa [panesOf, List.filter_cons, hk] using this
      · rename_i hk
        have hk : t.kind = 0 := by simpa using hk
        split at h
        · cases h
        · split at h
          · cases h
          · have := rightGo_count r _ (by rw [List.length_append, List.length_singleton]; omega) h
            simp [panesOf, hk] at this ⊢
            omega
theorem mem_panes {l : List (Tr × Rc)} {r : Rc} (h : r ∈ panesOf l) : ∃ e ∈ l, e.1.kind = 0 ∧ e.2 = r := by
  unfold panesOf at h
  obtain ⟨e, he, rfl⟩ := List.mem_map.1 h
  obtain ⟨h1, h2⟩ := List.mem_filter.1 he
  exact ⟨e, h1, by simpa using h2, rfl⟩
theorem panes_pair : ∀ {l : List (Tr × Rc)}, l.Pairwise Apart2 → (panesOf l).Pairwise Rc.apart
  | [], _ => List.Pairwise.nil
  | e :: l, h => by
    obtain ⟨h1, h2⟩ := List.pairwise_cons.1 h
    by_cases hk : e.1.kind = 0
    · have : panesOf (e :: l) = e.2 :: panesOf l := by simp [panesOf, hk]
      rw [this]
      refine List.pairwise_cons.2 ⟨fun r hr => ?_, panes_pair h2⟩
      obtain ⟨e', he', hk', rfl⟩ := mem_panes hr
      exact h1 e' he' hk hk'
    · have : panesOf (e :: l) = panesOf l := by simp [panesOf, hk]
      rw [this]
      exact panes_pair h2
theorem sizeB_iff {w h : Int} : sizeB w h = true ↔ 1 ≤ w ∧ w ≤ 80 ∧ 1 ≤ h ∧ h ≤ 50 := by simp [sizeB]
/-- Where panes lie: in the window, apart; 1 to 8. -/
theorem rects_lie {t : Tr} {w h : Int} (hc : cntT t ≤ 1000) (hr : rightB t w h = true) :
    (∀ r ∈ rectsT t w h, 0 ≤ r.x ∧ r.x + r.w ≤ w ∧ 1 ≤ r.w ∧ 0 ≤ r.y ∧ r.y + r.h ≤ h ∧ 1 ≤ r.h) ∧ (rectsT t w h).Pairwise Rc.apart ∧ 1 ≤ (rectsT t w h).length ∧ (rectsT t w h).length ≤ 8 ∧ w ≤ 80 ∧ h ≤ 50 := by
  unfold rightB at hr
  obtain ⟨hs, hg⟩ := Bool.and_eq_true_iff.1 hr
  obtain ⟨a, b, c, d⟩ := sizeB_iff.1 hs
  have hm := rightGo_made _ _ hg
  obtain ⟨h1, h2⟩ := lay t ⟨0, 0, 0, w, h⟩ hc ⟨by simp, by simp; omega, by simp; omega, by simp, by simp; omega, by simp; omega⟩ hm
  refine ⟨fun r hr => ?_, panes_pair h2, ?_, ?_, b, d⟩
  · obtain ⟨e, he, hk, rfl⟩ := mem_panes hr
    have := h1 e he hk
    simpa [Rc.inside] using this
  · obtain ⟨e, he, hk⟩ := leaf_in t _ hm
    have : e.2 ∈ rectsT t w h := List.mem_map.2 ⟨e, List.mem_filter.2 ⟨he, by simpa using hk⟩, rfl⟩
    exact List.length_pos_iff.2 (List.ne_nil_of_mem this)
  · have := rightGo_count _ [] (by simp) hg
    simpa [rectsT] using this
end Go.Proofs.Ytglfolbimafcaaa
