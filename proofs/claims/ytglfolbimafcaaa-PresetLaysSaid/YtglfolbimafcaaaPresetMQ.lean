/- Layer 12, plain: how cells are shared out, how panes lie; what lies so may be, and has these panes. -/
import Derived.Test.YtglfolbimafcaaaTreeMQ
namespace Go.Proofs.Ytglfolbimafcaaa
open Go.RowKit

/-- How many cells the i-th of m has, of c. -/
def shareN (c m i : Nat) : Nat := (c + 1 - m) / m + (if i < (c + 1 - m) % m then 1 else 0)
def evenL (c m : Nat) : List Int := (List.range m).map fun i => (shareN c m i : Int)
def roomB (c m : Nat) : Bool := decide (m ≤ c + 1 - m)
theorem evenL_length (c m : Nat) : (evenL c m).length = m := by simp [evenL]
theorem evenL_at {c m i : Nat} (h : i < m) : (evenL c m)[i]? = some (shareN c m i : Int) := by simp [evenL, h]
def sumL : List Int → Int
  | [] => 0
  | x :: l => x + sumL l
theorem even_sum {c m : Nat} (hc : c ≤ 80) (h1 : 1 ≤ m) (hm : m ≤ 8) (hr : roomB c m = true) : sumL (evenL c m) = c + 1 - m := by
  have h : ∀ c : Fin 81, ∀ m : Fin 9, 1 ≤ m.val → roomB c.val m.val = true → sumL (evenL c.val m.val) = (c.val : Int) + 1 - m.val := by decide +kernel
  exact h ⟨c, by omega⟩ ⟨m, by omega⟩ h1 hr
theorem share_pos {c m i : Nat} (h1 : 1 ≤ m) (hr : roomB c m = true) : 1 ≤ shareN c m i := by
  unfold roomB at hr
  have := Nat.div_pos (of_decide_eq_true hr) h1
  unfold shareN
  omega
theorem share_le {c m i : Nat} (h : m ≤ 8) (h1 : 1 ≤ m) : shareN c m i ≤ c + 2 := by
  unfold shareN
  have := Nat.div_le_self (c + 1 - m) m
  split <;> omega
theorem share_last {c m : Nat} (h1 : 1 ≤ m) (i : Nat) : shareN c m (m - 1) ≤ shareN c m i ∧ shareN c m i ≤ shareN c m (m - 1) + 1 := by
  unfold shareN
  have := Nat.mod_lt (c + 1 - m) h1
  rw [if_neg (show ¬ m - 1 < (c + 1 - m) % m by omega)]
  split <;> omega

def Tr.sized (t : Tr) (s : Int) : Tr := .mk t.kind t.pane s t.kids
def leafP (p s : Int) : Tr := .mk 0 p s []
def dealT (c : Nat) (l : List Tr) : List Tr := List.zipWith Tr.sized l (evenL c l.length)
def sharedT (k : Int) (c : Nat) (l : List Tr) : Option Tr := if l.length = 1 then l.head? else if roomB c l.length = true then some (.mk k 0 0 (dealT c l)) else none
def lineT (k : Int) (c : Nat) (ps : List Int) : Option Tr := sharedT k c (ps.map fun p => leafP p 0)
def halfN (c : Nat) : Nat := (c - 1) / 2
def halvedT (k : Int) (c : Nat) (p : Int) (o : Option Tr) : Option Tr :=
  match o with
  | none => none
  | some t => if halfN c < 1 then none else some (.mk k 0 0 [leafP p ((c - 1 - halfN c : Nat) : Int), t.sized (halfN c)])
def mainT (k : Int) (c : Nat) (ps : List Int) (lay : List Int → Option Tr) : Option Tr :=
  match ps with
  | [] => none
  | p :: r => if r = [] then some (leafP p 0) else halvedT k c p (lay r)
def chunkL (n : Nat) : Nat → List Int → List (List Int)
  | 0, _ => []
  | f + 1, l => if l = [] then [] else l.take n :: chunkL n f (l.drop n)
def rootN (n : Nat) : Nat := if n ≤ 1 then n else if n ≤ 4 then 2 else 3
def allT : List (Option Tr) → Option (List Tr)
  | [] => some []
  | none :: _ => none
  | some t :: r => match allT r with
    | none => none
    | some l => some (t :: l)
def rowsT (w h : Nat) (ps : List Int) : Option Tr :=
  match allT ((chunkL (rootN ps.length) ps.length ps).map (lineT 1 w)) with
  | none => none
  | some l => sharedT 2 h l
/-- How panes lie. -/
def layT (ps : List Int) (how : Int) (w h : Nat) : Option Tr :=
  if how = 1 then lineT 1 w ps else if how = 2 then lineT 2 h ps else if how = 3 then mainT 1 w ps (lineT 2 h) else if how = 4 then mainT 2 h ps (lineT 1 w) else rowsT w h ps
/-- May panes lie? -/
def mayP (ps : List Int) (w h : Int) : Bool := decide (1 ≤ ps.length ∧ ps.length ≤ 8) && sizeB w h && decide ps.Nodup && ps.all isPaneB

/-- The panes of items, in order. -/
def leavesP (l : List (Tr × Rc)) : List Int := (l.filter fun e => decide (e.1.kind = 0)).map fun e => e.1.pane
theorem leavesP_append (a b : List (Tr × Rc)) : leavesP (a ++ b) = leavesP a ++ leavesP b := by unfold leavesP; rw [List.filter_append, List.map_append]
theorem rightGo_of : ∀ (l : List (Tr × Rc)) (ps : List Int), (∀ e ∈ l, madeR e.1 e.2 = true) → (ps ++ leavesP l).Nodup → (ps ++ leavesP l).length ≤ 8 → rightGo ps l = true
  | [], _, _, _, _ => rfl
  | (t, q) :: r, ps, hm, hn, h8 => by
    unfold rightGo
    rw [if_neg (by rw [hm _ (List.mem_cons_self ..)]; decide)]
    by_cases hk : t.kind = 0
    · rw [if_neg (by omega)]
      have e : leavesP ((t, q) :: r) = t.pane :: leavesP r := by simp [leavesP, hk]
      rw [e] at hn h8
      rw [List.length_append, List.length_cons] at h8
      rw [if_neg (by omega)]
      have hd := List.nodup_append.1 hn
      rw [if_neg (fun hx => hd.2.2 _ hx _ (List.mem_cons_self ..) rfl)]
      refine rightGo_of r _ (fun e he => hm e (List.mem_cons_of_mem _ he)) ?_ ?_
      · rwa [List.append_assoc]
      · rw [List.append_assoc, List.length_append]; simpa using h8
    · rw [if_pos hk]
      have e : leavesP ((t, q) :: r) = leavesP r := by simp [leavesP, hk]
      rw [e] at hn h8
      exact rightGo_of r ps (fun e he => hm e (List.mem_cons_of_mem _ he)) hn h8
def sumS : List Tr → Int
  | [] => 0
  | t :: r => t.size + sumS r
theorem sumS_nn {l : List Tr} (h : ∀ t ∈ l, 1 ≤ t.size) : 0 ≤ sumS l := by
  induction l with
  | nil => exact Int.le_refl _
  | cons t r ih =>
    have := ih fun u hu => h u (List.mem_cons_of_mem _ hu)
    have := h t (List.mem_cons_self ..)
    unfold sumS
    omega
theorem fillGo_of {k : Int} : ∀ (l : List Tr) (left : Int), (∀ t ∈ l, t.kind ≠ k ∧ 1 ≤ t.size) → sumS l = left → fillGo k left l = true
  | [], left, _, h => by unfold fillGo; simp [← h, sumS]
  | t :: r, left, hk, h => by
    obtain ⟨h1, h2⟩ := hk t (List.mem_cons_self ..)
    have hn := sumS_nn (l := r) fun u hu => (hk u (List.mem_cons_of_mem _ hu)).2
    unfold sumS at h
    unfold fillGo
    rw [if_neg h1, if_neg (by omega), if_neg (by omega)]
    exact fillGo_of r _ (fun u hu => hk u (List.mem_cons_of_mem _ hu)) (by omega)
theorem fillT_of {k : Int} {l : List Tr} {c : Int} (hl : l.length ≤ 1000) (h1 : 1 ≤ l.length) (hc : 0 ≤ c) (hc' : c ≤ 1000) (hk : ∀ t ∈ l, t.kind ≠ k ∧ 1 ≤ t.size) (hs : sumS l = c + 1 - l.length) : fillT l k c = true := by
  unfold fillT
  rw [w64_id (a := (l.length : Int) - 1) (by omega) (by omega), w64_id (by omega) (by omega)]
  exact fillGo_of l _ hk (by omega)
theorem sumS_deal (l : List Tr) (s : List Int) (h : l.length = s.length) : sumS (List.zipWith Tr.sized l s) = sumL s := by
  induction l generalizing s with
  | nil => cases s with | nil => rfl | cons => simp at h
  | cons t r ih =>
    cases s with
    | nil => simp at h
    | cons x s => simp only [List.zipWith_cons_cons, sumS, sumL]; rw [ih s (by simpa using h)]; rfl
theorem deal_mem {c : Nat} {l : List Tr} {t : Tr} (h : t ∈ dealT c l) : ∃ u ∈ l, ∃ i, t = u.sized (shareN c l.length i) := by
  unfold dealT at h
  obtain ⟨i, hi, rfl⟩ := List.getElem_of_mem h
  rw [List.getElem_zipWith]
  simp only [List.length_zipWith, evenL_length] at hi
  have hi' : i < l.length := by omega
  refine ⟨l[i]'hi', List.getElem_mem hi', i, ?_⟩
  congr 1
  have := evenL_at (c := c) (m := l.length) (i := i) hi'
  rw [List.getElem?_eq_getElem (by rw [evenL_length]; exact hi')] at this
  exact Option.some.inj this
theorem dealT_length (c : Nat) (l : List Tr) : (dealT c l).length = l.length := by simp [dealT, evenL_length]

/-- All in a tree is made right, wherever it lies, as long as it has so many cells along a way. -/
def MadeIn (k : Int) (c : Int) (t : Tr) : Prop := ∀ q : Rc, q.cells k = c → ∀ e ∈ items q t, madeR e.1 e.2 = true
theorem madeR_sized (t : Tr) (s : Int) (q : Rc) : madeR (t.sized s) q = madeR t q := rfl
theorem items_sized (q : Rc) (s : Int) : ∀ t : Tr, ∃ r, items q t = (t, { q with pane := t.pane }) :: r ∧ items q (t.sized s) = (t.sized s, { q with pane := t.pane }) :: r
  | .mk _ _ _ _ => ⟨_, rfl, rfl⟩
theorem MadeIn.sized {k c : Int} {t : Tr} (h : MadeIn k c t) (s : Int) : MadeIn k c (t.sized s) := by
  intro q hq e he
  obtain ⟨r, h1, h2⟩ := items_sized q s t
  have := h q hq
  rw [h1] at this
  rw [h2] at he
  rcases List.mem_cons.1 he with rfl | he
  · exact (madeR_sized t s _).trans (this _ (List.mem_cons_self ..))
  · exact this e (List.mem_cons_of_mem _ he)
theorem leaves_sized (q : Rc) (t : Tr) (s : Int) : leavesP (items q (t.sized s)) = leavesP (items q t) := by
  obtain ⟨r, h1, h2⟩ := items_sized q s t
  rw [h1, h2]
  unfold leavesP
  simp only [List.filter_cons, show (t.sized s).kind = t.kind from rfl]
  split
  · simp only [List.map_cons, show (t.sized s).pane = t.pane from rfl]
  · rfl
theorem made_leaf {p : Int} (s : Int) (hp : isPaneB p = true) (k c : Int) : MadeIn k c (leafP p s) := by
  intro q _ e he
  unfold leafP items itemsL at he
  obtain rfl := List.mem_singleton.1 he
  simp [madeR, Tr.kind, Tr.kids, Tr.pane, hp]
theorem cells_other {k k' : Int} (hk : (k = 1 ∧ k' = 2) ∨ (k = 2 ∧ k' = 1)) (q : Rc) (s : Int) : (q.cut k s).cells k' = q.cells k' ∧ ((q.cut k s).on k s).cells k' = q.cells k' := by
  rcases hk with ⟨rfl, rfl⟩ | ⟨rfl, rfl⟩ <;> simp [Rc.cut, Rc.on, Rc.cells]
theorem made_kids {k k' c : Int} (hk : (k = 1 ∧ k' = 2) ∨ (k = 2 ∧ k' = 1)) : ∀ (l : List Tr), (∀ t ∈ l, MadeIn k' c t) → ∀ q : Rc, q.cells k' = c → ∀ e ∈ itemsL k q l, madeR e.1 e.2 = true
  | [], _, q, _, e, he => by cases he
  | t :: r, h, q, hq, e, he => by
    unfold itemsL at he
    obtain ⟨h1, h2⟩ := cells_other hk q t.size
    rcases List.mem_append.1 he with he | he
    · exact h t (List.mem_cons_self ..) _ (h1.trans hq) e he
    · exact made_kids hk r (fun u hu => h u (List.mem_cons_of_mem _ hu)) _ (h2.trans hq) e he
/-- A tree of kids that are made right, whose sizes are right. -/
theorem made_tree {k k' : Int} (hk : (k = 1 ∧ k' = 2) ∨ (k = 2 ∧ k' = 1)) {l : List Tr} {q : Rc} (hl : 2 ≤ l.length) (hl' : l.length ≤ 8) (hm : ∀ t ∈ l, MadeIn k' (q.cells k') t) (h0 : 0 ≤ q.cells k) (h80 : q.cells k ≤ 1000)
    (hs : ∀ t ∈ l, t.kind ≠ k ∧ 1 ≤ t.size) (hsum : sumS l = q.cells k + 1 - l.length) (s : Int) : ∀ e ∈ items q (.mk k 0 s l), madeR e.1 e.2 = true := by
  intro e he
  unfold items at he
  rcases List.mem_cons.1 he with rfl | he
  · unfold madeR
    have : ({ q with pane := 0 } : Rc).cells k = q.cells k := by unfold Rc.cells; split <;> rfl
    rw [if_neg (by simp only [Tr.kind]; omega), if_pos (by simp only [Tr.kind]; omega)]
    simp only [Tr.kind, Tr.kids, Tr.pane, this, fillT_of (by omega) (by omega) h0 h80 hs hsum, decide_true, Bool.true_and, Bool.and_true]
    exact decide_eq_true hl
  · have : ({ q with pane := 0 } : Rc).cells k' = q.cells k' := by unfold Rc.cells; split <;> rfl
    exact made_kids hk l hm _ this e he
theorem sharedT_made {k k' : Int} (hk : (k = 1 ∧ k' = 2) ∨ (k = 2 ∧ k' = 1)) {c : Nat} {l : List Tr} {t : Tr} {q : Rc} (h : sharedT k c l = some t) (hl : 1 ≤ l.length) (hl' : l.length ≤ 8) (hc : c ≤ 80) (hq : q.cells k = c)
    (hm : ∀ u ∈ l, MadeIn k' (q.cells k') u) (hkk : 2 ≤ l.length → ∀ u ∈ l, u.kind ≠ k) (h1 : l.length = 1 → ∀ u ∈ l, ∀ e ∈ items q u, madeR e.1 e.2 = true) : ∀ e ∈ items q t, madeR e.1 e.2 = true := by
  unfold sharedT at h
  split at h
  · rename_i e1
    obtain ⟨u, rfl⟩ := List.length_eq_one_iff.1 e1
    cases h
    exact h1 rfl _ (List.mem_cons_self ..)
  · split at h
    · rename_i hn hr
      cases h
      refine made_tree hk (by rw [dealT_length]; omega) (by rw [dealT_length]; omega) (fun u hu => ?_) (by omega) (by omega) (fun u hu => ?_) ?_ 0
      · obtain ⟨v, hv, i, rfl⟩ := deal_mem hu
        exact (hm v hv).sized _
      · obtain ⟨v, hv, i, rfl⟩ := deal_mem hu
        exact ⟨hkk (by omega) v hv, by have := share_pos (i := i) hl hr; simp only [Tr.sized, Tr.size]; omega⟩
      · rw [dealT_length, hq]
        unfold dealT
        rw [sumS_deal _ _ (by rw [evenL_length]), even_sum hc hl hl' hr]
    · cases h
theorem leaves_line (k : Int) : ∀ (l : List Tr) (q : Rc) (f : Tr → List Int), (∀ t ∈ l, ∀ q, leavesP (items q t) = f t) → leavesP (itemsL k q l) = l.flatMap f
  | [], _, _, _ => rfl
  | t :: r, q, f, h => by
    unfold itemsL
    rw [leavesP_append, h t (List.mem_cons_self ..), leaves_line k r _ f fun u hu => h u (List.mem_cons_of_mem _ hu)]
    rfl
theorem leaves_tree {k s : Int} (hk : k ≠ 0) (l : List Tr) (q : Rc) (f : Tr → List Int) (h : ∀ t ∈ l, ∀ q, leavesP (items q t) = f t) : leavesP (items q (.mk k 0 s l)) = l.flatMap f := by
  unfold items
  have : ∀ (e : Tr × Rc) r, e.1.kind ≠ 0 → leavesP (e :: r) = leavesP r := fun e r h => by simp [leavesP, h]
  exact (this (.mk k 0 s l, { q with pane := 0 }) _ hk).trans (leaves_line k l _ f h)
theorem leaves_leaf (p s : Int) (q : Rc) : leavesP (items q (leafP p s)) = [p] := by
  unfold leafP items itemsL leavesP
  simp [Tr.kind, Tr.pane]
end Go.Proofs.Ytglfolbimafcaaa
