/- Layer 12, plain: what lies so may be, has just these panes, and lies so; where there is room. -/
import Derived.Test.YtglfolbimafcaaaPresetMQ
namespace Go.Proofs.Ytglfolbimafcaaa
open Go.RowKit

mutual
theorem leaves_same : ∀ (t : Tr) (q q' : Rc), leavesP (items q t) = leavesP (items q' t)
  | .mk k p s l, q, q' => by
    unfold items
    have : ∀ (e : Tr × Rc) r, leavesP (e :: r) = (if e.1.kind = 0 then [e.1.pane] else []) ++ leavesP r := fun e r => by unfold leavesP; simp only [List.filter_cons]; split <;> simp_all
    rw [this, this, leavesL_same l k _ { q' with pane := p }]
theorem leavesL_same : ∀ (l : List Tr) (k : Int) (q q' : Rc), leavesP (itemsL k q l) = leavesP (itemsL k q' l)
  | [], _, _, _ => rfl
  | t :: r, k, q, q' => by
    unfold itemsL
    rw [leavesP_append, leavesP_append, leaves_same t _ (q'.cut k t.size), leavesL_same r k _ ((q'.cut k t.size).on k t.size)]
end
def q00 : Rc := ⟨0, 0, 0, 0, 0⟩
/-- The panes of a tree, in order. -/
def panesT (t : Tr) : List Int := leavesP (items q00 t)
theorem panesT_any (q : Rc) (t : Tr) : leavesP (items q t) = panesT t := leaves_same t q q00
theorem panesT_sized (t : Tr) (s : Int) : panesT (t.sized s) = panesT t := leaves_sized _ _ _
theorem panesT_leaf (p s : Int) : panesT (leafP p s) = [p] := leaves_leaf _ _ _
theorem panesT_tree {k s : Int} (hk : k ≠ 0) (l : List Tr) : panesT (.mk k 0 s l) = l.flatMap panesT := leaves_tree hk l _ _ fun t _ q => panesT_any q t
theorem panes_zip : ∀ (l : List Tr) (s : List Int), l.length = s.length → (List.zipWith Tr.sized l s).flatMap panesT = l.flatMap panesT
  | [], [], _ => rfl
  | t :: l, x :: s, h => by
    rw [List.zipWith_cons_cons, List.flatMap_cons, List.flatMap_cons, panesT_sized, panes_zip l s (by simpa using h)]
  | [], _ :: _, h => by simp at h
  | _ :: _, [], h => by simp at h
theorem shared_panes {k : Int} (hk : k ≠ 0) {c : Nat} {l : List Tr} {t : Tr} (h : sharedT k c l = some t) : panesT t = l.flatMap panesT := by
  unfold sharedT at h
  split at h
  · rename_i e1
    obtain ⟨u, rfl⟩ := List.length_eq_one_iff.1 e1
    cases h
    simp
  · split at h
    · cases h
      rw [panesT_tree hk]
      exact panes_zip l _ (by rw [evenL_length])
    · cases h
theorem line_panes {k : Int} (hk : k ≠ 0) {c : Nat} {ps : List Int} {t : Tr} (h : lineT k c ps = some t) : panesT t = ps := by
  rw [shared_panes hk h, List.flatMap_map]
  clear h
  induction ps with
  | nil => rfl
  | cons p ps ih => rw [List.flatMap_cons, ih, panesT_leaf]; rfl
theorem shared_kind {k : Int} {c : Nat} {l : List Tr} {t : Tr} (h : sharedT k c l = some t) : t.kind = k ∨ t ∈ l := by
  unfold sharedT at h
  split at h
  · rename_i e1
    obtain ⟨u, rfl⟩ := List.length_eq_one_iff.1 e1
    cases h
    exact .inr (List.mem_cons_self ..)
  · split at h
    · cases h; exact .inl rfl
    · cases h
theorem line_kind {k : Int} {c : Nat} {ps : List Int} {t : Tr} (h : lineT k c ps = some t) : t.kind = k ∨ t.kind = 0 := by
  rcases shared_kind h with h | h
  · exact .inl h
  · obtain ⟨p, _, rfl⟩ := List.mem_map.1 h
    exact .inr rfl
theorem line_made {k k' : Int} (hk : (k = 1 ∧ k' = 2) ∨ (k = 2 ∧ k' = 1)) {c : Nat} {ps : List Int} {t : Tr} (h : lineT k c ps = some t) (hl : 1 ≤ ps.length) (hl' : ps.length ≤ 8) (hc : c ≤ 80) (hp : ∀ p ∈ ps, isPaneB p = true) : MadeIn k c t := by
  intro q hq
  refine sharedT_made hk h (by simpa using hl) (by simpa using hl') hc hq (fun u hu => ?_) (fun _ u hu => ?_) fun _ u hu => ?_
  · obtain ⟨p, hp', rfl⟩ := List.mem_map.1 hu
    exact made_leaf 0 (hp p hp') _ _
  · obtain ⟨p, hp', rfl⟩ := List.mem_map.1 hu
    show (0 : Int) ≠ k
    omega
  · obtain ⟨p, hp', rfl⟩ := List.mem_map.1 hu
    exact made_leaf 0 (hp p hp') k c q hq
theorem main_some {k : Int} {c : Nat} {ps : List Int} {lay : List Int → Option Tr} {t : Tr} (h : mainT k c ps lay = some t) : (∃ p, ps = [p] ∧ t = leafP p 0) ∨ ∃ p r o, ps = p :: r ∧ r ≠ [] ∧ lay r = some o ∧ 1 ≤ halfN c ∧ t = .mk k 0 0 [leafP p ((c - 1 - halfN c : Nat) : Int), o.sized (halfN c)] := by
  unfold mainT at h
  split at h
  · cases h
  · rename_i p r
    split at h
    · rename_i hr
      cases h
      exact .inl ⟨p, by rw [hr], rfl⟩
    · rename_i hr
      unfold halvedT at h
      split at h
      · cases h
      · rename_i o ho
        split at h
        · cases h
        · rename_i hh
          cases h
          exact .inr ⟨p, r, o, rfl, hr, ho, by omega, rfl⟩
theorem chunk_flat (n : Nat) (hn : 1 ≤ n) : ∀ (f : Nat) (l : List Int), l.length ≤ f → (chunkL n f l).flatten = l ∧ (chunkL n f l).length ≤ l.length ∧ (∀ x ∈ chunkL n f l, x ≠ [] ∧ x.length ≤ n ∧ ∀ y ∈ x, y ∈ l)
  | 0, l, h => by
    have : l = [] := List.length_eq_zero_iff.1 (by omega)
    subst this
    exact ⟨rfl, Nat.le_refl _, fun x hx => (nomatch hx)⟩
  | f + 1, l, h => by
    unfold chunkL
    by_cases hl : l = []
    · rw [if_pos hl, hl]
      exact ⟨rfl, Nat.le_refl _, fun x hx => (nomatch hx)⟩
    · rw [if_neg hl]
      have hp : 1 ≤ l.length := List.length_pos_iff.2 hl
      obtain ⟨a, b, c⟩ := chunk_flat n hn f (l.drop n) (by rw [List.length_drop]; omega)
      rw [List.length_drop] at b
      refine ⟨by rw [List.flatten_cons, a, List.take_append_drop], by rw [List.length_cons]; omega, fun x hx => ?_⟩
      rcases List.mem_cons.1 hx with rfl | hx
      · refine ⟨fun e => ?_, by rw [List.length_take]; omega, fun y hy => List.mem_of_mem_take hy⟩
        have := congrArg List.length e
        rw [List.length_take, List.length_nil] at this
        omega
      · obtain ⟨c1, c2, c3⟩ := c x hx
        exact ⟨c1, c2, fun y hy => List.mem_of_mem_drop (c3 y hy)⟩
theorem allT_some {f : List Int → Option Tr} : ∀ {cs : List (List Int)} {l : List Tr}, allT (cs.map f) = some l → l.length = cs.length ∧ (∀ u ∈ l, ∃ x ∈ cs, f x = some u) ∧ ∀ g : List Int → List Int, (∀ x u, x ∈ cs → f x = some u → panesT u = g x) → l.flatMap panesT = cs.flatMap g
  | [], l, h => by
    cases h
    exact ⟨rfl, fun u hu => (nomatch hu), fun g _ => rfl⟩
  | x :: cs, l, h => by
    rw [List.map_cons] at h
    cases hx : f x with
    | none => rw [hx] at h; cases h
    | some t =>
      rw [hx] at h
      unfold allT at h
      split at h
      · cases h
      · rename_i l' hl'
        cases h
        obtain ⟨a, b, c⟩ := allT_some hl'
        refine ⟨by simp [a], fun u hu => ?_, fun g hg => ?_⟩
        · rcases List.mem_cons.1 hu with rfl | hu
          · exact ⟨x, List.mem_cons_self .., hx⟩
          · obtain ⟨y, hy, e⟩ := b u hu
            exact ⟨y, List.mem_cons_of_mem _ hy, e⟩
        · rw [List.flatMap_cons, List.flatMap_cons, hg x t (List.mem_cons_self ..) hx, c g fun y u hy => hg y u (List.mem_cons_of_mem _ hy)]
theorem rootN_le (n : Nat) (h : n ≤ 8) : rootN n ≤ 3 := by unfold rootN; split; omega; split <;> omega
theorem rootN_pos (n : Nat) (h : 1 ≤ n) : 1 ≤ rootN n := by unfold rootN; split; omega; split <;> omega
theorem mayP_iff {ps : List Int} {w h : Int} : mayP ps w h = true ↔ (1 ≤ ps.length ∧ ps.length ≤ 8) ∧ (1 ≤ w ∧ w ≤ 80 ∧ 1 ≤ h ∧ h ≤ 50) ∧ ps.Nodup ∧ ∀ p ∈ ps, isPaneB p = true := by
  simp only [mayP, Bool.and_eq_true, decide_eq_true_eq, List.all_eq_true, sizeB_iff]
  exact ⟨fun ⟨⟨⟨a, b⟩, c⟩, d⟩ => ⟨a, b, c, d⟩, fun ⟨a, b, c, d⟩ => ⟨⟨⟨a, b⟩, c⟩, d⟩⟩
/-- What lies so has just these panes, and all in it is made right. -/
theorem lay_made {ps : List Int} {how : Int} {w h : Nat} {t : Tr} (hm : mayP ps w h = true) (hl : layT ps how w h = some t) : panesT t = ps ∧ ∀ e ∈ items ⟨0, 0, 0, w, h⟩ t, madeR e.1 e.2 = true := by
  obtain ⟨⟨l1, l8⟩, ⟨w1, w80, h1, h50⟩, hn, hp⟩ := mayP_iff.1 hm
  have cw : (⟨0, 0, 0, w, h⟩ : Rc).cells 1 = (w : Int) := rfl
  have ch : (⟨0, 0, 0, w, h⟩ : Rc).cells 2 = (h : Int) := rfl
  have main : ∀ (k k' : Int) (c c' : Nat), ((k = 1 ∧ k' = 2) ∨ (k = 2 ∧ k' = 1)) → c ≤ 80 → c' ≤ 80 → (⟨0, 0, 0, w, h⟩ : Rc).cells k = (c : Int) → (⟨0, 0, 0, w, h⟩ : Rc).cells k' = (c' : Int) → mainT k c ps (lineT k' c') = some t → panesT t = ps ∧ ∀ e ∈ items ⟨0, 0, 0, w, h⟩ t, madeR e.1 e.2 = true := by
    intro k k' c c' hk hc hc' hq hq' ht
    rcases main_some ht with ⟨p, rfl, rfl⟩ | ⟨p, r, o, rfl, hr, ho, hh, rfl⟩
    · exact ⟨panesT_leaf _ _, made_leaf 0 (hp p (List.mem_cons_self ..)) k c _ hq⟩
    · have hr1 : 1 ≤ r.length := List.length_pos_iff.2 hr
      have hk0 : k' ≠ 0 := by omega
      refine ⟨?_, ?_⟩
      · rw [panesT_tree (by omega), List.flatMap_cons, List.flatMap_cons, panesT_leaf, panesT_sized, line_panes hk0 ho]
        simp
      · have hmo := line_made (k := k') (k' := k) (by omega) ho hr1 (by simp at l8; omega) hc' fun p hp' => hp p (List.mem_cons_of_mem _ hp')
        refine made_tree hk (by simp) (by simp) (fun u hu => ?_) (by omega) (by omega) (fun u hu => ?_) ?_ 0
        · rw [hq']
          simp only [List.mem_cons, List.mem_nil_iff, or_false] at hu
          rcases hu with rfl | rfl
          · exact made_leaf _ (hp p (List.mem_cons_self ..)) _ _
          · exact hmo.sized _
        · have hkd := line_kind ho
          simp only [List.mem_cons, List.mem_nil_iff, or_false] at hu
          rcases hu with rfl | rfl
          · unfold halfN at hh ⊢
            refine ⟨by show (0 : Int) ≠ k; omega, ?_⟩
            simp only [leafP, Tr.size]
            omega
          · refine ⟨by show o.kind ≠ k; omega, ?_⟩
            simp only [Tr.sized, Tr.size]
            omega
        · rw [hq]
          unfold halfN at hh ⊢
          simp only [sumS, leafP, Tr.sized, Tr.size, List.length_cons, List.length_nil]
          omega
  unfold layT at hl
  split at hl
  · exact ⟨line_panes (by decide) hl, line_made (.inl ⟨rfl, rfl⟩) hl l1 l8 (by omega) hp _ cw⟩
  split at hl
  · exact ⟨line_panes (by decide) hl, line_made (.inr ⟨rfl, rfl⟩) hl l1 l8 (by omega) hp _ ch⟩
  split at hl
  · exact main 1 2 w h (.inl ⟨rfl, rfl⟩) (by omega) (by omega) cw ch hl
  split at hl
  · exact main 2 1 h w (.inr ⟨rfl, rfl⟩) (by omega) (by omega) ch cw hl
  unfold rowsT at hl
  split at hl
  · cases hl
  rename_i l ha
  obtain ⟨c1, c2, c3⟩ := chunk_flat (rootN ps.length) (rootN_pos _ l1) ps.length ps (Nat.le_refl _)
  obtain ⟨a1, a2, a3⟩ := allT_some ha
  have hln : 1 ≤ l.length := by
    rw [a1]
    refine List.length_pos_iff.2 fun e => ?_
    rw [e] at c1
    rw [← c1] at l1
    simp at l1
  have hrow : ∀ u ∈ l, MadeIn 1 w u ∧ (u.kind = 1 ∨ u.kind = 0) := fun u hu => by
    obtain ⟨x, hx, e⟩ := a2 u hu
    obtain ⟨d1, d2, d3⟩ := c3 x hx
    have := rootN_le _ l8
    exact ⟨line_made (.inl ⟨rfl, rfl⟩) e (List.length_pos_iff.2 d1) (by omega) (by omega) fun p hp' => hp p (d3 p hp'), line_kind e⟩
  refine ⟨?_, ?_⟩
  · rw [shared_panes (by decide) hl, a3 id fun x u _ e => line_panes (by decide) e, List.flatMap_id, c1]
  · exact sharedT_made (.inr ⟨rfl, rfl⟩) hl hln (by omega) (by omega) ch (fun u hu => (hrow u hu).1) (fun _ u hu => by have := (hrow u hu).2; omega) fun _ u hu => (hrow u hu).1 _ cw
theorem items_pane : ∀ (t : Tr) (q : Rc), (∀ e ∈ items q t, e.2.pane = e.1.pane) := by
  intro t
  refine Tr.rec (motive_1 := fun t => ∀ q : Rc, ∀ e ∈ items q t, e.2.pane = e.1.pane) (motive_2 := fun l => ∀ (k : Int) (q : Rc), ∀ e ∈ itemsL k q l, e.2.pane = e.1.pane) ?_ ?_ ?_ t
  · intro k p s l ih q e he
    unfold items at he
    rcases List.mem_cons.1 he with rfl | he
    · rfl
    · exact ih _ _ e he
  · intro k q e he
    cases he
  · intro t l ih1 ih2 k q e he
    unfold itemsL at he
    rcases List.mem_append.1 he with he | he
    · exact ih1 _ e he
    · exact ih2 _ _ e he
theorem panesOf_pane : ∀ (l : List (Tr × Rc)), (∀ e ∈ l, e.2.pane = e.1.pane) → (panesOf l).map Rc.pane = leavesP l
  | [], _ => rfl
  | e :: l, h => by
    have ih := panesOf_pane l fun u hu => h u (List.mem_cons_of_mem _ hu)
    unfold panesOf leavesP at ih ⊢
    simp only [List.filter_cons]
    split
    · simp only [List.map_cons]; rw [ih, h e (List.mem_cons_self ..)]
    · exact ih
theorem rects_pane (t : Tr) (w h : Int) : (rectsT t w h).map Rc.pane = panesT t := by
  unfold rectsT
  rw [panesOf_pane _ (items_pane t _), panesT_any]
theorem lay_right {ps : List Int} {how : Int} {w h : Nat} {t : Tr} (hm : mayP ps w h = true) (hl : layT ps how w h = some t) : rightB t w h = true ∧ (rectsT t w h).map Rc.pane = ps := by
  obtain ⟨h1, h2⟩ := lay_made hm hl
  obtain ⟨⟨l1, l8⟩, hs, hn, hp⟩ := mayP_iff.1 hm
  refine ⟨?_, (rects_pane t w h).trans h1⟩
  unfold rightB
  rw [sizeB_iff.2 hs, Bool.true_and]
  refine rightGo_of _ _ h2 ?_ ?_
  · rw [panesT_any, h1]; simpa using hn
  · rw [panesT_any, h1]; simpa using l8
/-- Kids that are panes, side by side, or one above the other. -/
theorem side_y : ∀ (l : List Tr) (q : Rc), (∀ u ∈ l, u.kids = []) → ∀ e ∈ itemsL 1 q l, e.2.y = q.y ∧ e.2.h = q.h
  | [], _, _, e, he => by cases he
  | .mk k p s ks :: r, q, h, e, he => by
    have h0 := h _ (List.mem_cons_self ..)
    simp only [Tr.kids] at h0
    subst h0
    rw [itemsL] at he
    rcases List.mem_append.1 he with he | he
    · unfold items itemsL at he
      obtain rfl := List.mem_singleton.1 he
      exact ⟨rfl, rfl⟩
    · have := side_y r ((q.cut 1 s).on 1 s) (fun u hu => h u (List.mem_cons_of_mem _ hu)) e he
      simpa [Rc.cut, Rc.on] using this
theorem pile_x : ∀ (l : List Tr) (q : Rc), (∀ u ∈ l, u.kids = []) → ∀ e ∈ itemsL 2 q l, e.2.x = q.x ∧ e.2.w = q.w
  | [], _, _, e, he => by cases he
  | .mk k p s ks :: r, q, h, e, he => by
    have h0 := h _ (List.mem_cons_self ..)
    simp only [Tr.kids] at h0
    subst h0
    rw [itemsL] at he
    rcases List.mem_append.1 he with he | he
    · unfold items itemsL at he
      obtain rfl := List.mem_singleton.1 he
      exact ⟨rfl, rfl⟩
    · have := pile_x r ((q.cut 2 s).on 2 s) (fun u hu => h u (List.mem_cons_of_mem _ hu)) e he
      simpa [Rc.cut, Rc.on] using this
theorem line_some {k : Int} {c : Nat} {ps : List Int} {t : Tr} (h : lineT k c ps = some t) : (∃ p, t = leafP p 0) ∨ ∃ l, t = .mk k 0 0 l ∧ ∀ u ∈ l, u.kids = [] := by
  unfold lineT sharedT at h
  split at h
  · rename_i e1
    rw [List.length_map] at e1
    obtain ⟨u, rfl⟩ := List.length_eq_one_iff.1 e1
    cases h
    exact .inl ⟨_, rfl⟩
  · split at h
    · cases h
      refine .inr ⟨_, rfl, fun u hu => ?_⟩
      obtain ⟨v, hv, i, rfl⟩ := deal_mem hu
      obtain ⟨p, _, rfl⟩ := List.mem_map.1 hv
      rfl
    · cases h
theorem lay_row {ps : List Int} {w h : Nat} {t : Tr} (hl : layT ps 1 w h = some t) : ∀ r ∈ rectsT t w h, r.h = h ∧ r.y = 0 := by
  intro r hr
  obtain ⟨e, he, _, rfl⟩ := mem_panes hr
  rcases line_some (show lineT 1 w ps = some t from hl) with ⟨p, rfl⟩ | ⟨l, rfl, hk⟩
  · unfold leafP items itemsL at he
    obtain rfl := List.mem_singleton.1 he
    exact ⟨rfl, rfl⟩
  · unfold items at he
    rcases List.mem_cons.1 he with rfl | he
    · exact ⟨rfl, rfl⟩
    · have := side_y l _ hk e he
      exact ⟨this.2, this.1⟩
theorem lay_pile {ps : List Int} {w h : Nat} {t : Tr} (hl : layT ps 2 w h = some t) : ∀ r ∈ rectsT t w h, r.w = w ∧ r.x = 0 := by
  intro r hr
  obtain ⟨e, he, _, rfl⟩ := mem_panes hr
  rcases line_some (show lineT 2 h ps = some t from hl) with ⟨p, rfl⟩ | ⟨l, rfl, hk⟩
  · unfold leafP items itemsL at he
    obtain rfl := List.mem_singleton.1 he
    exact ⟨rfl, rfl⟩
  · unfold items at he
    rcases List.mem_cons.1 he with rfl | he
    · exact ⟨rfl, rfl⟩
    · have := pile_x l _ hk e he
      exact ⟨this.2, this.1⟩
theorem lay_main {ps : List Int} {how : Int} {w h : Nat} {t : Tr} (hh : how = 3 ∨ how = 4) (hl : layT ps how w h = some t) : ∃ r l, rectsT t w h = r :: l ∧ r.x = 0 ∧ r.y = 0 := by
  have main : ∀ (k : Int) (c : Nat) lay, k ≠ 0 → mainT k c ps lay = some t → ∃ r l, rectsT t w h = r :: l ∧ r.x = 0 ∧ r.y = 0 := by
    intro k c lay hk ht
    rcases main_some ht with ⟨p, rfl, rfl⟩ | ⟨p, r, o, rfl, hr, ho, hh, rfl⟩
    · exact ⟨_, _, rfl, rfl, rfl⟩
    · have h0 : ∀ (e : Tr × Rc) r, e.1.kind ≠ 0 → panesOf (e :: r) = panesOf r := fun e r h => by simp [panesOf, h]
      have h1 : ∀ (e : Tr × Rc) r, e.1.kind = 0 → panesOf (e :: r) = e.2 :: panesOf r := fun e r h => by simp [panesOf, h]
      refine ⟨_, _, (h0 (.mk k 0 0 [leafP p ((c - 1 - halfN c : Nat) : Int), o.sized (halfN c)], ⟨0, 0, 0, w, h⟩) _ hk).trans (h1 (leafP p ((c - 1 - halfN c : Nat) : Int), _) _ rfl), ?_, ?_⟩ <;> (simp only [Rc.cut]; split <;> rfl)
  rcases hh with rfl | rfl
  · exact main 1 w _ (by decide) hl
  · exact main 2 h _ (by decide) hl
/-- In a window that is large enough there is room. -/
theorem shared_room {k : Int} {c : Nat} {l : List Tr} (hl : 1 ≤ l.length) (hr : l.length = 1 ∨ roomB c l.length = true) : ∃ t, sharedT k c l = some t := by
  unfold sharedT
  split
  · rename_i e1
    obtain ⟨u, rfl⟩ := List.length_eq_one_iff.1 e1
    exact ⟨_, rfl⟩
  · rename_i h1
    rw [if_pos (hr.resolve_left h1)]
    exact ⟨_, rfl⟩
theorem line_room {k : Int} {c : Nat} {ps : List Int} (hl : 1 ≤ ps.length) (hl' : ps.length ≤ 8) (hc : 15 ≤ c) : ∃ t, lineT k c ps = some t :=
  shared_room (by simpa using hl) (.inr (by unfold roomB; rw [List.length_map]; exact decide_eq_true (by omega)))
theorem allT_room {f : List Int → Option Tr} : ∀ (cs : List (List Int)), (∀ x ∈ cs, ∃ t, f x = some t) → ∃ l, allT (cs.map f) = some l
  | [], _ => ⟨[], rfl⟩
  | x :: cs, h => by
    obtain ⟨t, ht⟩ := h x (List.mem_cons_self ..)
    obtain ⟨l, hl⟩ := allT_room cs fun y hy => h y (List.mem_cons_of_mem _ hy)
    exact ⟨t :: l, by rw [List.map_cons, ht]; unfold allT; rw [hl]⟩
theorem lay_room {ps : List Int} {how : Int} {w h : Nat} (hm : mayP ps w h = true) (hw : 15 ≤ w) (hh : 15 ≤ h) : ∃ t, layT ps how w h = some t := by
  obtain ⟨⟨l1, l8⟩, hs, hn, hp⟩ := mayP_iff.1 hm
  have main : ∀ (k k' : Int) (c c' : Nat), 15 ≤ c → 15 ≤ c' → ∃ t, mainT k c ps (lineT k' c') = some t := by
    intro k k' c c' hc hc'
    unfold mainT
    split
    · simp at l1
    · rename_i p r
      split
      · exact ⟨_, rfl⟩
      · rename_i hr
        obtain ⟨o, ho⟩ := line_room (k := k') (c := c') (List.length_pos_iff.2 hr) (by simp at l8; omega) hc'
        unfold halvedT
        rw [ho]
        simp only
        rw [if_neg (by unfold halfN; omega)]
        exact ⟨_, rfl⟩
  unfold layT
  split
  · exact line_room l1 l8 hw
  split
  · exact line_room l1 l8 hh
  split
  · exact main _ _ _ _ hw hh
  split
  · exact main _ _ _ _ hh hw
  obtain ⟨c1, c2, c3⟩ := chunk_flat (rootN ps.length) (rootN_pos _ l1) ps.length ps (Nat.le_refl _)
  have hroot := rootN_le _ l8
  obtain ⟨l, hl⟩ := allT_room (f := lineT 1 w) (chunkL (rootN ps.length) ps.length ps) fun x hx => by
    obtain ⟨d1, d2, _⟩ := c3 x hx
    exact line_room (List.length_pos_iff.2 d1) (by omega) hw
  obtain ⟨a1, _, _⟩ := allT_some hl
  unfold rowsT
  rw [hl]
  simp only
  have hln : 1 ≤ l.length := by
    rw [a1]
    refine List.length_pos_iff.2 fun e => ?_
    rw [e] at c1
    rw [← c1] at l1
    simp at l1
  exact shared_room hln (.inr (by unfold roomB; exact decide_eq_true (by omega)))
end Go.Proofs.Ytglfolbimafcaaa
