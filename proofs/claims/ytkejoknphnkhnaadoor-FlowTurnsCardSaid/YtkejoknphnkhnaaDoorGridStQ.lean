/- What the law GridStays wants: what is done leaves a grid that may be, of the same size. -/
/- What the walk of GridStays wants. Made by wip/gen/gridStays.py. -/
import Derived.Test.YtkejoknphnkhnaaDoorGridUpQ
import Derived.Test.YtkejoknphnkhnaaDoorGridInsQ
import Derived.Test.YtkejoknphnkhnaaDoorGridLineQ
import Derived.Test.YtkejoknphnkhnaaDoorGridMnQ
import Derived.Test.YtkejoknphnkhnaaDoorGridRbQ
import Derived.Deep.RegionWith
namespace Go.Proofs.YtkejoknphnkhnaaDoor
open Go.RowKit

theorem mem_set {α : Type} {l : List α} {i : Nat} {a x : α} (h : x ∈ l.set i a) : x ∈ l ∨ x = a := List.mem_or_eq_of_mem_set h
theorem putL_mem {l : List Ce} {q : Nat} {c x : Ce} (h : x ∈ putL l q c) : x ∈ l ∨ x = c ∨ x = rhC c.at := by
  unfold putL at h
  split at h
  · rcases mem_set h with h | h
    · rcases mem_set h with h | h
      · exact .inl h
      · exact .inr (.inl h)
    · exact .inr (.inr h)
  · rcases mem_set h with h | h
    · exact .inl h
    · exact .inr (.inl h)
theorem eraseL_mem {l : List Ce} {o n : Nat} {a : At} {x : Ce} (h : x ∈ eraseL l o n a) : x ∈ l ∨ x = blkC a := by
  unfold eraseL at h
  rw [List.mem_append, List.mem_append] at h
  rcases h with h | h | h
  · exact .inl (List.mem_of_mem_take h)
  · exact .inr (List.eq_of_mem_replicate h)
  · exact .inl (List.mem_of_mem_drop h)
theorem putAll_mem : ∀ (m l : List Ce) (k : Nat) {x : Ce}, x ∈ putAll l k m → x ∈ l ∨ x ∈ m
  | [], _, _, _, h => .inl h
  | e :: m, l, k, x, h => by
    rcases putAll_mem m _ _ h with h | h
    · rcases mem_set h with h | h
      · exact .inl h
      · exact .inr (by rw [h]; exact List.mem_cons_self)
    · exact .inr (List.mem_cons_of_mem _ h)
theorem insL_mem {l : List Ce} {k n : Nat} {a : At} {x : Ce} (h : x ∈ insL l k n a) : x ∈ l ∨ x = blkC a := by
  unfold insL at h
  rcases eraseL_mem h with h | h
  · rcases putAll_mem _ _ _ h with h | h
    · exact .inl h
    · exact .inl (List.mem_of_mem_drop (List.mem_of_mem_take h))
  · exact .inr h
theorem delL_mem {l : List Ce} {k n : Nat} {a : At} {x : Ce} (h : x ∈ delL l k n a) : x ∈ l ∨ x = blkC a := by
  unfold delL at h
  rcases eraseL_mem h with h | h
  · rcases putAll_mem _ _ _ h with h | h
    · exact .inl h
    · exact .inl (List.mem_of_mem_drop (List.mem_of_mem_take h))
  · exact .inr h
theorem mendL_keep : ∀ (l : List Ce) (p : Int) (q : Nat) (c : Ce), l[q]? = some c → c.wd ≠ 0 → (c.wd = 2 → ∃ d, l[q + 1]? = some d ∧ d.wd = 0) → (mendL p l)[q]? = some c
  | [], _, _, _, h, _, _ => by simp at h
  | e :: r, p, 0, c, h, h0, h2 => by
    obtain rfl : e = c := by simpa using h
    have hh : hf p e r = false := by
      unfold hf
      by_cases hw : e.wd = 2
      · rw [if_pos hw]
        obtain ⟨d, hd, hd0⟩ := h2 hw
        cases r with
        | nil => simp at hd
        | cons d' r' =>
          obtain rfl : d' = d := by simpa using hd
          simp [hd0]
      · rw [if_neg hw, if_neg h0]
    unfold mendL
    rw [hh]
    rfl
  | e :: r, p, q + 1, c, h, h0, h2 => by
    have h' : r[q]? = some c := by simpa using h
    have h2' : c.wd = 2 → ∃ d, r[q + 1]? = some d ∧ d.wd = 0 := fun hw => by obtain ⟨d, hd, hd0⟩ := h2 hw; exact ⟨d, by simpa using hd, hd0⟩
    unfold mendL
    split
    · rw [List.getElem?_cons_succ]; exact mendL_keep r 1 q c h' h0 h2'
    · rw [List.getElem?_cons_succ]; exact mendL_keep r _ q c h' h0 h2'
theorem putL_keep {cs : List Ce} {q : Nat} {c : Ce} (hq : q < cs.length) (hw : c.wd = 2 → q + 1 < cs.length) (h0 : c.wd ≠ 0) : (mendL 1 (putL cs q c))[q]? = some c := by
  have h1 : (putL cs q c)[q]? = some c := by
    unfold putL
    split
    · rw [List.getElem?_set_ne (by omega), List.getElem?_set_self hq]
    · rw [List.getElem?_set_self hq]
  refine mendL_keep _ _ _ _ h1 h0 fun h2 => ⟨rhC c.at, ?_, rfl⟩
  unfold putL
  rw [if_pos h2, List.getElem?_set_self (by rw [List.length_set]; exact hw h2)]

/-- A grid that may be, of the same size, whose other lines, and which lines go on, are as they were. -/
def Stay (cols row : Int) (lv lv' : List (Ln × Value)) : Prop :=
  mayB cols lv' = true ∧ lv'.length = lv.length ∧ ∀ (i : Nat) e e', lv[i]? = some e → lv'[i]? = some e' → ((i : Int) ≠ row → e'.1 = e.1) ∧ e'.1.soft = e.1.soft
theorem map_len {lv : List (Ln × Value)} {ls : List Ln} (h : lv.map Prod.fst = ls) : lv.length = ls.length := by rw [← h, List.length_map]
theorem map_at {lv : List (Ln × Value)} {ls : List Ln} (h : lv.map Prod.fst = ls) {i : Nat} {e : Ln × Value} (he : lv[i]? = some e) : ls[i]? = some e.1 := by rw [← h, List.getElem?_map, he]; rfl
theorem stay_of {cols : Int} {lv lv' : List (Ln × Value)} {r : Nat} {cs X : List Ce} {soft : Bool} {u : Value} (h0 : mayB cols lv = true) (hs : Sm lv) (hx : lv[r]? = some (⟨cs, soft⟩, u)) (hm : lv'.map Prod.fst = (lv.map Prod.fst).set r ⟨mendL 1 X, soft⟩)
    (hX : X.length = cs.length) (hr : rightsL X = true) (hsz : ∀ c ∈ X, c.tx.size ≤ 1000) : Stay cols r lv lv' ∧ Sm lv' := by
  have hf := fits_iff.1 (mayB_at h0 hx)
  simp only at hf
  have hlen : lv'.length = lv.length := by rw [map_len hm, List.length_set, List.length_map]
  have hfit : fitsB cols (mendL 1 X) = true := by
    have := fits_mend hr
    rwa [hX, hf.1] at this
  have hcs : cs.length ≤ 1000 := (hs.2 _ (List.mem_of_getElem? hx)).1
  have hmem : ∀ e ∈ lv', (∃ e0 ∈ lv, e0.1 = e.1) ∨ e.1 = ⟨mendL 1 X, soft⟩ := fun e he => by
    have : e.1 ∈ (lv.map Prod.fst).set r ⟨mendL 1 X, soft⟩ := by rw [← hm]; exact List.mem_map.2 ⟨e, he, rfl⟩
    rcases mem_set this with h | h
    · obtain ⟨e0, h1, h2⟩ := List.mem_map.1 h
      exact .inl ⟨e0, h1, h2⟩
    · exact .inr h
  refine ⟨⟨?_, hlen, fun i e e' he he' => ?_⟩, by have := hs.1; omega, fun e he => ?_⟩
  · unfold mayB at h0 ⊢
    rw [Bool.and_eq_true] at h0 ⊢
    refine ⟨by rw [hlen]; exact h0.1, ?_⟩
    unfold allB at h0 ⊢
    rw [List.all_eq_true] at h0 ⊢
    intro e he
    rcases hmem e he with ⟨e0, h1, h2⟩ | h
    · rw [← h2]; exact h0.2 e0 h1
    · rw [h]; exact hfit
  · have h1 := map_at hm he'
    by_cases hir : r = i
    · subst hir
      rw [hx] at he
      cases he
      have hr' : r < (lv.map Prod.fst).length := by rw [List.length_map]; exact (List.getElem?_eq_some_iff.1 hx).1
      rw [List.getElem?_set_self hr'] at h1
      have h2 := Option.some.inj h1
      exact ⟨fun h => absurd rfl h, by rw [← h2]⟩
    · rw [List.getElem?_set_ne hir, List.getElem?_map, he] at h1
      have h2 : e.1 = e'.1 := Option.some.inj h1
      exact ⟨fun _ => h2.symm, by rw [h2]⟩
  · rcases hmem e he with ⟨e0, h1, h2⟩ | h
    · rw [← h2]; exact hs.2 e0 h1
    · rw [h]
      exact ⟨by show (mendL 1 X).length ≤ 1000; rw [mendL_length, hX]; exact hcs, mend_sizes hsz 1⟩
/-- What a call answered, of such a grid. -/
def SF (W : World) (cols row : Int) (lv : List (Ln × Value)) (xc : Int) (A : Option Addr) (k c : Nat) (xn : Int) : Prop :=
  (xn = 0 ∧ xc = cols ∧ ∃ lv', LR W (.slice A k c) lv' ∧ CesOf W lv' ∧ Sm lv' ∧ Stay cols row lv lv') ∨ (xn ≠ 0 ∧ xc = 0 ∧ (.slice A k c : Value) = .slice none 0 0)
theorem SF.below {W W' : World} {cols row : Int} {lv : List (Ln × Value)} {xc : Int} {A : Option Addr} {k c : Nat} {xn : Int} (h : SF W cols row lv xc A k c xn) (hb : Below W.heap.size W W') : SF W' cols row lv xc A k c xn :=
  h.imp (fun ⟨h1, h2, lv', h3, h4, h5, h6⟩ => ⟨h1, h2, lv', h3.below hb, h4.below hb, h5, h6⟩) id
/-- What was put is there. -/
def PF (W : World) (row col : Int) (ce : Ce) (A : Option Addr) (k c : Nat) (xn : Int) : Prop :=
  xn = 0 → ∃ (lv' : List (Ln × Value)) (r q : Nat) (cs : List Ce) (soft : Bool) (u : Value), row = r ∧ col = q ∧ LR W (.slice A k c) lv' ∧ CesOf W lv' ∧ lv'[r]? = some (⟨cs, soft⟩, u) ∧ cs[q]? = some ce ∧ cs.length ≤ 1000
theorem PF.below {W W' : World} {row col : Int} {ce : Ce} {A : Option Addr} {k c : Nat} {xn : Int} (h : PF W row col ce A k c xn) (hb : Below W.heap.size W W') : PF W' row col ce A k c xn := fun hn => by
  obtain ⟨lv', r, q, cs, soft, u, h1, h2, h3, h4, h5⟩ := h hn
  exact ⟨lv', r, q, cs, soft, u, h1, h2, h3.below hb, h4.below hb, h5⟩
/-- The body of what GOut tells. -/
def GB (W w' : World) (cols : Int) (lv : List (Ln × Value)) (ok : Bool) (n : Int) (tgt : List Ln) (xc : Int) (A : Option Addr) (k c : Nat) (xn : Int) : Prop :=
  (ok = true ∧ xc = cols ∧ xn = 0 ∧ ∃ lv', lv'.map Prod.fst = tgt ∧ LSl w' W.heap.size (.slice A k c) lv' ∧ NewOf w' W.heap.size lv lv') ∨ (ok = false ∧ xc = 0 ∧ (.slice A k c : Value) = .slice none 0 0 ∧ xn = n)
theorem GB.sf {W w' : World} {cols row n : Int} {lv : List (Ln × Value)} {ok : Bool} {tgt : List Ln} {xc : Int} {A : Option Addr} {k c : Nat} {xn : Int} (h : GB W w' cols lv ok n tgt xc A k c xn) (hc : CesOf w' lv) (hn : n ≠ 0)
    (hs : ok = true → ∀ lv', lv'.map Prod.fst = tgt → Stay cols row lv lv' ∧ Sm lv') : SF w' cols row lv xc A k c xn := by
  rcases h with ⟨h1, h2, h3, lv', h4, h5, h6⟩ | ⟨h1, h2, h3, h4⟩
  · obtain ⟨q1, q2⟩ := hs h1 lv' h4
    exact .inl ⟨h3, h2, lv', h5.row, h6.ces hc, q2, q1⟩
  · exact .inr ⟨by rw [h4]; exact hn, h2, h3⟩
theorem put_stay {cols row col : Int} {c : Ce} {lv lv' : List (Ln × Value)} (hs : Sm lv) (ht : c.tx.size ≤ 1000) (h : (putOk cols lv row col c && !roomB cols col c) = true) (hm : lv'.map Prod.fst = putT (lv.map Prod.fst) row col c) : Stay cols row lv lv' ∧ Sm lv' := by
  rw [Bool.and_eq_true, Bool.not_eq_true'] at h
  obtain ⟨r, q, cs, soft, u, rfl, rfl, hx, hrow, hq, hw⟩ := put_parts h.1 h.2
  have hp := h.1
  unfold putOk at hp
  simp only [Bool.and_eq_true] at hp
  obtain ⟨h0, _, _, h3, _⟩ := hp
  have hrc := (fits_iff.1 (mayB_at h0 hx)).2.1
  rw [rights_iff] at hrc
  unfold putT at hm
  rw [hrow, Int.toNat_natCast, Int.toNat_natCast] at hm
  simp only at hm
  refine stay_of h0 hs hx hm (putL_length _ _ _) (rights_iff.2 fun x hx' => ?_) fun x hx' => ?_
  · rcases putL_mem hx' with h | rfl | rfl
    · exact hrc x h
    · exact h3
    · exact right_rh (right_look h3)
  · rcases putL_mem hx' with h | rfl | rfl
    · exact (hs.2 _ (List.mem_of_getElem? hx)).2 x h
    · exact ht
    · exact Nat.zero_le _
theorem put_there {W w' : World} {cols row col n : Int} {ce : Ce} {lv : List (Ln × Value)} {xc : Int} {A : Option Addr} {k c : Nat} {xn : Int} (hs : Sm lv) (hn : n ≠ 0) (hc : CesOf w' lv) (h : GB W w' cols lv (putOk cols lv row col ce && !roomB cols col ce) n (putT (lv.map Prod.fst) row col ce) xc A k c xn) : PF w' row col ce A k c xn := by
  intro h0
  rcases h with ⟨h, _, _, lv', hm, hl, hnew⟩ | ⟨_, _, _, h4⟩
  · rw [Bool.and_eq_true, Bool.not_eq_true'] at h
    obtain ⟨r, q, cs, soft, u, rfl, rfl, hx, hrow, hq, hw⟩ := put_parts h.1 h.2
    have hp := h.1
    unfold putOk at hp
    simp only [Bool.and_eq_true] at hp
    obtain ⟨_, _, _, h3, h4⟩ := hp
    have hwd : ce.wd ≠ 0 := by
      unfold rightB at h3
      rw [Bool.and_eq_true, if_neg (of_decide_eq_true h4), decide_eq_true_iff] at h3
      omega
    unfold putT at hm
    rw [hrow, Int.toNat_natCast, Int.toNat_natCast] at hm
    have hlen : lv'.length = lv.length := by rw [map_len hm, List.length_set, List.length_map]
    have hrl := (List.getElem?_eq_some_iff.1 hx).1
    have hr' : r < lv'.length := by omega
    have hat := List.getElem?_eq_getElem hr'
    have h1 := map_at hm hat
    rw [List.getElem?_set_self (by rw [List.length_map]; exact hrl)] at h1
    have h2 := Option.some.inj h1
    refine ⟨lv', r, q, mendL 1 (putL cs q ce), soft, lv'[r].2, rfl, rfl, hl.row, hnew.ces hc, by rw [hat, h2], putL_keep hq hw hwd, ?_⟩
    rw [mendL_length, putL_length]
    exact (hs.2 _ (List.mem_of_getElem? hx)).1
  · rw [h0] at h4; exact absurd h4.symm hn
theorem erase_stay {cols row fr tt : Int} {a : At} {lv lv' : List (Ln × Value)} (hs : Sm lv) (h : eraseOk cols lv row fr tt a = true) (hm : lv'.map Prod.fst = eraseT (lv.map Prod.fst) row fr tt a) : Stay cols row lv lv' ∧ Sm lv' := by
  unfold eraseOk at h
  simp only [Bool.and_eq_true, decide_eq_true_iff] at h
  obtain ⟨⟨h0, h1⟩, h2, h3, h4, h5⟩ := h
  obtain ⟨r, cs, soft, u, rfl, hx, hrow⟩ := row_there h1
  have hf := fits_iff.1 (mayB_at h0 hx)
  simp only at hf
  have hrc := hf.2.1
  rw [rights_iff] at hrc
  unfold eraseT at hm
  rw [hrow, Int.toNat_natCast] at hm
  simp only at hm
  refine stay_of h0 hs hx hm (eraseL_length _ (by omega)) (rights_iff.2 fun x hx' => ?_) fun x hx' => ?_
  · rcases eraseL_mem hx' with h | rfl
    · exact hrc x h
    · exact right_blk h5
  · rcases eraseL_mem hx' with h | rfl
    · exact (hs.2 _ (List.mem_of_getElem? hx)).2 x h
    · exact Nat.zero_le _
theorem shift_parts {cols row col num : Int} {a : At} {lv : List (Ln × Value)} (h : shiftOk cols lv row col num a = true) :
    mayB cols lv = true ∧ lookB a = true ∧ ∃ (r q : Nat) (cs : List Ce) (soft : Bool) (u : Value), row = r ∧ col = q ∧ lv[r]? = some (⟨cs, soft⟩, u) ∧ rowL (lv.map Prod.fst) row = ⟨cs, soft⟩ ∧ q < cs.length ∧ rightsL cs = true := by
  unfold shiftOk at h
  simp only [Bool.and_eq_true, decide_eq_true_iff] at h
  obtain ⟨h0, h1, h2, h3, h4⟩ := h
  obtain ⟨r, cs, soft, u, hr, hx, hrow⟩ := row_there h1
  have hf := fits_iff.1 (mayB_at h0 hx)
  simp only at hf
  have hcl : 0 ≤ col ∧ col < cols := of_decide_eq_true h2
  exact ⟨h0, h4, r, col.toNat, cs, soft, u, hr, by omega, hx, hrow, by omega, hf.2.1⟩
theorem insert_stay {cols row col num : Int} {a : At} {lv lv' : List (Ln × Value)} (hs : Sm lv) (h : shiftOk cols lv row col num a = true) (hm : lv'.map Prod.fst = insertT (lv.map Prod.fst) row col num a) : Stay cols row lv lv' ∧ Sm lv' := by
  obtain ⟨h0, h5, r, q, cs, soft, u, rfl, rfl, hx, hrow, hq, hrc⟩ := shift_parts h
  rw [rights_iff] at hrc
  unfold insertT at hm
  rw [hrow, Int.toNat_natCast, Int.toNat_natCast] at hm
  simp only at hm
  refine stay_of h0 hs hx hm (by unfold insL; rw [eraseL_length _ (by rw [putAll_length]; omega), putAll_length]) (rights_iff.2 fun x hx' => ?_) fun x hx' => ?_
  · rcases insL_mem hx' with h | rfl
    · exact hrc x h
    · exact right_blk h5
  · rcases insL_mem hx' with h | rfl
    · exact (hs.2 _ (List.mem_of_getElem? hx)).2 x h
    · exact Nat.zero_le _
theorem delete_stay {cols row col num : Int} {a : At} {lv lv' : List (Ln × Value)} (hs : Sm lv) (h : shiftOk cols lv row col num a = true) (hm : lv'.map Prod.fst = deleteT (lv.map Prod.fst) row col num a) : Stay cols row lv lv' ∧ Sm lv' := by
  obtain ⟨h0, h5, r, q, cs, soft, u, rfl, rfl, hx, hrow, hq, hrc⟩ := shift_parts h
  rw [rights_iff] at hrc
  unfold deleteT at hm
  rw [hrow, Int.toNat_natCast, Int.toNat_natCast] at hm
  simp only at hm
  refine stay_of h0 hs hx hm (by unfold delL; rw [eraseL_length _ (by rw [putAll_length]; omega), putAll_length]) (rights_iff.2 fun x hx' => ?_) fun x hx' => ?_
  · rcases delL_mem hx' with h | rfl
    · exact hrc x h
    · exact right_blk h5
  · rcases delL_mem hx' with h | rfl
    · exact (hs.2 _ (List.mem_of_getElem? hx)).2 x h
    · exact Nat.zero_le _
theorem scr_len {ls : List Ln} {f m i cols : Nat} {a : At} (h : f + m ≤ ls.length) : (scrL ls f m i cols a).length = ls.length := by
  unfold scrL
  simp only [List.length_append, List.length_take, List.length_drop, List.length_replicate]
  omega
theorem scr_mem {ls : List Ln} {f m i cols : Nat} {a : At} {x : Ln} (h : x ∈ scrL ls f m i cols a) : x ∈ ls ∨ x = bareN cols a := by
  unfold scrL at h
  have hl : ∀ y ∈ ls.take f ++ ls.drop (f + m), y ∈ ls := fun y hy => (List.mem_append.1 hy).elim List.mem_of_mem_take List.mem_of_mem_drop
  rw [List.mem_append, List.mem_append] at h
  rcases h with (h | h) | h
  · exact .inl (hl x (List.mem_of_mem_take h))
  · exact .inr (List.eq_of_mem_replicate h)
  · exact .inl (hl x (List.mem_of_mem_drop h))
theorem scr_stay {cols : Int} {C f m i : Nat} {a : At} {lv lv' : List (Ln × Value)} (hs : Sm lv) (h0 : mayB cols lv = true) (hC : cols = C) (ha : lookB a = true) (hf : f + m ≤ lv.length) (hm : lv'.map Prod.fst = scrL (lv.map Prod.fst) f m i C a) : mayB cols lv' = true ∧ lv'.length = lv.length ∧ Sm lv' := by
  have hlen : lv'.length = lv.length := by rw [map_len hm, scr_len (by rw [List.length_map]; exact hf), List.length_map]
  have hmem : ∀ e ∈ lv', (∃ e0 ∈ lv, e0.1 = e.1) ∨ e.1 = bareN C a := fun e he => by
    have : e.1 ∈ scrL (lv.map Prod.fst) f m i C a := by rw [← hm]; exact List.mem_map.2 ⟨e, he, rfl⟩
    rcases scr_mem this with h | h
    · obtain ⟨e0, h1, h2⟩ := List.mem_map.1 h
      exact .inl ⟨e0, h1, h2⟩
    · exact .inr h
  have hcc := mayB_cols h0
  refine ⟨?_, hlen, by have := hs.1; omega, fun e he => ?_⟩
  · unfold mayB at h0 ⊢
    rw [Bool.and_eq_true] at h0 ⊢
    refine ⟨by rw [hlen]; exact h0.1, ?_⟩
    unfold allB at h0 ⊢
    rw [List.all_eq_true] at h0 ⊢
    intro e he
    rcases hmem e he with ⟨e0, h1, h2⟩ | h
    · rw [← h2]; exact h0.2 e0 h1
    · rw [h, hC]; exact fits_bare ha C
  · rcases hmem e he with ⟨e0, h1, h2⟩ | h
    · rw [← h2]; exact hs.2 e0 h1
    · rw [h]
      refine ⟨by show (List.replicate C (blkC a)).length ≤ 1000; rw [List.length_replicate]; omega, fun c hc => ?_⟩
      rw [List.eq_of_mem_replicate hc]
      exact Nat.zero_le _
end Go.Proofs.YtkejoknphnkhnaaDoor

namespace Go.Proofs.YtkejoknphnkhnaaDoor
open Go.RowKit

theorem Bxs.push {W : World} {l : List (Nat × TypeId × Array Value)} (h : Bxs W l) {b : Nat} {t : TypeId} {cs : Array Value} (hb : Box W b t cs) : Bxs W (l ++ [(b, t, cs)]) := by
  intro x hx
  rw [List.mem_append, List.mem_singleton] at hx
  rcases hx with hx | rfl
  · exact h x hx
  · exact hb
/-- A call's grid in a box of its own, and what it told. -/
def CallRel (w : World) (cols row : Int) (lv : List (Ln × Value)) (P : World → Option Addr → Nat → Nat → Int → Prop) (b e : Value) (wx : World) : Prop :=
  ∃ q yc A k c xn, b = .pointer (some ⟨q, 0, none⟩) ∧ e = .int .i64 xn ∧ Box wx q 24 #[.int .i64 yc, .slice A k c] ∧ SF wx cols row lv yc A k c xn ∧ P wx A k c xn ∧ Below w.heap.size w wx
/-- What Up, Down answered: a grid that may be, of the same size. -/
def UF (W : World) (cols : Int) (lv : List (Ln × Value)) (ok : Bool) (xc : Int) (A : Option Addr) (k c : Nat) (xn : Int) : Prop :=
  (ok = true ∧ xn = 0 ∧ xc = cols ∧ ∃ lv', LR W (.slice A k c) lv' ∧ CesOf W lv' ∧ Sm lv' ∧ mayB cols lv' = true ∧ lv'.length = lv.length) ∨ (ok = false ∧ xn = 1)
theorem UF.below {W W' : World} {cols : Int} {lv : List (Ln × Value)} {ok : Bool} {xc : Int} {A : Option Addr} {k c : Nat} {xn : Int} (h : UF W cols lv ok xc A k c xn) (hb : Below W.heap.size W W') : UF W' cols lv ok xc A k c xn :=
  h.imp (fun ⟨h1, h2, h3, lv', h4, h5, h6⟩ => ⟨h1, h2, h3, lv', h4.below hb, h5.below hb, h6⟩) id
theorem LR.len {W : World} {A : Option Addr} {k c : Nat} {l : List (Ln × Value)} (h : LR W (.slice A k c) l) : k = l.length := by obtain ⟨A', c', e, _⟩ := h; cases e; rfl
theorem up_uf {w' : World} {cols top bot num : Int} {a : At} {lv : List (Ln × Value)} (hs : Sm lv) {gone : List (Ln × Value)} {xc : Int} {A : Option Addr} {k c : Nat} {B : Option Addr} {j d : Nat} {xn : Int}
    (h : (scrollOk cols lv top bot num a = true ∧ xc = cols ∧ xn = 0 ∧ ∃ lv', lv'.map Prod.fst = upT (lv.map Prod.fst) cols top bot num a ∧ LR w' (.slice A k c) lv' ∧ CesOf w' lv' ∧ LR w' (.slice B j d) gone) ∨ (scrollOk cols lv top bot num a = false ∧ xc = 0 ∧ (.slice A k c : Value) = .slice none 0 0 ∧ (.slice B j d : Value) = .slice none 0 0 ∧ xn = 1)) :
    UF w' cols lv (scrollOk cols lv top bot num a) xc A k c xn := by
  rcases h with ⟨h0, h1, h2, lv', h3, h4, h5, _⟩ | ⟨h0, _, _, _, h4⟩
  · obtain ⟨C, T, Bn, M, hC, rfl, rfl, p1, p2, p3, p4, p5, p6, p7⟩ := scr_parts h0
    have h0' := h0
    unfold scrollOk at h0'
    simp only [Bool.and_eq_true] at h0'
    unfold upT at h3
    rw [hC, p5, Int.toNat_natCast, Int.toNat_natCast, Int.toNat_natCast] at h3
    obtain ⟨q1, q2, q3⟩ := scr_stay hs h0'.1 hC h0'.2.2.2.2.2 (by omega) h3
    exact .inl ⟨h0, h2, h1, lv', h4, h5, q3, q1, q2⟩
  · exact .inr ⟨h0, h4⟩
theorem down_uf {w' : World} {cols top bot num : Int} {a : At} {lv : List (Ln × Value)} (hs : Sm lv) {xc : Int} {A : Option Addr} {k c : Nat} {xn : Int}
    (h : (scrollOk cols lv top bot num a = true ∧ xc = cols ∧ xn = 0 ∧ ∃ lv', lv'.map Prod.fst = downT (lv.map Prod.fst) cols top bot num a ∧ LR w' (.slice A k c) lv' ∧ CesOf w' lv') ∨ (scrollOk cols lv top bot num a = false ∧ xc = 0 ∧ (.slice A k c : Value) = .slice none 0 0 ∧ xn = 1)) :
    UF w' cols lv (scrollOk cols lv top bot num a) xc A k c xn := by
  rcases h with ⟨h0, h1, h2, lv', h3, h4, h5⟩ | ⟨h0, _, _, h4⟩
  · obtain ⟨C, T, Bn, M, hC, rfl, rfl, p1, p2, p3, p4, p5, p6, p7⟩ := scr_parts h0
    have h0' := h0
    unfold scrollOk at h0'
    simp only [Bool.and_eq_true] at h0'
    unfold downT at h3
    rw [hC, p5, Int.toNat_natCast, Int.toNat_natCast, Int.toNat_natCast] at h3
    obtain ⟨q1, q2, q3⟩ := scr_stay hs h0'.1 hC h0'.2.2.2.2.2 (by omega) h3
    exact .inl ⟨h0, h2, h1, lv', h4, h5, q3, q1, q2⟩
  · exact .inr ⟨h0, h4⟩
theorem gone_len {W : World} {B : Option Addr} {j d : Nat} {lv : List (Ln × Value)} {T m M : Nat} {num top bot : Int} (h : LR W (.slice B j d) ((lv.drop top.toNat).take (scrM top bot num))) (ht : top = T) (hb : bot = (lv.length : Int) - 1) (hT : T < lv.length) (hn : num = m) (hM : M = if (m : Int) ≤ (lv.length : Int) - T then m else lv.length - T) : j = M := by
  rw [h.len, List.length_take, List.length_drop, ht, hb, hn, hM, Int.toNat_natCast]
  unfold scrM
  simp only [Int.min_def]
  split <;> split <;> omega
/-- What stands at each place of four. -/
theorem four_at {W : World} {b k : Nat} {t : TypeId} {c0 c1 c2 c3 : Int} {A0 A1 A2 A3 : Option Addr} {k0 k1 k2 k3 d0 d1 d2 d3 : Nat} {e0 e1 e2 e3 : Int} (hb : Box W b t #[.int .i64 c0, .slice A0 k0 d0, .int .i64 c1, .slice A1 k1 d1, .int .i64 c2, .slice A2 k2 d2, .int .i64 c3, .slice A3 k3 d3]) (hk : k < 4)
    {cols row : Int} {lv : List (Ln × Value)} (s0 : SF W cols row lv c0 A0 k0 d0 e0) (s1 : SF W cols row lv c1 A1 k1 d1 e1) (s2 : SF W cols row lv c2 A2 k2 d2 e2) (s3 : SF W cols row lv c3 A3 k3 d3 e3) :
    ∃ xc A j d xn, W.cell? ⟨b, k * 2, none⟩ = some (.int .i64 xc) ∧ W.cell? ⟨b, k * 2 + 1, none⟩ = some (.slice A j d) ∧ (∀ h : k < [Value.int .i64 e0, .int .i64 e1, .int .i64 e2, .int .i64 e3].length, [Value.int .i64 e0, .int .i64 e1, .int .i64 e2, .int .i64 e3][k] = .int .i64 xn) ∧ SF W cols row lv xc A j d xn := by
  rcases (by omega : k = 0 ∨ k = 1 ∨ k = 2 ∨ k = 3) with rfl | rfl | rfl | rfl
  · exact ⟨_, _, _, _, _, hb.cell 0, hb.cell 1, fun _ => rfl, s0⟩
  · exact ⟨_, _, _, _, _, hb.cell 2, hb.cell 3, fun _ => rfl, s1⟩
  · exact ⟨_, _, _, _, _, hb.cell 4, hb.cell 5, fun _ => rfl, s2⟩
  · exact ⟨_, _, _, _, _, hb.cell 6, hb.cell 7, fun _ => rfl, s3⟩
/-- The same, spelled out: a grid that may be, or none. -/
theorem four_is {W : World} {b k n : Nat} {t : TypeId} {c0 c1 c2 c3 : Int} {A0 A1 A2 A3 : Option Addr} {k0 k1 k2 k3 d0 d1 d2 d3 : Nat} {e0 e1 e2 e3 : Int} (hb : Box W b t #[.int .i64 c0, .slice A0 k0 d0, .int .i64 c1, .slice A1 k1 d1, .int .i64 c2, .slice A2 k2 d2, .int .i64 c3, .slice A3 k3 d3]) (hk : k < 4)
    {cols row : Int} {lv : List (Ln × Value)} (s0 : SF W cols row lv c0 A0 k0 d0 e0) (s1 : SF W cols row lv c1 A1 k1 d1 e1) (s2 : SF W cols row lv c2 A2 k2 d2 e2) (s3 : SF W cols row lv c3 A3 k3 d3 e3) (hm : mayB cols lv = true) (hn : lv.length = n) :
    (∃ gx ox d lvx, W.cell? ⟨b, k * 2, none⟩ = some (.int .i64 cols) ∧ W.cell? ⟨b, k * 2 + 1, none⟩ = some (.slice (some ⟨gx, ox, none⟩) n d) ∧ (∀ h : k < [Value.int .i64 e0, .int .i64 e1, .int .i64 e2, .int .i64 e3].length, [Value.int .i64 e0, .int .i64 e1, .int .i64 e2, .int .i64 e3][k] = .int .i64 0) ∧
      LR W (.slice (some ⟨gx, ox, none⟩) n d) lvx ∧ CesOf W lvx ∧ Sm lvx ∧ Stay cols row lv lvx) ∨
    (∃ xc A j d xn, W.cell? ⟨b, k * 2, none⟩ = some (.int .i64 xc) ∧ W.cell? ⟨b, k * 2 + 1, none⟩ = some (.slice A j d) ∧ (∀ h : k < [Value.int .i64 e0, .int .i64 e1, .int .i64 e2, .int .i64 e3].length, [Value.int .i64 e0, .int .i64 e1, .int .i64 e2, .int .i64 e3][k] = .int .i64 xn) ∧ xn ≠ 0) := by
  obtain ⟨xc, A, j, d, xn, h1, h2, h3, h4⟩ := four_at hb hk s0 s1 s2 s3
  rcases h4 with ⟨rfl, rfl, lvx, q1, q2, q3, q4⟩ | ⟨hne, _, _⟩
  · have hl : lvx.length = n := by rw [q4.2.1, hn]
    have hj := q1.len
    rw [hl] at hj
    subst hj
    have hc := (mayB_cols hm).2.1
    have hne : lvx ≠ [] := by
      intro e
      rw [e] at hl
      simp at hl
      omega
    obtain ⟨_, _, he, _, hx⟩ := id q1
    cases he
    obtain ⟨gx, ox, rfl, _, _⟩ := hx hne
    exact .inl ⟨gx, ox, d, lvx, h1, h2, h3, q1, q2, q3, q4⟩
  · exact .inr ⟨xc, A, j, d, xn, h1, h2, h3, hne⟩
theorem LR.first {W : World} {A : Option Addr} {n c : Nat} {l : List (Ln × Value)} (h : LR W (.slice A n c) l) (hn : 0 < l.length) : ∃ g o, A = some ⟨g, o, none⟩ := by
  obtain ⟨_, _, he, _, hx⟩ := h
  cases he
  obtain ⟨g, o, h, _⟩ := hx (by intro e; rw [e] at hn; simp at hn)
  exact ⟨g, o, h⟩
/-- A line of each of two grids, at one place. -/
theorem line_facts {W : World} {cols row : Int} {gx ox gg og n xd c1 k : Nat} {lv lvx : List (Ln × Value)} (hx : LR W (.slice (some ⟨gx, ox, none⟩) n xd) lvx) (cx : CesOf W lvx) (hg : GIn W (.slice (some ⟨gg, og, none⟩) n c1) lv) (hst : Stay cols row lv lvx) (hn : lv.length = n) (hk : k < n) :
    ∃ (Bx : Option Addr) (nx dx : Nat) (Bg : Option Addr) (ng dg : Nat) (s : Bool), gg < W.heap.size ∧ W.cell? ⟨gx, ox + k * 2, none⟩ = some (.slice Bx nx dx) ∧ W.cell? ⟨gx, ox + k * 2 + 1, none⟩ = some (.bool s) ∧ W.cell? ⟨gg, og + k * 2, none⟩ = some (.slice Bg ng dg) ∧ W.cell? ⟨gg, og + k * 2 + 1, none⟩ = some (.bool s) ∧
      ((k : Int) ≠ row → ∀ W', Below W.heap.size W W' → Calls Tryd.prog 48 #[.agg #[.slice Bx nx dx, .bool s], .agg #[.slice Bg ng dg, .bool s]] W' fun e w' => e = .returned (.bool true) ∧ Below W'.heap.size W' w') := by
  have kl2 : k < lv.length := by omega
  have kl1 : k < lvx.length := by rw [hst.2.1]; exact kl2
  have hx1 := List.getElem?_eq_getElem kl1
  have hx2 := List.getElem?_eq_getElem kl2
  obtain ⟨hsame, hsoft⟩ := hst.2.2 k _ _ hx2 hx1
  have e1 := cx lvx[k] (List.getElem_mem _)
  have e2 := hg.ces lv[k] (List.getElem_mem _)
  have hz := (hg.sm.2 lv[k] (List.getElem_mem _)).1
  obtain ⟨_, _, he1, _, hl1⟩ := hx
  have hlx : lvx.length = n := by rw [hst.2.1, hn]
  rw [hlx] at he1
  cases he1
  obtain ⟨g1, o1, hh1, _, hc1⟩ := hl1 (by intro e; rw [e] at kl1; simp at kl1)
  cases hh1
  obtain ⟨p0, p1⟩ := hc1 k _ hx1
  obtain ⟨_, _, he2, _, hl2⟩ := hg.lr
  rw [hn] at he2
  cases he2
  obtain ⟨g2, o2, hh2, hgg, hc2⟩ := hl2 (by intro e; rw [e] at kl2; simp at kl2)
  cases hh2
  obtain ⟨r0, r1⟩ := hc2 k _ hx2
  generalize lvx[k] = x1 at *
  generalize lv[k] = x2 at *
  obtain ⟨⟨csx, sx⟩, ux⟩ := x1
  obtain ⟨⟨csg, sg⟩, ug⟩ := x2
  simp only at hsame hsoft p0 p1 e1 e2 r0 r1 hz
  subst hsoft
  obtain ⟨Bx, dx, rfl⟩ := e1.spell
  obtain ⟨Bg, dg, rfl⟩ := e2.spell
  refine ⟨Bx, _, dx, Bg, _, dg, sx, hgg, p0, p1, r0, r1, fun hne W' hb' => ?_⟩
  have hcs : csx = csg := congrArg Ln.cs (hsame hne)
  subst hcs
  exact rSameLine_eq _ _ _ csx W' (e1.below hb') (e2.below hb') (by omega)
/-- All that a round wants of the world in which a line stands in a box of its own. -/
def LineAll (W : World) (row : Int) (b0 : Nat) (c0 : Int) (gg og n c1 k bl : Nat) (Bx : Option Addr) (nx dx : Nat) (Bg : Option Addr) (ng dg : Nat) (s : Bool) : Prop :=
  Bxs W [(b0, 24, #[.int .i64 c0, .slice (some ⟨gg, og, none⟩) n c1]), (bl, 61, #[.slice Bx nx dx, .bool s])] ∧ gg < W.heap.size ∧ W.cell? ⟨gg, og + k * 2, none⟩ = some (.slice Bg ng dg) ∧ W.cell? ⟨gg, og + k * 2 + 1, none⟩ = some (.bool s) ∧
    ((k : Int) ≠ row → ∀ W', Below W.heap.size W W' → Calls Tryd.prog 48 #[.agg #[.slice Bx nx dx, .bool s], .agg #[.slice Bg ng dg, .bool s]] W' fun e w' => e = .returned (.bool true) ∧ Below W'.heap.size W' w')
theorem LineAll.line {W W' : World} {row c0 : Int} {b0 gg og n c1 k bl nx dx ng dg : Nat} {Bx Bg : Option Addr} {s : Bool} (h : LineAll W row b0 c0 gg og n c1 k bl Bx nx dx Bg ng dg s) (hb : Below W.heap.size W W') : W'.cell? ⟨bl, 0, none⟩ = some (.slice Bx nx dx) ∧ W'.cell? ⟨bl, 1, none⟩ = some (.bool s) := ((h.1.below hb).get 1 rfl).two.1
theorem LineAll.grid {W W' : World} {row c0 : Int} {b0 gg og n c1 k bl nx dx ng dg : Nat} {Bx Bg : Option Addr} {s : Bool} (h : LineAll W row b0 c0 gg og n c1 k bl Bx nx dx Bg ng dg s) (hb : Below W.heap.size W W') : W'.cell? ⟨b0, 0, none⟩ = some (.int .i64 c0) ∧ W'.cell? ⟨b0, 1, none⟩ = some (.slice (some ⟨gg, og, none⟩) n c1) := ((h.1.below hb).get 0 rfl).two.1
theorem LineAll.there {W W' : World} {row c0 : Int} {b0 gg og n c1 k bl nx dx ng dg : Nat} {Bx Bg : Option Addr} {s : Bool} (h : LineAll W row b0 c0 gg og n c1 k bl Bx nx dx Bg ng dg s) (hb : Below W.heap.size W W') : W'.cell? ⟨gg, og + k * 2, none⟩ = some (.slice Bg ng dg) ∧ W'.cell? ⟨gg, og + k * 2 + 1, none⟩ = some (.bool s) :=
  ⟨(hb.cell (p := ⟨gg, og + k * 2, none⟩) h.2.1).trans h.2.2.1, (hb.cell (p := ⟨gg, og + k * 2 + 1, none⟩) h.2.1).trans h.2.2.2.1⟩
theorem line_all {W : World} {cols row c0 : Int} {b0 gx ox gg og n xd c1 k : Nat} {lv lvx : List (Ln × Value)} (hx : LR W (.slice (some ⟨gx, ox, none⟩) n xd) lvx) (cx : CesOf W lvx) (hg : GIn W (.slice (some ⟨gg, og, none⟩) n c1) lv) (hst : Stay cols row lv lvx) (hn : lv.length = n) (hk : k < n) (hb0 : Box W b0 24 #[.int .i64 c0, .slice (some ⟨gg, og, none⟩) n c1]) :
    ∃ (Bx : Option Addr) (nx dx : Nat) (Bg : Option Addr) (ng dg : Nat) (s : Bool), (W.cell? ⟨gx, ox + k * 2, none⟩ = some (.slice Bx nx dx) ∧ W.cell? ⟨gx, ox + k * 2 + 1, none⟩ = some (.bool s)) ∧ LineAll (W.alloc (.cells #[.slice Bx nx dx, .bool s] 61)) row b0 c0 gg og n c1 k W.heap.size Bx nx dx Bg ng dg s := by
  obtain ⟨Bx, nx, dx, Bg, ng, dg, s, h1, h2, h3, h4, h5, h6⟩ := line_facts hx cx hg hst hn hk
  have hbr := below_alloc W (.cells #[.slice Bx nx dx, .bool s] 61)
  refine ⟨Bx, nx, dx, Bg, ng, dg, s, ⟨h2, h3⟩, ?_, Nat.lt_of_lt_of_le h1 hbr.size, (hbr.cell (p := ⟨gg, og + k * 2, none⟩) h1).trans h4, (hbr.cell (p := ⟨gg, og + k * 2 + 1, none⟩) h1).trans h5, fun hne W' hb' => h6 hne W' (hbr.trans (hb'.mono hbr.size))⟩
  intro x hx
  simp only [List.mem_cons, List.mem_nil_iff, or_false] at hx
  rcases hx with rfl | rfl
  · exact hb0.alloc _
  · exact Box.new _ _ _
/-- Where the cell lies that was put. -/
theorem put_at {W : World} {row col : Int} {ce : Ce} {A : Option Addr} {k c : Nat} {xn : Int} (h : PF W row col ce A k c xn) (h0 : xn = 0) :
    ∃ gp op gl ol nl dl : Nat, A = some ⟨gp, op, none⟩ ∧ (0 ≤ row ∧ row < (k : Int)) ∧ (0 ≤ col ∧ col < (nl : Int)) ∧ nl ≤ 1000 ∧ (gp < W.heap.size ∧ gl < W.heap.size) ∧ W.cell? ⟨gp, op + row.toNat * 2, none⟩ = some (.slice (some ⟨gl, ol, none⟩) nl dl) ∧
      (W.cell? ⟨gl, ol + col.toNat * 5, none⟩ = some (.string ce.tx) ∧ W.cell? ⟨gl, ol + col.toNat * 5 + 1, none⟩ = some (.int .i64 ce.wd) ∧ W.cell? ⟨gl, ol + col.toNat * 5 + 2, none⟩ = some (.int .i64 ce.fg) ∧ W.cell? ⟨gl, ol + col.toNat * 5 + 3, none⟩ = some (.int .i64 ce.bg) ∧ W.cell? ⟨gl, ol + col.toNat * 5 + 4, none⟩ = some (.int .i64 ce.fl)) := by
  obtain ⟨lv', r, q, cs, soft, u, rfl, rfl, hl, hc, hx, hq, hlen⟩ := h h0
  have hk := hl.len
  have hr := (List.getElem?_eq_some_iff.1 hx).1
  have hq' := (List.getElem?_eq_some_iff.1 hq).1
  obtain ⟨_, _, he, _, hcell⟩ := hl
  cases he
  obtain ⟨gp, op, rfl, hg, hcell⟩ := hcell (by intro e; rw [e] at hr; simp at hr)
  obtain ⟨p0, _⟩ := hcell r _ hx
  obtain ⟨_, dl, he2, _, hcc⟩ := hc _ (List.mem_of_getElem? hx)
  simp only at he2 hcc
  subst he2
  obtain ⟨gl, ol, rfl, hgl, hcc⟩ := hcc (by intro e; rw [e] at hq'; simp at hq')
  refine ⟨gp, op, gl, ol, cs.length, dl, rfl, by omega, by omega, hlen, ⟨hg, hgl⟩, ?_, ?_⟩
  · rw [Int.toNat_natCast]; exact p0
  · rw [Int.toNat_natCast]; exact ccells (hcc q _ hq)
/-- All that is asked of such a grid. -/
theorem UF.right {W : World} {cols : Int} {lv : List (Ln × Value)} {xc : Int} {A : Option Addr} {k c : Nat} {xn : Int} (h : UF W cols lv true xc A k c xn) (hT : Tab W) (hW : TabW W) :
    xn = 0 ∧ k = lv.length ∧ ∀ W', Below W.heap.size W W' → Calls Tryd.prog 65 #[.agg #[.int .i64 xc, .slice A k c]] W' fun e w' => e = .returned (.bool true) ∧ Below W'.heap.size W' w' := by
  rcases h with ⟨_, h1, h2, lv', h3, h4, h5, h6, h7⟩ | ⟨h, _⟩
  · refine ⟨h1, by rw [h3.len, h7], fun W' hb => ?_⟩
    have hr := pRight_any cols _ lv' W' (h3.below hb) (h4.below hb) h5 (hT.below hb) (hW.below hb)
    rw [show (sizeB cols lv'.length && allB cols lv') = true from h6] at hr
    rw [h2]
    exact hr
  · cases h
theorem UF.none_ {W : World} {cols : Int} {lv : List (Ln × Value)} {xc : Int} {A : Option Addr} {k c : Nat} {xn : Int} (h : UF W cols lv false xc A k c xn) : xn = 1 := by
  rcases h with ⟨h, _⟩ | ⟨_, h⟩
  · cases h
  · exact h
theorem scroll_rows {cols top bot num : Int} {a : At} {lv : List (Ln × Value)} (h : scrollOk cols lv top bot num a = true) : 0 ≤ top ∧ top < lv.length := by
  obtain ⟨C, T, Bn, M, _, rfl, rfl, p1, p2, _⟩ := scr_parts h
  omega
theorem gone_is {w' : World} {cols row : Int} {a : At} {lv : List (Ln × Value)} {m n : Nat} {xc : Int} {A : Option Addr} {k c : Nat} {B : Option Addr} {j d : Nat} {xn : Int} (hn : lv.length = n)
    (h : (scrollOk cols lv row ((n : Int) - 1) m a = true ∧ xc = cols ∧ xn = 0 ∧ ∃ lv', lv'.map Prod.fst = upT (lv.map Prod.fst) cols row ((n : Int) - 1) m a ∧ LR w' (.slice A k c) lv' ∧ CesOf w' lv' ∧ LR w' (.slice B j d) ((lv.drop row.toNat).take (scrM row ((n : Int) - 1) m))) ∨ (scrollOk cols lv row ((n : Int) - 1) m a = false ∧ xc = 0 ∧ (.slice A k c : Value) = .slice none 0 0 ∧ (.slice B j d : Value) = .slice none 0 0 ∧ xn = 1)) :
    scrollOk cols lv row ((n : Int) - 1) m a = true → ((m : Int) ≤ (n : Int) - row → (j : Int) = m) ∧ ((n : Int) - row < (m : Int) → (j : Int) = (n : Int) - row) := by
  intro h0
  have hr := scroll_rows h0
  rcases h with ⟨_, _, _, lv', _, _, _, h4⟩ | ⟨h, _⟩
  · have hj := h4.len
    rw [List.length_take, List.length_drop, hn] at hj
    unfold scrM at hj
    simp only [Int.min_def] at hj
    constructor
    · intro hm; split at hj <;> omega
    · intro hm; split at hj <;> omega
  · rw [h0] at h; cases h
end Go.Proofs.YtkejoknphnkhnaaDoor
