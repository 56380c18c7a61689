/- Layer 6, the package: lines go up, and down. Made by wip/gen/gridUp.py. -/
/- What the law GridStays wants: what is done leaves a grid that may be, of the same size. -/
import Derived.Test.YteebbmmgbjpihaaDoorGridImQ
import Derived.Test.YteebbmmgbjpihaaDoorGridJcQ
import Derived.Test.YteebbmmgbjpihaaDoorGridEraseQ
import Derived.Test.YteebbmmgbjpihaaDoorGridInsQ
import Derived.Deep.DeepCutAuto
import Derived.Test.YteebbmmgbjpihaaDoorGridMnQ
import Derived.Test.YteebbmmgbjpihaaDoorGridRbQ
namespace Go.Proofs.YteebbmmgbjpihaaDoor
open Go.RowKit

/-- Lines shifted: those from f on, m of them, are gone; as many blank ones stand at i of what is left. -/
def scrL (ls : List Ln) (f m i cols : Nat) (a : At) : List Ln := (ls.take f ++ ls.drop (f + m)).take i ++ List.replicate m (bareN cols a) ++ (ls.take f ++ ls.drop (f + m)).drop i
theorem LR.setg {W : World} {b i : Nat} {t : TypeId} {x : Int} {A B : Option Addr} {k c j d : Nat} {l : List (Ln × Value)} (h : LR W (.slice A k c) l) (hb : Box W b t #[.int .i64 x, .slice B j d]) (u : Value) : LR (W.setCell ⟨b, i, none⟩ u) (.slice A k c) l := by
  obtain ⟨A', c', e, hc, hcell⟩ := h
  refine ⟨A', c', e, hc, fun hne => ?_⟩
  obtain ⟨g, o, hA, hg, hcell⟩ := hcell hne
  have hgb : g ≠ b := by
    rintro rfl
    obtain ⟨e, he⟩ := List.exists_mem_of_ne_nil l hne
    obtain ⟨j, hj⟩ := List.mem_iff_getElem?.1 he
    have := (hcell j e hj).2
    rw [hb.cell] at this
    match q : o + j * 2 + 1, this with
    | 0, h => omega
    | 1, h => simp at h
    | n + 2, h => simp at h
  refine ⟨g, o, hA, by rw [size_set]; exact hg, fun j e he => ?_⟩
  have h1 : ∀ z, (W.setCell ⟨b, i, none⟩ u).cell? ⟨g, z, none⟩ = W.cell? ⟨g, z, none⟩ := fun z => by
    have := Below.heap_setCell W ⟨b, i, none⟩ u g hgb
    unfold World.cell?
    simp only [this]
  rw [h1, h1]
  exact hcell j e he
/-- A grid of shifted lines; what is gone. -/
def UpPost (W : World) (cols : Int) (tgt : List Ln) (gone : List (Ln × Value)) (e : Ending) (w' : World) : Prop :=
  ∃ A k c B j d lv', e = .returned (.tuple #[.agg #[.int .i64 cols, .slice A k c], .slice B j d, .int .i64 0]) ∧ lv'.map Prod.fst = tgt ∧ LR w' (.slice A k c) lv' ∧ CesOf w' lv' ∧ LR w' (.slice B j d) gone ∧ Below W.heap.size W w'
def DnPost (W : World) (cols : Int) (tgt : List Ln) (e : Ending) (w' : World) : Prop :=
  ∃ A k c lv', e = .returned (.tuple #[.agg #[.int .i64 cols, .slice A k c], .int .i64 0]) ∧ lv'.map Prod.fst = tgt ∧ LR w' (.slice A k c) lv' ∧ CesOf w' lv' ∧ Below W.heap.size W w'
theorem left_src {W w2 w3 : World} {g o n c f t : Nat} {lv : List (Ln × Value)} {left : Value} (hr : LR W (.slice (some ⟨g, o, none⟩) n c) lv) (hn : lv.length = n) (hft : f ≤ t) (htn : t ≤ n) (h : OwnL w2 W.heap.size left (lv.take f ++ lv.drop t) ∨ (left = .slice (some ⟨g, o, none⟩) f f ∧ t = lv.length))
    (hW2 : Below W.heap.size W w2) (hb : Below w2.heap.size w2 w3) :
    (OwnL w3 W.heap.size left (lv.take f ++ lv.drop t) ∧ ∀ q, left.ownBlock = some q → q < w2.heap.size) ∨ (∃ A, left = .slice A (lv.take f ++ lv.drop t).length (lv.take f ++ lv.drop t).length ∧ LR w3 left (lv.take f ++ lv.drop t)) := by
  rcases h with h | ⟨rfl, rfl⟩
  · exact .inl ⟨h.kept hb, fun q hq => (World.ownsRow.lt h q hq).2⟩
  · have hl : (lv.take f ++ lv.drop lv.length) = lv.take f := by rw [List.drop_length, List.append_nil]
    have hlf : (lv.take f).length = f := by rw [List.length_take]; omega
    have h3 := hr.sub hn 0 f f (by omega) (Nat.le_refl _)
    rw [Nat.zero_mul, Nat.add_zero, List.drop_zero] at h3
    rw [hl, hlf]
    exact .inr ⟨_, rfl, h3.below (hW2.trans (hb.mono hW2.size))⟩

/-- May lines go? What is answered, all ways in one. -/
def scrM (top bot num : Int) : Nat := (min num (bot - top + 1)).toNat
def upT (ls : List Ln) (cols top bot num : Int) (a : At) : List Ln := scrL ls top.toNat (scrM top bot num) (bot.toNat + 1 - scrM top bot num) cols.toNat a
def downT (ls : List Ln) (cols top bot num : Int) (a : At) : List Ln := scrL ls (bot.toNat + 1 - scrM top bot num) (scrM top bot num) top.toNat cols.toNat a
def UOut (W : World) (cols : Int) (ok : Bool) (tgt : List Ln) (gone : List (Ln × Value)) (e : Ending) (w' : World) : Prop :=
  ∃ xc A k c B j d xn, e = .returned (.tuple #[.agg #[.int .i64 xc, .slice A k c], .slice B j d, .int .i64 xn]) ∧ Below W.heap.size W w' ∧
    ((ok = true ∧ xc = cols ∧ xn = 0 ∧ ∃ lv', lv'.map Prod.fst = tgt ∧ LR w' (.slice A k c) lv' ∧ CesOf w' lv' ∧ LR w' (.slice B j d) gone) ∨ (ok = false ∧ xc = 0 ∧ (.slice A k c : Value) = .slice none 0 0 ∧ (.slice B j d : Value) = .slice none 0 0 ∧ xn = 1))
def DOut (W : World) (cols : Int) (ok : Bool) (tgt : List Ln) (e : Ending) (w' : World) : Prop :=
  ∃ xc A k c xn, e = .returned (.tuple #[.agg #[.int .i64 xc, .slice A k c], .int .i64 xn]) ∧ Below W.heap.size W w' ∧
    ((ok = true ∧ xc = cols ∧ xn = 0 ∧ ∃ lv', lv'.map Prod.fst = tgt ∧ LR w' (.slice A k c) lv' ∧ CesOf w' lv') ∨ (ok = false ∧ xc = 0 ∧ (.slice A k c : Value) = .slice none 0 0 ∧ xn = 1))
theorem scr_parts {cols top bot num : Int} {a : At} {lv : List (Ln × Value)} (h : scrollOk cols lv top bot num a = true) :
    ∃ C T Bn M : Nat, cols = C ∧ top = T ∧ bot = Bn ∧ T ≤ Bn ∧ Bn < lv.length ∧ lv.length ≤ 50 ∧ C ≤ 80 ∧ scrM top bot num = M ∧ ((num ≤ (Bn : Int) - (T : Int) + 1 ∧ num = M) ∨ ((Bn : Int) - (T : Int) + 1 < num ∧ (M : Int) = (Bn : Int) - (T : Int) + 1)) ∧ M ≤ Bn + 1 := by
  unfold scrollOk at h
  simp only [Bool.and_eq_true, decide_eq_true_iff] at h
  obtain ⟨h0, h1, h2, h3, h4, _⟩ := h
  have hcc := mayB_cols h0
  have ht : 0 ≤ top ∧ top < lv.length := of_decide_eq_true h1
  have hb : 0 ≤ bot ∧ bot < lv.length := of_decide_eq_true h2
  refine ⟨cols.toNat, top.toNat, bot.toNat, scrM top bot num, by omega, by omega, by omega, by omega, by omega, by omega, by omega, rfl, ?_, ?_⟩
  all_goals
    unfold scrM
    simp only [Int.min_def]
    split <;> omega
end Go.Proofs.YteebbmmgbjpihaaDoor

namespace Go.Proofs.YteebbmmgbjpihaaDoor
open Go.RowKit

theorem mem_set {α : Type} {l : List α} {i : Nat} {a x : α} (h : x ∈ l.set i a) : x ∈ l ∨ x = a := List.mem_or_eq_of_mem_set h
theorem putL_mem {l : List Ce} {q : Nat} {c x : Ce} (h : x ∈ putL l q c) : x ∈ l ∨ x = c ∨ x = rhC c.at := by
  unfold putL at h
  split at h
  · rcases mem_set h with h | h
    · rcases mem_set h with h | h
      · exact .inl h
      · exact .inr (.inl h)
    · exact .inr (.inr h)
  · rcases mem_set h with h | h
    · exact .inl h
    · exact .inr (.inl h)
theorem eraseL_mem {l : List Ce} {o n : Nat} {a : At} {x : Ce} (h : x ∈ eraseL l o n a) : x ∈ l ∨ x = blkC a := by
  unfold eraseL at h
  rw [List.mem_append, List.mem_append] at h
  rcases h with h | h | h
  · exact .inl (List.mem_of_mem_take h)
  · exact .inr (List.eq_of_mem_replicate h)
  · exact .inl (List.mem_of_mem_drop h)
theorem putAll_mem : ∀ (m l : List Ce) (k : Nat) {x : Ce}, x ∈ putAll l k m → x ∈ l ∨ x ∈ m
  | [], _, _, _, h => .inl h
  | e :: m, l, k, x, h => by
    rcases putAll_mem m _ _ h with h | h
    · rcases mem_set h with h | h
      · exact .inl h
      · exact .inr (by rw [h]; exact List.mem_cons_self)
    · exact .inr (List.mem_cons_of_mem _ h)
theorem insL_mem {l : List Ce} {k n : Nat} {a : At} {x : Ce} (h : x ∈ insL l k n a) : x ∈ l ∨ x = blkC a := by
  unfold insL at h
  rcases eraseL_mem h with h | h
  · rcases putAll_mem _ _ _ h with h | h
    · exact .inl h
    · exact .inl (List.mem_of_mem_drop (List.mem_of_mem_take h))
  · exact .inr h
theorem delL_mem {l : List Ce} {k n : Nat} {a : At} {x : Ce} (h : x ∈ delL l k n a) : x ∈ l ∨ x = blkC a := by
  unfold delL at h
  rcases eraseL_mem h with h | h
  · rcases putAll_mem _ _ _ h with h | h
    · exact .inl h
    · exact .inl (List.mem_of_mem_drop (List.mem_of_mem_take h))
  · exact .inr h
theorem mendL_keep : ∀ (l : List Ce) (p : Int) (q : Nat) (c : Ce), l[q]? = some c → c.wd ≠ 0 → (c.wd = 2 → ∃ d, l[q + 1]? = some d ∧ d.wd = 0) → (mendL p l)[q]? = some c
  | [], _, _, _, h, _, _ => by simp at h
  | e :: r, p, 0, c, h, h0, h2 => by
    obtain rfl : e = c := by simpa using h
    have hh : hf p e r = false := by
      unfold hf
      by_cases hw : e.wd = 2
      · rw [if_pos hw]
        obtain ⟨d, hd, hd0⟩ := h2 hw
        cases r with
        | nil => simp at hd
        | cons d' r' =>
          obtain rfl : d' = d := by simpa using hd
          simp [hd0]
      · rw [if_neg hw, if_neg h0]
    unfold mendL
    rw [hh]
    rfl
  | e :: r, p, q + 1, c, h, h0, h2 => by
    have h' : r[q]? = some c := by simpa using h
    have h2' : c.wd = 2 → ∃ d, r[q + 1]? = some d ∧ d.wd = 0 := fun hw => by obtain ⟨d, hd, hd0⟩ := h2 hw; exact ⟨d, by simpa using hd, hd0⟩
    unfold mendL
    split
    · rw [List.getElem?_cons_succ]; exact mendL_keep r 1 q c h' h0 h2'
    · rw [List.getElem?_cons_succ]; exact mendL_keep r _ q c h' h0 h2'
theorem putL_keep {cs : List Ce} {q : Nat} {c : Ce} (hq : q < cs.length) (hw : c.wd = 2 → q + 1 < cs.length) (h0 : c.wd ≠ 0) : (mendL 1 (putL cs q c))[q]? = some c := by
  have h1 : (putL cs q c)[q]? = some c := by
    unfold putL
    split
    · rw [List.getElem?_set_ne (by omega), List.getElem?_set_self hq]
    · rw [List.getElem?_set_self hq]
  refine mendL_keep _ _ _ _ h1 h0 fun h2 => ⟨rhC c.at, ?_, rfl⟩
  unfold putL
  rw [if_pos h2, List.getElem?_set_self (by rw [List.length_set]; exact hw h2)]

/-- A grid that may be, of the same size, whose other lines, and which lines go on, are as they were. -/
def Stay (cols row : Int) (lv lv' : List (Ln × Value)) : Prop :=
  mayB cols lv' = true ∧ lv'.length = lv.length ∧ ∀ (i : Nat) e e', lv[i]? = some e → lv'[i]? = some e' → ((i : Int) ≠ row → e'.1 = e.1) ∧ e'.1.soft = e.1.soft
theorem map_len {lv : List (Ln × Value)} {ls : List Ln} (h : lv.map Prod.fst = ls) : lv.length = ls.length := by rw [← h, List.length_map]
theorem map_at {lv : List (Ln × Value)} {ls : List Ln} (h : lv.map Prod.fst = ls) {i : Nat} {e : Ln × Value} (he : lv[i]? = some e) : ls[i]? = some e.1 := by rw [← h, List.getElem?_map, he]; rfl
theorem stay_of {cols : Int} {lv lv' : List (Ln × Value)} {r : Nat} {cs X : List Ce} {soft : Bool} {u : Value} (h0 : mayB cols lv = true) (hs : Sm lv) (hx : lv[r]? = some (⟨cs, soft⟩, u)) (hm : lv'.map Prod.fst = (lv.map Prod.fst).set r ⟨mendL 1 X, soft⟩)
    (hX : X.length = cs.length) (hr : rightsL X = true) (hsz : ∀ c ∈ X, c.tx.size ≤ 1000) : Stay cols r lv lv' ∧ Sm lv' := by
  have hf := fits_iff.1 (mayB_at h0 hx)
  simp only at hf
  have hlen : lv'.length = lv.length := by rw [map_len hm, List.length_set, List.length_map]
  have hfit : fitsB cols (mendL 1 X) = true := by
    have := fits_mend hr
    rwa [hX, hf.1] at this
  have hcs : cs.length ≤ 1000 := (hs.2 _ (List.mem_of_getElem? hx)).1
  have hmem : ∀ e ∈ lv', (∃ e0 ∈ lv, e0.1 = e.1) ∨ e.1 = ⟨mendL 1 X, soft⟩ := fun e he => by
    have : e.1 ∈ (lv.map Prod.fst).set r ⟨mendL 1 X, soft⟩ := by rw [← hm]; exact List.mem_map.2 ⟨e, he, rfl⟩
    rcases mem_set this with h | h
    · obtain ⟨e0, h1, h2⟩ := List.mem_map.1 h
      exact .inl ⟨e0, h1, h2⟩
    · exact .inr h
  refine ⟨⟨?_, hlen, fun i e e' he he' => ?_⟩, by have := hs.1; omega, fun e he => ?_⟩
  · unfold mayB at h0 ⊢
    rw [Bool.and_eq_true] at h0 ⊢
    refine ⟨by rw [hlen]; exact h0.1, ?_⟩
    unfold allB at h0 ⊢
    rw [List.all_eq_true] at h0 ⊢
    intro e he
    rcases hmem e he with ⟨e0, h1, h2⟩ | h
    · rw [← h2]; exact h0.2 e0 h1
    · rw [h]; exact hfit
  · have h1 := map_at hm he'
    by_cases hir : r = i
    · subst hir
      rw [hx] at he
      cases he
      have hr' : r < (lv.map Prod.fst).length := by rw [List.length_map]; exact (List.getElem?_eq_some_iff.1 hx).1
      rw [List.getElem?_set_self hr'] at h1
      have h2 := Option.some.inj h1
      exact ⟨fun h => absurd rfl h, by rw [← h2]⟩
    · rw [List.getElem?_set_ne hir, List.getElem?_map, he] at h1
      have h2 : e.1 = e'.1 := Option.some.inj h1
      exact ⟨fun _ => h2.symm, by rw [h2]⟩
  · rcases hmem e he with ⟨e0, h1, h2⟩ | h
    · rw [← h2]; exact hs.2 e0 h1
    · rw [h]
      exact ⟨by show (mendL 1 X).length ≤ 1000; rw [mendL_length, hX]; exact hcs, mend_sizes hsz 1⟩
/-- What a call answered, of such a grid. -/
def SF (W : World) (cols row : Int) (lv : List (Ln × Value)) (xc : Int) (A : Option Addr) (k c : Nat) (xn : Int) : Prop :=
  (xn = 0 ∧ xc = cols ∧ ∃ lv', LR W (.slice A k c) lv' ∧ CesOf W lv' ∧ Sm lv' ∧ Stay cols row lv lv') ∨ (xn ≠ 0 ∧ xc = 0 ∧ (.slice A k c : Value) = .slice none 0 0)
theorem SF.below {W W' : World} {cols row : Int} {lv : List (Ln × Value)} {xc : Int} {A : Option Addr} {k c : Nat} {xn : Int} (h : SF W cols row lv xc A k c xn) (hb : Below W.heap.size W W') : SF W' cols row lv xc A k c xn :=
  h.imp (fun ⟨h1, h2, lv', h3, h4, h5, h6⟩ => ⟨h1, h2, lv', h3.below hb, h4.below hb, h5, h6⟩) id
/-- What was put is there. -/
def PF (W : World) (row col : Int) (ce : Ce) (A : Option Addr) (k c : Nat) (xn : Int) : Prop :=
  xn = 0 → ∃ (lv' : List (Ln × Value)) (r q : Nat) (cs : List Ce) (soft : Bool) (u : Value), row = r ∧ col = q ∧ LR W (.slice A k c) lv' ∧ CesOf W lv' ∧ lv'[r]? = some (⟨cs, soft⟩, u) ∧ cs[q]? = some ce ∧ cs.length ≤ 1000
theorem PF.below {W W' : World} {row col : Int} {ce : Ce} {A : Option Addr} {k c : Nat} {xn : Int} (h : PF W row col ce A k c xn) (hb : Below W.heap.size W W') : PF W' row col ce A k c xn := fun hn => by
  obtain ⟨lv', r, q, cs, soft, u, h1, h2, h3, h4, h5⟩ := h hn
  exact ⟨lv', r, q, cs, soft, u, h1, h2, h3.below hb, h4.below hb, h5⟩
/-- The body of what GOut tells. -/
def GB (W w' : World) (cols : Int) (lv : List (Ln × Value)) (ok : Bool) (n : Int) (tgt : List Ln) (xc : Int) (A : Option Addr) (k c : Nat) (xn : Int) : Prop :=
  (ok = true ∧ xc = cols ∧ xn = 0 ∧ ∃ lv', lv'.map Prod.fst = tgt ∧ LSl w' W.heap.size (.slice A k c) lv' ∧ NewOf w' W.heap.size lv lv') ∨ (ok = false ∧ xc = 0 ∧ (.slice A k c : Value) = .slice none 0 0 ∧ xn = n)
theorem GB.sf {W w' : World} {cols row n : Int} {lv : List (Ln × Value)} {ok : Bool} {tgt : List Ln} {xc : Int} {A : Option Addr} {k c : Nat} {xn : Int} (h : GB W w' cols lv ok n tgt xc A k c xn) (hc : CesOf w' lv) (hn : n ≠ 0)
    (hs : ok = true → ∀ lv', lv'.map Prod.fst = tgt → Stay cols row lv lv' ∧ Sm lv') : SF w' cols row lv xc A k c xn := by
  rcases h with ⟨h1, h2, h3, lv', h4, h5, h6⟩ | ⟨h1, h2, h3, h4⟩
  · obtain ⟨q1, q2⟩ := hs h1 lv' h4
    exact .inl ⟨h3, h2, lv', h5.row, h6.ces hc, q2, q1⟩
  · exact .inr ⟨by rw [h4]; exact hn, h2, h3⟩
theorem put_stay {cols row col : Int} {c : Ce} {lv lv' : List (Ln × Value)} (hs : Sm lv) (ht : c.tx.size ≤ 1000) (h : (putOk cols lv row col c && !roomB cols col c) = true) (hm : lv'.map Prod.fst = putT (lv.map Prod.fst) row col c) : Stay cols row lv lv' ∧ Sm lv' := by
  rw [Bool.and_eq_true, Bool.not_eq_true'] at h
  obtain ⟨r, q, cs, soft, u, rfl, rfl, hx, hrow, hq, hw⟩ := put_parts h.1 h.2
  have hp := h.1
  unfold putOk at hp
  simp only [Bool.and_eq_true] at hp
  obtain ⟨h0, _, _, h3, _⟩ := hp
  have hrc := (fits_iff.1 (mayB_at h0 hx)).2.1
  rw [rights_iff] at hrc
  unfold putT at hm
  rw [hrow, Int.toNat_natCast, Int.toNat_natCast] at hm
  simp only at hm
  refine stay_of h0 hs hx hm (putL_length _ _ _) (rights_iff.2 fun x hx' => ?_) fun x hx' => ?_
  · rcases putL_mem hx' with h | rfl | rfl
    · exact hrc x h
    · exact h3
    · exact right_rh (right_look h3)
  · rcases putL_mem hx' with h | rfl | rfl
    · exact (hs.2 _ (List.mem_of_getElem? hx)).2 x h
    · exact ht
    · exact Nat.zero_le _
theorem put_there {W w' : World} {cols row col n : Int} {ce : Ce} {lv : List (Ln × Value)} {xc : Int} {A : Option Addr} {k c : Nat} {xn : Int} (hs : Sm lv) (hn : n ≠ 0) (hc : CesOf w' lv) (h : GB W w' cols lv (putOk cols lv row col ce && !roomB cols col ce) n (putT (lv.map Prod.fst) row col ce) xc A k c xn) : PF w' row col ce A k c xn := by
  intro h0
  rcases h with ⟨h, _, _, lv', hm, hl, hnew⟩ | ⟨_, _, _, h4⟩
  · rw [Bool.and_eq_true, Bool.not_eq_true'] at h
    obtain ⟨r, q, cs, soft, u, rfl, rfl, hx, hrow, hq, hw⟩ := put_parts h.1 h.2
    have hp := h.1
    unfold putOk at hp
    simp only [Bool.and_eq_true] at hp
    obtain ⟨_, _, _, h3, h4⟩ := hp
    have hwd : ce.wd ≠ 0 := by
      unfold rightB at h3
      rw [Bool.and_eq_true, if_neg (of_decide_eq_true h4), decide_eq_true_iff] at h3
      omega
    unfold putT at hm
    rw [hrow, Int.toNat_natCast, Int.toNat_natCast] at hm
    have hlen : lv'.length = lv.length := by rw [map_len hm, List.length_set, List.length_map]
    have hrl := (List.getElem?_eq_some_iff.1 hx).1
    have hr' : r < lv'.length := by omega
    have hat := List.getElem?_eq_getElem hr'
    have h1 := map_at hm hat
    rw [List.getElem?_set_self (by rw [List.length_map]; exact hrl)] at h1
    have h2 := Option.some.inj h1
    refine ⟨lv', r, q, mendL 1 (putL cs q ce), soft, lv'[r].2, rfl, rfl, hl.row, hnew.ces hc, by rw [hat, h2], putL_keep hq hw hwd, ?_⟩
    rw [mendL_length, putL_length]
    exact (hs.2 _ (List.mem_of_getElem? hx)).1
  · rw [h0] at h4; exact absurd h4.symm hn
theorem erase_stay {cols row fr tt : Int} {a : At} {lv lv' : List (Ln × Value)} (hs : Sm lv) (h : eraseOk cols lv row fr tt a = true) (hm : lv'.map Prod.fst = eraseT (lv.map Prod.fst) row fr tt a) : Stay cols row lv lv' ∧ Sm lv' := by
  unfold eraseOk at h
  simp only [Bool.and_eq_true, decide_eq_true_iff] at h
  obtain ⟨⟨h0, h1⟩, h2, h3, h4, h5⟩ := h
  obtain ⟨r, cs, soft, u, rfl, hx, hrow⟩ := row_there h1
  have hf := fits_iff.1 (mayB_at h0 hx)
  simp only at hf
  have hrc := hf.2.1
  rw [rights_iff] at hrc
  unfold eraseT at hm
  rw [hrow, Int.toNat_natCast] at hm
  simp only at hm
  refine stay_of h0 hs hx hm (eraseL_length _ (by omega)) (rights_iff.2 fun x hx' => ?_) fun x hx' => ?_
  · rcases eraseL_mem hx' with h | rfl
    · exact hrc x h
    · exact right_blk h5
  · rcases eraseL_mem hx' with h | rfl
    · exact (hs.2 _ (List.mem_of_getElem? hx)).2 x h
    · exact Nat.zero_le _
theorem shift_parts {cols row col num : Int} {a : At} {lv : List (Ln × Value)} (h : shiftOk cols lv row col num a = true) :
    mayB cols lv = true ∧ lookB a = true ∧ ∃ (r q : Nat) (cs : List Ce) (soft : Bool) (u : Value), row = r ∧ col = q ∧ lv[r]? = some (⟨cs, soft⟩, u) ∧ rowL (lv.map Prod.fst) row = ⟨cs, soft⟩ ∧ q < cs.length ∧ rightsL cs = true := by
  unfold shiftOk at h
  simp only [Bool.and_eq_true, decide_eq_true_iff] at h
  obtain ⟨h0, h1, h2, h3, h4⟩ := h
  obtain ⟨r, cs, soft, u, hr, hx, hrow⟩ := row_there h1
  have hf := fits_iff.1 (mayB_at h0 hx)
  simp only at hf
  have hcl : 0 ≤ col ∧ col < cols := of_decide_eq_true h2
  exact ⟨h0, h4, r, col.toNat, cs, soft, u, hr, by omega, hx, hrow, by omega, hf.2.1⟩
theorem insert_stay {cols row col num : Int} {a : At} {lv lv' : List (Ln × Value)} (hs : Sm lv) (h : shiftOk cols lv row col num a = true) (hm : lv'.map Prod.fst = insertT (lv.map Prod.fst) row col num a) : Stay cols row lv lv' ∧ Sm lv' := by
  obtain ⟨h0, h5, r, q, cs, soft, u, rfl, rfl, hx, hrow, hq, hrc⟩ := shift_parts h
  rw [rights_iff] at hrc
  unfold insertT at hm
  rw [hrow, Int.toNat_natCast, Int.toNat_natCast] at hm
  simp only at hm
  refine stay_of h0 hs hx hm (by unfold insL; rw [eraseL_length _ (by rw [putAll_length]; omega), putAll_length]) (rights_iff.2 fun x hx' => ?_) fun x hx' => ?_
  · rcases insL_mem hx' with h | rfl
    · exact hrc x h
    · exact right_blk h5
  · rcases insL_mem hx' with h | rfl
    · exact (hs.2 _ (List.mem_of_getElem? hx)).2 x h
    · exact Nat.zero_le _
theorem delete_stay {cols row col num : Int} {a : At} {lv lv' : List (Ln × Value)} (hs : Sm lv) (h : shiftOk cols lv row col num a = true) (hm : lv'.map Prod.fst = deleteT (lv.map Prod.fst) row col num a) : Stay cols row lv lv' ∧ Sm lv' := by
  obtain ⟨h0, h5, r, q, cs, soft, u, rfl, rfl, hx, hrow, hq, hrc⟩ := shift_parts h
  rw [rights_iff] at hrc
  unfold deleteT at hm
  rw [hrow, Int.toNat_natCast, Int.toNat_natCast] at hm
  simp only at hm
  refine stay_of h0 hs hx hm (by unfold delL; rw [eraseL_length _ (by rw [putAll_length]; omega), putAll_length]) (rights_iff.2 fun x hx' => ?_) fun x hx' => ?_
  · rcases delL_mem hx' with h | rfl
    · exact hrc x h
    · exact right_blk h5
  · rcases delL_mem hx' with h | rfl
    · exact (hs.2 _ (List.mem_of_getElem? hx)).2 x h
    · exact Nat.zero_le _
theorem scr_len {ls : List Ln} {f m i cols : Nat} {a : At} (h : f + m ≤ ls.length) : (scrL ls f m i cols a).length = ls.length := by
  unfold scrL
  simp only [List.length_append, List.length_take, List.length_drop, List.length_replicate]
  omega
theorem scr_mem {ls : List Ln} {f m i cols : Nat} {a : At} {x : Ln} (h : x ∈ scrL ls f m i cols a) : x ∈ ls ∨ x = bareN cols a := by
  unfold scrL at h
  have hl : ∀ y ∈ ls.take f ++ ls.drop (f + m), y ∈ ls := fun y hy => (List.mem_append.1 hy).elim List.mem_of_mem_take List.mem_of_mem_drop
  rw [List.mem_append, List.mem_append] at h
  rcases h with (h | h) | h
  · exact .inl (hl x (List.mem_of_mem_take h))
  · exact .inr (List.eq_of_mem_replicate h)
  · exact .inl (hl x (List.mem_of_mem_drop h))
theorem scr_stay {cols : Int} {C f m i : Nat} {a : At} {lv lv' : List (Ln × Value)} (hs : Sm lv) (h0 : mayB cols lv = true) (hC : cols = C) (ha : lookB a = true) (hf : f + m ≤ lv.length) (hm : lv'.map Prod.fst = scrL (lv.map Prod.fst) f m i C a) : mayB cols lv' = true ∧ lv'.length = lv.length ∧ Sm lv' := by
  have hlen : lv'.length = lv.length := by rw [map_len hm, scr_len (by rw [List.length_map]; exact hf), List.length_map]
  have hmem : ∀ e ∈ lv', (∃ e0 ∈ lv, e0.1 = e.1) ∨ e.1 = bareN C a := fun e he => by
    have : e.1 ∈ scrL (lv.map Prod.fst) f m i C a := by rw [← hm]; exact List.mem_map.2 ⟨e, he, rfl⟩
    rcases scr_mem this with h | h
    · obtain ⟨e0, h1, h2⟩ := List.mem_map.1 h
      exact .inl ⟨e0, h1, h2⟩
    · exact .inr h
  have hcc := mayB_cols h0
  refine ⟨?_, hlen, by have := hs.1; omega, fun e he => ?_⟩
  · unfold mayB at h0 ⊢
    rw [Bool.and_eq_true] at h0 ⊢
    refine ⟨by rw [hlen]; exact h0.1, ?_⟩
    unfold allB at h0 ⊢
    rw [List.all_eq_true] at h0 ⊢
    intro e he
    rcases hmem e he with ⟨e0, h1, h2⟩ | h
    · rw [← h2]; exact h0.2 e0 h1
    · rw [h, hC]; exact fits_bare ha C
  · rcases hmem e he with ⟨e0, h1, h2⟩ | h
    · rw [← h2]; exact hs.2 e0 h1
    · rw [h]
      refine ⟨by show (List.replicate C (blkC a)).length ≤ 1000; rw [List.length_replicate]; omega, fun c hc => ?_⟩
      rw [List.eq_of_mem_replicate hc]
      exact Nat.zero_le _
end Go.Proofs.YteebbmmgbjpihaaDoor
