/- Layer 6, plain: lines go down, and up, one by one. -/
/- Layer 6, plain: lines go up, one by one. -/
/- What the walk of GridStays wants. Made by wip/gen/gridStays.py. -/
/- Layer 6, the reference: what holds while lines go up one by one. -/
import Derived.Test.YteebbmmgbjpihaaDoorGridSpQ
import Derived.Deep.RegionWith
import Derived.Test.YteebbmmgbjpihaaDoorGridLaQ
import Derived.Test.YteebbmmgbjpihaaDoorGridRbQ
namespace Go.Proofs.YteebbmmgbjpihaaDoor
open Go.RowKit

/-- Lines of a round, as far as it has come: a new one ahead of T, none of B. -/
def dnP {α : Type} (T B : Nat) (b : α) (l : List α) : Nat → List α
  | 0 => []
  | i + 1 => dnP T B b l i ++ (if i = T then [b] else []) ++ (if i = B then [] else (l[i]?).toList)
/-- .. without the one at T, a new one behind B. -/
def upP {α : Type} (T B : Nat) (b : α) (l : List α) : Nat → List α
  | 0 => []
  | i + 1 => upP T B b l i ++ (if i = T then [] else (l[i]?).toList) ++ (if i = B then [b] else [])
theorem dnP_length {α : Type} {T B : Nat} {b : α} {l : List α} (hTB : T ≤ B) : ∀ i, i ≤ l.length → (dnP T B b l i).length = if i ≤ T then i else if i ≤ B then i + 1 else i
  | 0, _ => by rw [if_pos (Nat.zero_le _)]; rfl
  | i + 1, h => by
    have hi : l[i]? = some l[i] := List.getElem?_eq_getElem (by omega)
    have e1 : (if i = T then [b] else []).length = if i = T then 1 else 0 := by split <;> rfl
    have e2 : (if i = B then [] else (some l[i]).toList).length = if i = B then 0 else 1 := by split <;> rfl
    rw [dnP, List.length_append, List.length_append, dnP_length hTB i (by omega), hi, e1, e2]
    (repeat' split) <;> omega
theorem dnP_at {α : Type} {T B : Nat} {b : α} {l : List α} (hTB : T ≤ B) : ∀ i, i ≤ l.length → ∀ j, j < (dnP T B b l i).length → (dnP T B b l i)[j]? = if j < T then l[j]? else if j = T then some b else if j ≤ B then l[j - 1]? else l[j]?
  | 0, _, j, h => by simp [dnP] at h
  | i + 1, h, j, hj => by
    have hi : l[i]? = some l[i] := List.getElem?_eq_getElem (by omega)
    have hL := dnP_length (b := b) (l := l) hTB i (by omega)
    have hL1 := dnP_length (b := b) (l := l) hTB (i + 1) h
    have ih := dnP_at (b := b) (l := l) hTB i (by omega)
    by_cases hj1 : j < (dnP T B b l i).length
    · rw [dnP, List.append_assoc, List.getElem?_append_left hj1]
      exact ih j hj1
    · rw [hL1] at hj
      rw [hL] at hj1
      rw [dnP, List.append_assoc, List.getElem?_append_right (by rw [hL]; omega), hL, hi]
      by_cases a1 : i = T
      · subst a1
        rw [if_pos rfl, if_pos (Nat.le_refl _)]
        rw [if_pos (Nat.le_refl _)] at hj1
        by_cases a3 : j = i
        · subst a3
          rw [if_neg (Nat.lt_irrefl _), if_pos rfl, Nat.sub_self]
          rfl
        · by_cases a2 : i = B
          · subst a2
            rw [if_neg (by omega), if_neg (by omega)] at hj
            omega
          · rw [if_neg (by omega), if_pos (by omega)] at hj
            have hje : j = i + 1 := by omega
            subst hje
            rw [if_neg a2, if_neg (by omega), if_neg (by omega), if_pos (by omega), show i + 1 - i = 1 by omega, show i + 1 - 1 = i by omega, hi]
            rfl
      · rw [if_neg a1, List.nil_append]
        by_cases a2 : i = B
        · subst a2
          rw [if_neg (by omega), if_neg (by omega)] at hj
          rw [if_neg (by omega), if_pos (Nat.le_refl _)] at hj1
          omega
        · rw [if_neg a2]
          by_cases a4 : i < T
          · rw [if_pos (by omega)] at hj hj1
            have hje : j = i := by omega
            subst hje
            rw [if_pos (by omega), if_pos (by omega), Nat.sub_self, hi]
            rfl
          · by_cases a5 : i < B
            · rw [if_neg (by omega), if_pos (by omega)] at hj hj1
              have hje : j = i + 1 := by omega
              subst hje
              rw [if_neg (by omega), if_pos (by omega), if_neg (by omega), if_neg (by omega), if_pos (by omega), Nat.sub_self, show i + 1 - 1 = i by omega, hi]
              rfl
            · rw [if_neg (by omega), if_neg (by omega)] at hj hj1
              have hje : j = i := by omega
              subst hje
              rw [if_neg (by omega), if_neg (by omega), if_neg (by omega), if_neg (by omega), if_neg (by omega), Nat.sub_self, hi]
              rfl
theorem dn_length {α : Type} {T B : Nat} {b : α} {l : List α} (hTB : T ≤ B) (hB : B < l.length) : (dnP T B b l l.length).length = l.length := by
  rw [dnP_length hTB _ (Nat.le_refl _), if_neg (by omega), if_neg (by omega)]
theorem scr_at {ls : List Ln} {f m i cols : Nat} {a : At} (h : f + m ≤ ls.length) (hi : i + m ≤ ls.length) {j : Nat} (hj : j < ls.length) :
    (scrL ls f m i cols a)[j]? = if j < i then (if j < f then ls[j]? else ls[j + m]?) else if j < i + m then some (bareN cols a) else if j - m < f then ls[j - m]? else ls[j]? := by
  have hl : (ls.take f ++ ls.drop (f + m)).length = ls.length - m := by rw [List.length_append, List.length_take, List.length_drop]; omega
  have hat : ∀ q, q < ls.length - m → (ls.take f ++ ls.drop (f + m))[q]? = if q < f then ls[q]? else ls[q + m]? := fun q hq => by
    by_cases a1 : q < f
    · rw [if_pos a1, List.getElem?_append_left (by rw [List.length_take]; omega), List.getElem?_take, if_pos a1]
    · rw [if_neg a1, List.getElem?_append_right (by rw [List.length_take]; omega), List.length_take, List.getElem?_drop]
      congr 1
      omega
  unfold scrL
  have h1 : ((ls.take f ++ ls.drop (f + m)).take i).length = i := by rw [List.length_take, hl]; omega
  by_cases a1 : j < i
  · rw [if_pos a1, List.getElem?_append_left (by rw [List.length_append, h1]; omega), List.getElem?_append_left (by omega), List.getElem?_take, if_pos a1, hat j (by omega)]
  · rw [if_neg a1]
    by_cases a2 : j < i + m
    · rw [if_pos a2, List.getElem?_append_left (by rw [List.length_append, h1, List.length_replicate]; omega), List.getElem?_append_right (by omega), h1, List.getElem?_replicate, if_pos (by omega)]
    · rw [if_neg a2, List.getElem?_append_right (by rw [List.length_append, h1, List.length_replicate]; omega), List.length_append, h1, List.length_replicate, List.getElem?_drop, show i + (j - (i + m)) = j - m by omega, hat _ (by omega), show j - m + m = j by omega]
/-- One more goes down. -/
theorem dn_step {ls : List Ln} {T B k cols : Nat} {a : At} (hTB : T ≤ B) (hB : B < ls.length) (hk : k < B - T + 1) :
    dnP T B (bareN cols a) (scrL ls (B + 1 - k) k T cols a) ls.length = scrL ls (B + 1 - (k + 1)) (k + 1) T cols a := by
  have hlen : (scrL ls (B + 1 - k) k T cols a).length = ls.length := scr_len (by omega)
  have hlen2 : (scrL ls (B + 1 - (k + 1)) (k + 1) T cols a).length = ls.length := scr_len (by omega)
  apply List.ext_getElem?
  intro j
  by_cases hj : j < ls.length
  · have hr := scr_at (ls := ls) (f := B + 1 - (k + 1)) (m := k + 1) (i := T) (cols := cols) (a := a) (by omega) (by omega) hj
    have hl := fun q (hq : q < ls.length) => scr_at (ls := ls) (f := B + 1 - k) (m := k) (i := T) (cols := cols) (a := a) (j := q) (by omega) (by omega) hq
    have hd := dnP_at (b := bareN cols a) (l := scrL ls (B + 1 - k) k T cols a) hTB _ (Nat.le_refl _) j (by rw [dn_length hTB (by omega)]; omega)
    rw [hlen] at hd
    rw [hr, hd]
    by_cases a1 : j < T
    · rw [if_pos a1, if_pos a1, hl j hj, if_pos a1, if_pos (by omega), if_pos (by omega)]
    · rw [if_neg a1, if_neg a1]
      by_cases a2 : j = T
      · rw [if_pos a2, if_pos (by omega)]
      · rw [if_neg a2]
        by_cases a3 : j ≤ B
        · rw [if_pos a3, hl (j - 1) (by omega), if_neg (by omega)]
          by_cases a4 : j < T + (k + 1)
          · rw [if_pos (by omega), if_pos a4]
          · rw [if_neg (by omega), if_neg a4, if_pos (by omega), if_pos (by omega), show j - 1 - k = j - (k + 1) by omega]
        · rw [if_neg a3, hl j hj, if_neg (by omega), if_neg (by omega), if_neg (by omega), if_neg (by omega), if_neg (by omega)]
  · have hdl := dn_length (b := bareN cols a) (l := scrL ls (B + 1 - k) k T cols a) hTB (by omega)
    rw [hlen] at hdl
    rw [List.getElem?_eq_none (by rw [hdl]; omega), List.getElem?_eq_none (by rw [hlen2]; omega)]
end Go.Proofs.YteebbmmgbjpihaaDoor

namespace Go.Proofs.YteebbmmgbjpihaaDoor
open Go.RowKit

theorem upP_length {α : Type} {T B : Nat} {b : α} {l : List α} (hTB : T ≤ B) : ∀ i, i ≤ l.length → (upP T B b l i).length = if i ≤ T then i else if i ≤ B then i - 1 else i
  | 0, _ => by rw [if_pos (Nat.zero_le _)]; rfl
  | i + 1, h => by
    have hi : l[i]? = some l[i] := List.getElem?_eq_getElem (by omega)
    have e1 : (if i = T then [] else (some l[i]).toList).length = if i = T then 0 else 1 := by split <;> rfl
    have e2 : (if i = B then [b] else []).length = if i = B then 1 else 0 := by split <;> rfl
    rw [upP, List.length_append, List.length_append, upP_length hTB i (by omega), hi, e1, e2]
    (repeat' split) <;> omega
theorem upP_at {α : Type} {T B : Nat} {b : α} {l : List α} (hTB : T ≤ B) : ∀ i, i ≤ l.length → ∀ j, j < (upP T B b l i).length → (upP T B b l i)[j]? = if j < T then l[j]? else if j < B then l[j + 1]? else if j = B then some b else l[j]?
  | 0, _, j, h => by simp [upP] at h
  | i + 1, h, j, hj => by
    have hi : l[i]? = some l[i] := List.getElem?_eq_getElem (by omega)
    have hL := upP_length (b := b) (l := l) hTB i (by omega)
    have hL1 := upP_length (b := b) (l := l) hTB (i + 1) h
    have ih := upP_at (b := b) (l := l) hTB i (by omega)
    by_cases hj1 : j < (upP T B b l i).length
    · rw [upP, List.append_assoc, List.getElem?_append_left hj1]
      exact ih j hj1
    · rw [hL1] at hj
      rw [hL] at hj1
      rw [upP, List.append_assoc, List.getElem?_append_right (by rw [hL]; omega), hL, hi]
      by_cases a1 : i = T
      · subst a1
        rw [if_pos rfl, if_pos (Nat.le_refl _), List.nil_append]
        rw [if_pos (Nat.le_refl _)] at hj1
        by_cases a2 : i = B
        · subst a2
          rw [if_neg (by omega), if_neg (by omega)] at hj
          obtain rfl : j = i := by omega
          rw [if_pos rfl, if_neg (Nat.lt_irrefl _), if_neg (Nat.lt_irrefl _), if_pos rfl, Nat.sub_self]
          rfl
        · rw [if_neg (by omega), if_pos (by omega)] at hj
          omega
      · rw [if_neg a1]
        by_cases a4 : i < T
        · rw [if_pos (by omega)] at hj hj1
          obtain rfl : j = i := by omega
          rw [if_neg (show ¬ j = B by omega), List.append_nil, if_pos (show j ≤ T by omega), if_pos a4, Nat.sub_self, hi]
          rfl
        · by_cases a2 : i = B
          · subst a2
            rw [if_neg (by omega), if_neg (by omega)] at hj
            rw [if_neg (by omega), if_pos (Nat.le_refl _)] at hj1
            rw [if_pos rfl, if_neg (by omega), if_pos (Nat.le_refl _)]
            by_cases a3 : j = i
            · rw [if_neg (by omega), if_neg (by omega), if_pos a3, show j - (i - 1) = 1 by omega]
              rfl
            · rw [if_neg (by omega), if_pos (by omega), show j - (i - 1) = 0 by omega, show j + 1 = i by omega, hi]
              rfl
          · rw [if_neg a2, List.append_nil]
            by_cases a5 : i < B
            · rw [if_neg (by omega), if_pos (by omega)] at hj hj1
              rw [if_neg (by omega), if_pos (by omega), if_neg (by omega), if_pos (by omega), show j - (i - 1) = 0 by omega, show j + 1 = i by omega, hi]
              rfl
            · rw [if_neg (by omega), if_neg (by omega)] at hj hj1
              obtain rfl : j = i := by omega
              rw [if_neg (by omega), if_neg (by omega), if_neg (by omega), if_neg (by omega), if_neg (by omega), Nat.sub_self, hi]
              rfl
theorem up_length {α : Type} {T B : Nat} {b : α} {l : List α} (hTB : T ≤ B) (hB : B < l.length) : (upP T B b l l.length).length = l.length := by
  rw [upP_length hTB _ (Nat.le_refl _), if_neg (by omega), if_neg (by omega)]
/-- One more goes up. -/
theorem up_step {ls : List Ln} {T B k cols : Nat} {a : At} (hTB : T ≤ B) (hB : B < ls.length) (hk : k < B - T + 1) :
    upP T B (bareN cols a) (scrL ls T k (B + 1 - k) cols a) ls.length = scrL ls T (k + 1) (B + 1 - (k + 1)) cols a := by
  have hlen : (scrL ls T k (B + 1 - k) cols a).length = ls.length := scr_len (by omega)
  have hlen2 : (scrL ls T (k + 1) (B + 1 - (k + 1)) cols a).length = ls.length := scr_len (by omega)
  apply List.ext_getElem?
  intro j
  by_cases hj : j < ls.length
  · have hr := scr_at (ls := ls) (f := T) (m := k + 1) (i := B + 1 - (k + 1)) (cols := cols) (a := a) (by omega) (by omega) hj
    have hl := fun q (hq : q < ls.length) => scr_at (ls := ls) (f := T) (m := k) (i := B + 1 - k) (cols := cols) (a := a) (j := q) (by omega) (by omega) hq
    have hd := upP_at (b := bareN cols a) (l := scrL ls T k (B + 1 - k) cols a) hTB _ (Nat.le_refl _) j (by rw [up_length hTB (by omega)]; omega)
    rw [hlen] at hd
    rw [hr, hd]
    by_cases a1 : j < T
    · rw [if_pos a1, hl j hj, if_pos (by omega), if_pos a1, if_pos (by omega), if_pos a1]
    · rw [if_neg a1]
      by_cases a2 : j < B
      · rw [if_pos a2, hl (j + 1) (by omega)]
        by_cases a3 : j < B + 1 - (k + 1)
        · rw [if_pos (by omega), if_neg (by omega), if_pos a3, if_neg a1, show j + 1 + k = j + (k + 1) by omega]
        · rw [if_neg (by omega), if_pos (by omega), if_neg a3, if_pos (by omega)]
      · rw [if_neg a2]
        by_cases a3 : j = B
        · rw [if_pos a3, if_neg (by omega), if_pos (by omega)]
        · rw [if_neg a3, hl j hj, if_neg (by omega), if_neg (by omega), if_neg (by omega), if_neg (by omega), if_neg (by omega), if_neg (by omega)]
  · have hdl := up_length (b := bareN cols a) (l := scrL ls T k (B + 1 - k) cols a) hTB (by omega)
    rw [hlen] at hdl
    rw [List.getElem?_eq_none (by rw [hdl]; omega), List.getElem?_eq_none (by rw [hlen2]; omega)]
/-- The line that goes. -/
theorem up_gone {ls : List Ln} {T B k cols : Nat} {a : At} (hTB : T ≤ B) (hB : B < ls.length) (hk : k < B - T + 1) : (scrL ls T k (B + 1 - k) cols a)[T]? = ls[T + k]? := by
  rw [scr_at (by omega) (by omega) (by omega), if_pos (by omega), if_neg (Nat.lt_irrefl _)]
end Go.Proofs.YteebbmmgbjpihaaDoor

namespace Go.Proofs.YteebbmmgbjpihaaDoor
open Go.RowKit

theorem Bxs.push {W : World} {l : List (Nat × TypeId × Array Value)} (h : Bxs W l) {b : Nat} {t : TypeId} {cs : Array Value} (hb : Box W b t cs) : Bxs W (l ++ [(b, t, cs)]) := by
  intro x hx
  rw [List.mem_append, List.mem_singleton] at hx
  rcases hx with hx | rfl
  · exact h x hx
  · exact hb
/-- What Up, Down answered: a grid that may be, of the same size. -/
def UF (W : World) (cols : Int) (lv : List (Ln × Value)) (ok : Bool) (xc : Int) (A : Option Addr) (k c : Nat) (xn : Int) : Prop :=
  (ok = true ∧ xn = 0 ∧ xc = cols ∧ ∃ lv', LR W (.slice A k c) lv' ∧ CesOf W lv' ∧ Sm lv' ∧ mayB cols lv' = true ∧ lv'.length = lv.length) ∨ (ok = false ∧ xn = 1)
theorem UF.below {W W' : World} {cols : Int} {lv : List (Ln × Value)} {ok : Bool} {xc : Int} {A : Option Addr} {k c : Nat} {xn : Int} (h : UF W cols lv ok xc A k c xn) (hb : Below W.heap.size W W') : UF W' cols lv ok xc A k c xn :=
  h.imp (fun ⟨h1, h2, h3, lv', h4, h5, h6⟩ => ⟨h1, h2, h3, lv', h4.below hb, h5.below hb, h6⟩) id
theorem LR.len {W : World} {A : Option Addr} {k c : Nat} {l : List (Ln × Value)} (h : LR W (.slice A k c) l) : k = l.length := by obtain ⟨A', c', e, _⟩ := h; cases e; rfl
theorem up_uf {w' : World} {cols top bot num : Int} {a : At} {lv : List (Ln × Value)} (hs : Sm lv) {gone : List (Ln × Value)} {xc : Int} {A : Option Addr} {k c : Nat} {B : Option Addr} {j d : Nat} {xn : Int}
    (h : (scrollOk cols lv top bot num a = true ∧ xc = cols ∧ xn = 0 ∧ ∃ lv', lv'.map Prod.fst = upT (lv.map Prod.fst) cols top bot num a ∧ LR w' (.slice A k c) lv' ∧ CesOf w' lv' ∧ LR w' (.slice B j d) gone) ∨ (scrollOk cols lv top bot num a = false ∧ xc = 0 ∧ (.slice A k c : Value) = .slice none 0 0 ∧ (.slice B j d : Value) = .slice none 0 0 ∧ xn = 1)) :
    UF w' cols lv (scrollOk cols lv top bot num a) xc A k c xn := by
  rcases h with ⟨h0, h1, h2, lv', h3, h4, h5, _⟩ | ⟨h0, _, _, _, h4⟩
  · obtain ⟨C, T, Bn, M, hC, rfl, rfl, p1, p2, p3, p4, p5, p6, p7⟩ := scr_parts h0
    have h0' := h0
    unfold scrollOk at h0'
    simp only [Bool.and_eq_true] at h0'
    unfold upT at h3
    rw [hC, p5, Int.toNat_natCast, Int.toNat_natCast, Int.toNat_natCast] at h3
    obtain ⟨q1, q2, q3⟩ := scr_stay hs h0'.1 hC h0'.2.2.2.2.2 (by omega) h3
    exact .inl ⟨h0, h2, h1, lv', h4, h5, q3, q1, q2⟩
  · exact .inr ⟨h0, h4⟩
theorem down_uf {w' : World} {cols top bot num : Int} {a : At} {lv : List (Ln × Value)} (hs : Sm lv) {xc : Int} {A : Option Addr} {k c : Nat} {xn : Int}
    (h : (scrollOk cols lv top bot num a = true ∧ xc = cols ∧ xn = 0 ∧ ∃ lv', lv'.map Prod.fst = downT (lv.map Prod.fst) cols top bot num a ∧ LR w' (.slice A k c) lv' ∧ CesOf w' lv') ∨ (scrollOk cols lv top bot num a = false ∧ xc = 0 ∧ (.slice A k c : Value) = .slice none 0 0 ∧ xn = 1)) :
    UF w' cols lv (scrollOk cols lv top bot num a) xc A k c xn := by
  rcases h with ⟨h0, h1, h2, lv', h3, h4, h5⟩ | ⟨h0, _, _, h4⟩
  · obtain ⟨C, T, Bn, M, hC, rfl, rfl, p1, p2, p3, p4, p5, p6, p7⟩ := scr_parts h0
    have h0' := h0
    unfold scrollOk at h0'
    simp only [Bool.and_eq_true] at h0'
    unfold downT at h3
    rw [hC, p5, Int.toNat_natCast, Int.toNat_natCast, Int.toNat_natCast] at h3
    obtain ⟨q1, q2, q3⟩ := scr_stay hs h0'.1 hC h0'.2.2.2.2.2 (by omega) h3
    exact .inl ⟨h0, h2, h1, lv', h4, h5, q3, q1, q2⟩
  · exact .inr ⟨h0, h4⟩
theorem gone_len {W : World} {B : Option Addr} {j d : Nat} {lv : List (Ln × Value)} {T m M : Nat} {num top bot : Int} (h : LR W (.slice B j d) ((lv.drop top.toNat).take (scrM top bot num))) (ht : top = T) (hb : bot = (lv.length : Int) - 1) (hT : T < lv.length) (hn : num = m) (hM : M = if (m : Int) ≤ (lv.length : Int) - T then m else lv.length - T) : j = M := by
  rw [h.len, List.length_take, List.length_drop, ht, hb, hn, hM, Int.toNat_natCast]
  unfold scrM
  simp only [Int.min_def]
  split <;> split <;> omega
/-- What stands at each place of four. -/
theorem four_at {W : World} {b k : Nat} {t : TypeId} {c0 c1 c2 c3 : Int} {A0 A1 A2 A3 : Option Addr} {k0 k1 k2 k3 d0 d1 d2 d3 : Nat} {e0 e1 e2 e3 : Int} (hb : Box W b t #[.int .i64 c0, .slice A0 k0 d0, .int .i64 c1, .slice A1 k1 d1, .int .i64 c2, .slice A2 k2 d2, .int .i64 c3, .slice A3 k3 d3]) (hk : k < 4)
    {cols row : Int} {lv : List (Ln × Value)} (s0 : SF W cols row lv c0 A0 k0 d0 e0) (s1 : SF W cols row lv c1 A1 k1 d1 e1) (s2 : SF W cols row lv c2 A2 k2 d2 e2) (s3 : SF W cols row lv c3 A3 k3 d3 e3) :
    ∃ xc A j d xn, W.cell? ⟨b, k * 2, none⟩ = some (.int .i64 xc) ∧ W.cell? ⟨b, k * 2 + 1, none⟩ = some (.slice A j d) ∧ (∀ h : k < [Value.int .i64 e0, .int .i64 e1, .int .i64 e2, .int .i64 e3].length, [Value.int .i64 e0, .int .i64 e1, .int .i64 e2, .int .i64 e3][k] = .int .i64 xn) ∧ SF W cols row lv xc A j d xn := by
  rcases (by omega : k = 0 ∨ k = 1 ∨ k = 2 ∨ k = 3) with rfl | rfl | rfl | rfl
  · exact ⟨_, _, _, _, _, hb.cell 0, hb.cell 1, fun _ => rfl, s0⟩
  · exact ⟨_, _, _, _, _, hb.cell 2, hb.cell 3, fun _ => rfl, s1⟩
  · exact ⟨_, _, _, _, _, hb.cell 4, hb.cell 5, fun _ => rfl, s2⟩
  · exact ⟨_, _, _, _, _, hb.cell 6, hb.cell 7, fun _ => rfl, s3⟩
/-- The same, spelled out: a grid that may be, or none. -/
theorem four_is {W : World} {b k n : Nat} {t : TypeId} {c0 c1 c2 c3 : Int} {A0 A1 A2 A3 : Option Addr} {k0 k1 k2 k3 d0 d1 d2 d3 : Nat} {e0 e1 e2 e3 : Int} (hb : Box W b t #[.int .i64 c0, .slice A0 k0 d0, .int .i64 c1, .slice A1 k1 d1, .int .i64 c2, .slice A2 k2 d2, .int .i64 c3, .slice A3 k3 d3]) (hk : k < 4)
    {cols row : Int} {lv : List (Ln × Value)} (s0 : SF W cols row lv c0 A0 k0 d0 e0) (s1 : SF W cols row lv c1 A1 k1 d1 e1) (s2 : SF W cols row lv c2 A2 k2 d2 e2) (s3 : SF W cols row lv c3 A3 k3 d3 e3) (hm : mayB cols lv = true) (hn : lv.length = n) :
    (∃ gx ox d lvx, W.cell? ⟨b, k * 2, none⟩ = some (.int .i64 cols) ∧ W.cell? ⟨b, k * 2 + 1, none⟩ = some (.slice (some ⟨gx, ox, none⟩) n d) ∧ (∀ h : k < [Value.int .i64 e0, .int .i64 e1, .int .i64 e2, .int .i64 e3].length, [Value.int .i64 e0, .int .i64 e1, .int .i64 e2, .int .i64 e3][k] = .int .i64 0) ∧
      LR W (.slice (some ⟨gx, ox, none⟩) n d) lvx ∧ CesOf W lvx ∧ Sm lvx ∧ Stay cols row lv lvx) ∨
    (∃ xc A j d xn, W.cell? ⟨b, k * 2, none⟩ = some (.int .i64 xc) ∧ W.cell? ⟨b, k * 2 + 1, none⟩ = some (.slice A j d) ∧ (∀ h : k < [Value.int .i64 e0, .int .i64 e1, .int .i64 e2, .int .i64 e3].length, [Value.int .i64 e0, .int .i64 e1, .int .i64 e2, .int .i64 e3][k] = .int .i64 xn) ∧ xn ≠ 0) := by
  obtain ⟨xc, A, j, d, xn, h1, h2, h3, h4⟩ := four_at hb hk s0 s1 s2 s3
  rcases h4 with ⟨rfl, rfl, lvx, q1, q2, q3, q4⟩ | ⟨hne, _, _⟩
  · have hl : lvx.length = n := by rw [q4.2.1, hn]
    have hj := q1.len
    rw [hl] at hj
    subst hj
    have hc := (mayB_cols hm).2.1
    have hne : lvx ≠ [] := by
      intro e
      rw [e] at hl
      simp at hl
      omega
    obtain ⟨_, _, he, _, hx⟩ := id q1
    cases he
    obtain ⟨gx, ox, rfl, _, _⟩ := hx hne
    exact .inl ⟨gx, ox, d, lvx, h1, h2, h3, q1, q2, q3, q4⟩
  · exact .inr ⟨xc, A, j, d, xn, h1, h2, h3, hne⟩
theorem LR.first {W : World} {A : Option Addr} {n c : Nat} {l : List (Ln × Value)} (h : LR W (.slice A n c) l) (hn : 0 < l.length) : ∃ g o, A = some ⟨g, o, none⟩ := by
  obtain ⟨_, _, he, _, hx⟩ := h
  cases he
  obtain ⟨g, o, h, _⟩ := hx (by intro e; rw [e] at hn; simp at hn)
  exact ⟨g, o, h⟩
/-- Where the cell lies that was put. -/
theorem put_at {W : World} {row col : Int} {ce : Ce} {A : Option Addr} {k c : Nat} {xn : Int} (h : PF W row col ce A k c xn) (h0 : xn = 0) :
    ∃ gp op gl ol nl dl : Nat, A = some ⟨gp, op, none⟩ ∧ (0 ≤ row ∧ row < (k : Int)) ∧ (0 ≤ col ∧ col < (nl : Int)) ∧ nl ≤ 1000 ∧ (gp < W.heap.size ∧ gl < W.heap.size) ∧ W.cell? ⟨gp, op + row.toNat * 2, none⟩ = some (.slice (some ⟨gl, ol, none⟩) nl dl) ∧
      (W.cell? ⟨gl, ol + col.toNat * 5, none⟩ = some (.string ce.tx) ∧ W.cell? ⟨gl, ol + col.toNat * 5 + 1, none⟩ = some (.int .i64 ce.wd) ∧ W.cell? ⟨gl, ol + col.toNat * 5 + 2, none⟩ = some (.int .i64 ce.fg) ∧ W.cell? ⟨gl, ol + col.toNat * 5 + 3, none⟩ = some (.int .i64 ce.bg) ∧ W.cell? ⟨gl, ol + col.toNat * 5 + 4, none⟩ = some (.int .i64 ce.fl)) := by
  obtain ⟨lv', r, q, cs, soft, u, rfl, rfl, hl, hc, hx, hq, hlen⟩ := h h0
  have hk := hl.len
  have hr := (List.getElem?_eq_some_iff.1 hx).1
  have hq' := (List.getElem?_eq_some_iff.1 hq).1
  obtain ⟨_, _, he, _, hcell⟩ := hl
  cases he
  obtain ⟨gp, op, rfl, hg, hcell⟩ := hcell (by intro e; rw [e] at hr; simp at hr)
  obtain ⟨p0, _⟩ := hcell r _ hx
  obtain ⟨_, dl, he2, _, hcc⟩ := hc _ (List.mem_of_getElem? hx)
  simp only at he2 hcc
  subst he2
  obtain ⟨gl, ol, rfl, hgl, hcc⟩ := hcc (by intro e; rw [e] at hq'; simp at hq')
  refine ⟨gp, op, gl, ol, cs.length, dl, rfl, by omega, by omega, hlen, ⟨hg, hgl⟩, ?_, ?_⟩
  · rw [Int.toNat_natCast]; exact p0
  · rw [Int.toNat_natCast]; exact ccells (hcc q _ hq)
theorem UF.none_ {W : World} {cols : Int} {lv : List (Ln × Value)} {xc : Int} {A : Option Addr} {k c : Nat} {xn : Int} (h : UF W cols lv false xc A k c xn) : xn = 1 := by
  rcases h with ⟨h, _⟩ | ⟨_, h⟩
  · cases h
  · exact h
theorem scroll_rows {cols top bot num : Int} {a : At} {lv : List (Ln × Value)} (h : scrollOk cols lv top bot num a = true) : 0 ≤ top ∧ top < lv.length := by
  obtain ⟨C, T, Bn, M, _, rfl, rfl, p1, p2, _⟩ := scr_parts h
  omega
theorem gone_is {w' : World} {cols row : Int} {a : At} {lv : List (Ln × Value)} {m n : Nat} {xc : Int} {A : Option Addr} {k c : Nat} {B : Option Addr} {j d : Nat} {xn : Int} (hn : lv.length = n)
    (h : (scrollOk cols lv row ((n : Int) - 1) m a = true ∧ xc = cols ∧ xn = 0 ∧ ∃ lv', lv'.map Prod.fst = upT (lv.map Prod.fst) cols row ((n : Int) - 1) m a ∧ LR w' (.slice A k c) lv' ∧ CesOf w' lv' ∧ LR w' (.slice B j d) ((lv.drop row.toNat).take (scrM row ((n : Int) - 1) m))) ∨ (scrollOk cols lv row ((n : Int) - 1) m a = false ∧ xc = 0 ∧ (.slice A k c : Value) = .slice none 0 0 ∧ (.slice B j d : Value) = .slice none 0 0 ∧ xn = 1)) :
    scrollOk cols lv row ((n : Int) - 1) m a = true → ((m : Int) ≤ (n : Int) - row → (j : Int) = m) ∧ ((n : Int) - row < (m : Int) → (j : Int) = (n : Int) - row) := by
  intro h0
  have hr := scroll_rows h0
  rcases h with ⟨_, _, _, lv', _, _, _, h4⟩ | ⟨h, _⟩
  · have hj := h4.len
    rw [List.length_take, List.length_drop, hn] at hj
    unfold scrM at hj
    simp only [Int.min_def] at hj
    constructor
    · intro hm; split at hj <;> omega
    · intro hm; split at hj <;> omega
  · rw [h0] at h; cases h
end Go.Proofs.YteebbmmgbjpihaaDoor

namespace Go.Proofs.YteebbmmgbjpihaaDoor
open Go.RowKit

theorem scr_zero' (ls : List Ln) (f i cols : Nat) (a : At) : scrL ls f 0 i cols a = ls := by
  unfold scrL
  rw [Nat.add_zero, List.take_append_drop, List.replicate_zero, List.append_nil, List.take_append_drop]
/-- What is gone. -/
def goneT (ls : List Ln) (top bot num : Int) : List Ln := (ls.drop top.toNat).take (scrM top bot num)
theorem LR.grown_ne {W W' : World} {gg og n gc : Nat} {l : List (Ln × Value)} {row : Option Nat} (h : LR W (.slice (some ⟨gg, og, none⟩) n gc) l) (hg : W.grownBy W' row) (hne : some gg ≠ row) : LR W' (.slice (some ⟨gg, og, none⟩) n gc) l := by
  obtain ⟨A, c, e, hc, hl⟩ := h
  refine ⟨A, c, e, hc, fun hn => ?_⟩
  obtain ⟨g, o, hA, hlt, hcell⟩ := hl hn
  subst hA
  cases e
  refine ⟨gg, og, rfl, Nat.lt_of_lt_of_le hlt hg.size, fun j e he => ?_⟩
  have h1 : ∀ z, W'.cell? ⟨gg, z, none⟩ = W.cell? ⟨gg, z, none⟩ := fun z => by
    have := hg.block gg hlt hne
    unfold World.cell?
    simp only [this]
  rw [h1, h1]
  exact hcell j e he
theorem LR.set_ne {W : World} {gg og n gc b i : Nat} {l : List (Ln × Value)} (h : LR W (.slice (some ⟨gg, og, none⟩) n gc) l) (hne : gg ≠ b) (u : Value) : LR (W.setCell ⟨b, i, none⟩ u) (.slice (some ⟨gg, og, none⟩) n gc) l :=
  h.grown_ne (row := some b) ⟨rfl, rfl, rfl, by simp [World.setCell], fun k _ hk => Below.heap_setCell _ _ _ _ (fun e => hk (by rw [e]))⟩ (by simpa using hne)
/-- Where lines lie, a block of another kind does not. -/
theorem LR.not_box {W : World} {gg og n gc b : Nat} {t : TypeId} {cs : Array Value} {l : List (Ln × Value)} (h : LR W (.slice (some ⟨gg, og, none⟩) n gc) l) (hn : l ≠ []) (hb : Box W b t cs) (hcs : ∀ (i : Nat) (s : Bool), cs[i]? ≠ some (Value.bool s)) : gg ≠ b := by
  obtain ⟨A, c, e, hc, hl⟩ := h
  obtain ⟨g, o, hA, hlt, hcell⟩ := hl hn
  subst hA
  cases e
  rintro rfl
  obtain ⟨x, hx⟩ := List.exists_mem_of_ne_nil l hn
  obtain ⟨j, hj⟩ := List.mem_iff_getElem?.1 hx
  have := (hcell j x hj).2
  rw [hb.cell] at this
  exact hcs _ _ this
theorem NewOf.grown {W W' : World} {base base' : Nat} {lv l own : List (Ln × Value)} {v : Value} (h : NewOf W base lv l) (ho : OwnL W base' v own) (hg : W.grownBy W' v.ownBlock) : NewOf W' base lv l := fun x hx => (h x hx).imp id fun q => q.grown ho hg
theorem NewOf.snoc {W : World} {base : Nat} {lv l : List (Ln × Value)} (h : NewOf W base lv l) {y : Ln × Value} (hy : y ∈ lv ∨ CSl W base y.2 y.1.cs) : NewOf W base lv (l ++ [y]) := fun x hx => by
  rw [List.mem_append, List.mem_singleton] at hx
  rcases hx with hx | rfl
  · exact h x hx
  · exact hy
theorem New1.grown {W W' : World} {base base' : Nat} {lv own : List (Ln × Value)} {v : Value} {y : Ln × Value} (h : y ∈ lv ∨ CSl W base y.2 y.1.cs) (ho : OwnL W base' v own) (hg : W.grownBy W' v.ownBlock) : y ∈ lv ∨ CSl W' base y.2 y.1.cs := h.imp id fun q => q.grown ho hg
theorem New1.set {W : World} {base b i : Nat} {t : TypeId} {cs : Array Value} {lv : List (Ln × Value)} {y : Ln × Value} (h : y ∈ lv ∨ CSl W base y.2 y.1.cs) (hb : Box W b t cs) (ht : t ≠ 44) (u : Value) : y ∈ lv ∨ CSl (W.setCell ⟨b, i, none⟩ u) base y.2 y.1.cs := h.imp id fun q => q.set hb ht u

theorem own_two (A : Option Addr) (k c : Nat) (C : Int) : ∀ (i : Nat) (s : Bool), (#[.int .i64 C, .slice A k c] : Array Value)[i]? ≠ some (.bool s) := fun i s => by
  match i with
  | 0 => simp
  | 1 => simp
  | i + 2 => simp
theorem own_three (A B : Option Addr) (k c j d : Nat) (C : Int) : ∀ (i : Nat) (s : Bool), (#[.int .i64 C, .slice A k c, .slice B j d] : Array Value)[i]? ≠ some (.bool s) := fun i s => by
  match i with
  | 0 => simp
  | 1 => simp
  | 2 => simp
  | i + 3 => simp
/-- What lies behind the reference's Up. -/
def UpwPost (W : World) (cols : Int) (tgt gone : List Ln) (e : Ending) (w' : World) : Prop :=
  ∃ A k c B j d lv' gl', e = .returned (.agg #[.int .i64 cols, .slice A k c, .slice B j d]) ∧ lv'.map Prod.fst = tgt ∧ LR w' (.slice A k c) lv' ∧ CesOf w' lv' ∧ gl'.map Prod.fst = gone ∧ LR w' (.slice B j d) gl' ∧ CesOf w' gl' ∧ Below W.heap.size W w'
end Go.Proofs.YteebbmmgbjpihaaDoor
