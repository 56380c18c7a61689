/- Layer 6, plain: lines go down, and up, one by one. -/
/- Layer 6, plain: lines go up, one by one. -/
/- Layer 6, the reference: what holds while lines go up one by one. -/
import Derived.Test.YtkejoknphnkhnaaDoorGridStQ
import Derived.Test.YtkejoknphnkhnaaDoorGridLaQ
import Derived.Test.YtkejoknphnkhnaaDoorGridRbQ
namespace Go.Proofs.YtkejoknphnkhnaaDoor
open Go.RowKit

/-- Lines of a round, as far as it has come: a new one ahead of T, none of B. -/
def dnP {α : Type} (T B : Nat) (b : α) (l : List α) : Nat → List α
  | 0 => []
  | i + 1 => dnP T B b l i ++ (if i = T then [b] else []) ++ (if i = B then [] else (l[i]?).toList)
/-- .. without the one at T, a new one behind B. -/
def upP {α : Type} (T B : Nat) (b : α) (l : List α) : Nat → List α
  | 0 => []
  | i + 1 => upP T B b l i ++ (if i = T then [] else (l[i]?).toList) ++ (if i = B then [b] else [])
theorem dnP_length {α : Type} {T B : Nat} {b : α} {l : List α} (hTB : T ≤ B) : ∀ i, i ≤ l.length → (dnP T B b l i).length = if i ≤ T then i else if i ≤ B then i + 1 else i
  | 0, _ => by rw [if_pos (Nat.zero_le _)]; rfl
  | i + 1, h => by
    have hi : l[i]? = some l[i] := List.getElem?_eq_getElem (by omega)
    have e1 : (if i = T then [b] else []).length = if i = T then 1 else 0 := by split <;> rfl
    have e2 : (if i = B then [] else (some l[i]).toList).length = if i = B then 0 else 1 := by split <;> rfl
    rw [dnP, List.length_append, List.length_append, dnP_length hTB i (by omega), hi, e1, e2]
    (repeat' split) <;> omega
theorem dnP_at {α : Type} {T B : Nat} {b : α} {l : List α} (hTB : T ≤ B) : ∀ i, i ≤ l.length → ∀ j, j < (dnP T B b l i).length → (dnP T B b l i)[j]? = if j < T then l[j]? else if j = T then some b else if j ≤ B then l[j - 1]? else l[j]?
  | 0, _, j, h => by simp [dnP] at h
  | i + 1, h, j, hj => by
    have hi : l[i]? = some l[i] := List.getElem?_eq_getElem (by omega)
    have hL := dnP_length (b := b) (l := l) hTB i (by omega)
    have hL1 := dnP_length (b := b) (l := l) hTB (i + 1) h
    have ih := dnP_at (b := b) (l := l) hTB i (by omega)
    by_cases hj1 : j < (dnP T B b l i).length
    · rw [dnP, List.append_assoc, List.getElem?_append_left hj1]
      exact ih j hj1
    · rw [hL1] at hj
      rw [hL] at hj1
      rw [dnP, List.append_assoc, List.getElem?_append_right (by rw [hL]; omega), hL, hi]
      by_cases a1 : i = T
      · subst a1
        rw [if_pos rfl, if_pos (Nat.le_refl _)]
        rw [if_pos (Nat.le_refl _)] at hj1
        by_cases a3 : j = i
        · subst a3
          rw [if_neg (Nat.lt_irrefl _), if_pos rfl, Nat.sub_self]
          rfl
        · by_cases a2 : i = B
          · subst a2
            rw [if_neg (by omega), if_neg (by omega)] at hj
            omega
          · rw [if_neg (by omega), if_pos (by omega)] at hj
            have hje : j = i + 1 := by omega
            subst hje
            rw [if_neg a2, if_neg (by omega), if_neg (by omega), if_pos (by omega), show i + 1 - i = 1 by omega, show i + 1 - 1 = i by omega, hi]
            rfl
      · rw [if_neg a1, List.nil_append]
        by_cases a2 : i = B
        · subst a2
          rw [if_neg (by omega), if_neg (by omega)] at hj
          rw [if_neg (by omega), if_pos (Nat.le_refl _)] at hj1
          omega
        · rw [if_neg a2]
          by_cases a4 : i < T
          · rw [if_pos (by omega)] at hj hj1
            have hje : j = i := by omega
            subst hje
            rw [if_pos (by omega), if_pos (by omega), Nat.sub_self, hi]
            rfl
          · by_cases a5 : i < B
            · rw [if_neg (by omega), if_pos (by omega)] at hj hj1
              have hje : j = i + 1 := by omega
              subst hje
              rw [if_neg (by omega), if_pos (by omega), if_neg (by omega), if_neg (by omega), if_pos (by omega), Nat.sub_self, show i + 1 - 1 = i by omega, hi]
              rfl
            · rw [if_neg (by omega), if_neg (by omega)] at hj hj1
              have hje : j = i := by omega
              subst hje
              rw [if_neg (by omega), if_neg (by omega), if_neg (by omega), if_neg (by omega), if_neg (by omega), Nat.sub_self, hi]
              rfl
theorem dn_length {α : Type} {T B : Nat} {b : α} {l : List α} (hTB : T ≤ B) (hB : B < l.length) : (dnP T B b l l.length).length = l.length := by
  rw [dnP_length hTB _ (Nat.le_refl _), if_neg (by omega), if_neg (by omega)]
theorem scr_at {ls : List Ln} {f m i cols : Nat} {a : At} (h : f + m ≤ ls.length) (hi : i + m ≤ ls.length) {j : Nat} (hj : j < ls.length) :
    (scrL ls f m i cols a)[j]? = if j < i then (if j < f then ls[j]? else ls[j + m]?) else if j < i + m then some (bareN cols a) else if j - m < f then ls[j - m]? else ls[j]? := by
  have hl : (ls.take f ++ ls.drop (f + m)).length = ls.length - m := by rw [List.length_append, List.length_take, List.length_drop]; omega
  have hat : ∀ q, q < ls.length - m → (ls.take f ++ ls.drop (f + m))[q]? = if q < f then ls[q]? else ls[q + m]? := fun q hq => by
    by_cases a1 : q < f
    · rw [if_pos a1, List.getElem?_append_left (by rw [List.length_take]; omega), List.getElem?_take, if_pos a1]
    · rw [if_neg a1, List.getElem?_append_right (by rw [List.length_take]; omega), List.length_take, List.getElem?_drop]
      congr 1
      omega
  unfold scrL
  have h1 : ((ls.take f ++ ls.drop (f + m)).take i).length = i := by rw [List.length_take, hl]; omega
  by_cases a1 : j < i
  · rw [if_pos a1, List.getElem?_append_left (by rw [List.length_append, h1]; omega), List.getElem?_append_left (by omega), List.getElem?_take, if_pos a1, hat j (by omega)]
  · rw [if_neg a1]
    by_cases a2 : j < i + m
    · rw [if_pos a2, List.getElem?_append_left (by rw [List.length_append, h1, List.length_replicate]; omega), List.getElem?_append_right (by omega), h1, List.getElem?_replicate, if_pos (by omega)]
    · rw [if_neg a2, List.getElem?_append_right (by rw [List.length_append, h1, List.length_replicate]; omega), List.length_append, h1, List.length_replicate, List.getElem?_drop, show i + (j - (i + m)) = j - m by omega, hat _ (by omega), show j - m + m = j by omega]
/-- One more goes down. -/
theorem dn_step {ls : List Ln} {T B k cols : Nat} {a : At} (hTB : T ≤ B) (hB : B < ls.length) (hk : k < B - T + 1) :
    dnP T B (bareN cols a) (scrL ls (B + 1 - k) k T cols a) ls.length = scrL ls (B + 1 - (k + 1)) (k + 1) T cols a := by
  have hlen : (scrL ls (B + 1 - k) k T cols a).length = ls.length := scr_len (by omega)
  have hlen2 : (scrL ls (B + 1 - (k + 1)) (k + 1) T cols a).length = ls.length := scr_len (by omega)
  apply List.ext_getElem?
  intro j
  by_cases hj : j < ls.length
  · have hr := scr_at (ls := ls) (f := B + 1 - (k + 1)) (m := k + 1) (i := T) (cols := cols) (a := a) (by omega) (by omega) hj
    have hl := fun q (hq : q < ls.length) => scr_at (ls := ls) (f := B + 1 - k) (m := k) (i := T) (cols := cols) (a := a) (j := q) (by omega) (by omega) hq
    have hd := dnP_at (b := bareN cols a) (l := scrL ls (B + 1 - k) k T cols a) hTB _ (Nat.le_refl _) j (by rw [dn_length hTB (by omega)]; omega)
    rw [hlen] at hd
    rw [hr, hd]
    by_cases a1 : j < T
    · rw [if_pos a1, if_pos a1, hl j hj, if_pos a1, if_pos (by omega), if_pos (by omega)]
    · rw [if_neg a1, if_neg a1]
      by_cases a2 : j = T
      · rw [if_pos a2, if_pos (by omega)]
      · rw [if_neg a2]
        by_cases a3 : j ≤ B
        · rw [if_pos a3, hl (j - 1) (by omega), if_neg (by omega)]
          by_cases a4 : j < T + (k + 1)
          · rw [if_pos (by omega), if_pos a4]
          · rw [if_neg (by omega), if_neg a4, if_pos (by omega), if_pos (by omega), show j - 1 - k = j - (k + 1) by omega]
        · rw [if_neg a3, hl j hj, if_neg (by omega), if_neg (by omega), if_neg (by omega), if_neg (by omega), if_neg (by omega)]
  · have hdl := dn_length (b := bareN cols a) (l := scrL ls (B + 1 - k) k T cols a) hTB (by omega)
    rw [hlen] at hdl
    rw [List.getElem?_eq_none (by rw [hdl]; omega), List.getElem?_eq_none (by rw [hlen2]; omega)]
end Go.Proofs.YtkejoknphnkhnaaDoor

namespace Go.Proofs.YtkejoknphnkhnaaDoor
open Go.RowKit

theorem upP_length {α : Type} {T B : Nat} {b : α} {l : List α} (hTB : T ≤ B) : ∀ i, i ≤ l.length → (upP T B b l i).length = if i ≤ T then i else if i ≤ B then i - 1 else i
  | 0, _ => by rw [if_pos (Nat.zero_le _)]; rfl
  | i + 1, h => by
    have hi : l[i]? = some l[i] := List.getElem?_eq_getElem (by omega)
    have e1 : (if i = T then [] else (some l[i]).toList).length = if i = T then 0 else 1 := by split <;> rfl
    have e2 : (if i = B then [b] else []).length = if i = B then 1 else 0 := by split <;> rfl
    rw [upP, List.length_append, List.length_append, upP_length hTB i (by omega), hi, e1, e2]
    (repeat' split) <;> omega
theorem upP_at {α : Type} {T B : Nat} {b : α} {l : List α} (hTB : T ≤ B) : ∀ i, i ≤ l.length → ∀ j, j < (upP T B b l i).length → (upP T B b l i)[j]? = if j < T then l[j]? else if j < B then l[j + 1]? else if j = B then some b else l[j]?
  | 0, _, j, h => by simp [upP] at h
  | i + 1, h, j, hj => by
    have hi : l[i]? = some l[i] := List.getElem?_eq_getElem (by omega)
    have hL := upP_length (b := b) (l := l) hTB i (by omega)
    have hL1 := upP_length (b := b) (l := l) hTB (i + 1) h
    have ih := upP_at (b := b) (l := l) hTB i (by omega)
    by_cases hj1 : j < (upP T B b l i).length
    · rw [upP, List.append_assoc, List.getElem?_append_left hj1]
      exact ih j hj1
    · rw [hL1] at hj
      rw [hL] at hj1
      rw [upP, List.append_assoc, List.getElem?_append_right (by rw [hL]; omega), hL, hi]
      by_cases a1 : i = T
      · subst a1
        rw [if_pos rfl, if_pos (Nat.le_refl _), List.nil_append]
        rw [if_pos (Nat.le_refl _)] at hj1
        by_cases a2 : i = B
        · subst a2
          rw [if_neg (by omega), if_neg (by omega)] at hj
          obtain rfl : j = i := by omega
          rw [if_pos rfl, if_neg (Nat.lt_irrefl _), if_neg (Nat.lt_irrefl _), if_pos rfl, Nat.sub_self]
          rfl
        · rw [if_neg (by omega), if_pos (by omega)] at hj
          omega
      · rw [if_neg a1]
        by_cases a4 : i < T
        · rw [if_pos (by omega)] at hj hj1
          obtain rfl : j = i := by omega
          rw [if_neg (show ¬ j = B by omega), List.append_nil, if_pos (show j ≤ T by omega), if_pos a4, Nat.sub_self, hi]
          rfl
        · by_cases a2 : i = B
          · subst a2
            rw [if_neg (by omega), if_neg (by omega)] at hj
            rw [if_neg (by omega), if_pos (Nat.le_refl _)] at hj1
            rw [if_pos rfl, if_neg (by omega), if_pos (Nat.le_refl _)]
            by_cases a3 : j = i
            · rw [if_neg (by omega), if_neg (by omega), if_pos a3, show j - (i - 1) = 1 by omega]
              rfl
            · rw [if_neg (by omega), if_pos (by omega), show j - (i - 1) = 0 by omega, show j + 1 = i by omega, hi]
              rfl
          · rw [if_neg a2, List.append_nil]
            by_cases a5 : i < B
            · rw [if_neg (by omega), if_pos (by omega)] at hj hj1
              rw [if_neg (by omega), if_pos (by omega), if_neg (by omega), if_pos (by omega), show j - (i - 1) = 0 by omega, show j + 1 = i by omega, hi]
              rfl
            · rw [if_neg (by omega), if_neg (by omega)] at hj hj1
              obtain rfl : j = i := by omega
              rw [if_neg (by omega), if_neg (by omega), if_neg (by omega), if_neg (by omega), if_neg (by omega), Nat.sub_self, hi]
              rfl
theorem up_length {α : Type} {T B : Nat} {b : α} {l : List α} (hTB : T ≤ B) (hB : B < l.length) : (upP T B b l l.length).length = l.length := by
  rw [upP_length hTB _ (Nat.le_refl _), if_neg (by omega), if_neg (by omega)]
/-- One more goes up. -/
theorem up_step {ls : List Ln} {T B k cols : Nat} {a : At} (hTB : T ≤ B) (hB : B < ls.length) (hk : k < B - T + 1) :
    upP T B (bareN cols a) (scrL ls T k (B + 1 - k) cols a) ls.length = scrL ls T (k + 1) (B + 1 - (k + 1)) cols a := by
  have hlen : (scrL ls T k (B + 1 - k) cols a).length = ls.length := scr_len (by omega)
  have hlen2 : (scrL ls T (k + 1) (B + 1 - (k + 1)) cols a).length = ls.length := scr_len (by omega)
  apply List.ext_getElem?
  intro j
  by_cases hj : j < ls.length
  · have hr := scr_at (ls := ls) (f := T) (m := k + 1) (i := B + 1 - (k + 1)) (cols := cols) (a := a) (by omega) (by omega) hj
    have hl := fun q (hq : q < ls.length) => scr_at (ls := ls) (f := T) (m := k) (i := B + 1 - k) (cols := cols) (a := a) (j := q) (by omega) (by omega) hq
    have hd := upP_at (b := bareN cols a) (l := scrL ls T k (B + 1 - k) cols a) hTB _ (Nat.le_refl _) j (by rw [up_length hTB (by omega)]; omega)
    rw [hlen] at hd
    rw [hr, hd]
    by_cases a1 : j < T
    · rw [if_pos a1, hl j hj, if_pos (by omega), if_pos a1, if_pos (by omega), if_pos a1]
    · rw [if_neg a1]
      by_cases a2 : j < B
      · rw [if_pos a2, hl (j + 1) (by omega)]
        by_cases a3 : j < B + 1 - (k + 1)
        · rw [if_pos (by omega), if_neg (by omega), if_pos a3, if_neg a1, show j + 1 + k = j + (k + 1) by omega]
        · rw [if_neg (by omega), if_pos (by omega), if_neg a3, if_pos (by omega)]
      · rw [if_neg a2]
        by_cases a3 : j = B
        · rw [if_pos a3, if_neg (by omega), if_pos (by omega)]
        · rw [if_neg a3, hl j hj, if_neg (by omega), if_neg (by omega), if_neg (by omega), if_neg (by omega), if_neg (by omega), if_neg (by omega)]
  · have hdl := up_length (b := bareN cols a) (l := scrL ls T k (B + 1 - k) cols a) hTB (by omega)
    rw [hlen] at hdl
    rw [List.getElem?_eq_none (by rw [hdl]; omega), List.getElem?_eq_none (by rw [hlen2]; omega)]
/-- The line that goes. -/
theorem up_gone {ls : List Ln} {T B k cols : Nat} {a : At} (hTB : T ≤ B) (hB : B < ls.length) (hk : k < B - T + 1) : (scrL ls T k (B + 1 - k) cols a)[T]? = ls[T + k]? := by
  rw [scr_at (by omega) (by omega) (by omega), if_pos (by omega), if_neg (Nat.lt_irrefl _)]
end Go.Proofs.YtkejoknphnkhnaaDoor

namespace Go.Proofs.YtkejoknphnkhnaaDoor
open Go.RowKit

theorem scr_zero' (ls : List Ln) (f i cols : Nat) (a : At) : scrL ls f 0 i cols a = ls := by
  unfold scrL
  rw [Nat.add_zero, List.take_append_drop, List.replicate_zero, List.append_nil, List.take_append_drop]
/-- What is gone. -/
def goneT (ls : List Ln) (top bot num : Int) : List Ln := (ls.drop top.toNat).take (scrM top bot num)
theorem LR.grown_ne {W W' : World} {gg og n gc : Nat} {l : List (Ln × Value)} {row : Option Nat} (h : LR W (.slice (some ⟨gg, og, none⟩) n gc) l) (hg : W.grownBy W' row) (hne : some gg ≠ row) : LR W' (.slice (some ⟨gg, og, none⟩) n gc) l := by
  obtain ⟨A, c, e, hc, hl⟩ := h
  refine ⟨A, c, e, hc, fun hn => ?_⟩
  obtain ⟨g, o, hA, hlt, hcell⟩ := hl hn
  subst hA
  cases e
  refine ⟨gg, og, rfl, Nat.lt_of_lt_of_le hlt hg.size, fun j e he => ?_⟩
  have h1 : ∀ z, W'.cell? ⟨gg, z, none⟩ = W.cell? ⟨gg, z, none⟩ := fun z => by
    have := hg.block gg hlt hne
    unfold World.cell?
    simp only [this]
  rw [h1, h1]
  exact hcell j e he
theorem LR.set_ne {W : World} {gg og n gc b i : Nat} {l : List (Ln × Value)} (h : LR W (.slice (some ⟨gg, og, none⟩) n gc) l) (hne : gg ≠ b) (u : Value) : LR (W.setCell ⟨b, i, none⟩ u) (.slice (some ⟨gg, og, none⟩) n gc) l :=
  h.grown_ne (row := some b) ⟨rfl, rfl, rfl, by simp [World.setCell], fun k _ hk => Below.heap_setCell _ _ _ _ (fun e => hk (by rw [e]))⟩ (by simpa using hne)
/-- Where lines lie, a block of another kind does not. -/
theorem LR.not_box {W : World} {gg og n gc b : Nat} {t : TypeId} {cs : Array Value} {l : List (Ln × Value)} (h : LR W (.slice (some ⟨gg, og, none⟩) n gc) l) (hn : l ≠ []) (hb : Box W b t cs) (hcs : ∀ (i : Nat) (s : Bool), cs[i]? ≠ some (Value.bool s)) : gg ≠ b := by
  obtain ⟨A, c, e, hc, hl⟩ := h
  obtain ⟨g, o, hA, hlt, hcell⟩ := hl hn
  subst hA
  cases e
  rintro rfl
  obtain ⟨x, hx⟩ := List.exists_mem_of_ne_nil l hn
  obtain ⟨j, hj⟩ := List.mem_iff_getElem?.1 hx
  have := (hcell j x hj).2
  rw [hb.cell] at this
  exact hcs _ _ this
theorem NewOf.grown {W W' : World} {base base' : Nat} {lv l own : List (Ln × Value)} {v : Value} (h : NewOf W base lv l) (ho : OwnL W base' v own) (hg : W.grownBy W' v.ownBlock) : NewOf W' base lv l := fun x hx => (h x hx).imp id fun q => q.grown ho hg
theorem NewOf.snoc {W : World} {base : Nat} {lv l : List (Ln × Value)} (h : NewOf W base lv l) {y : Ln × Value} (hy : y ∈ lv ∨ CSl W base y.2 y.1.cs) : NewOf W base lv (l ++ [y]) := fun x hx => by
  rw [List.mem_append, List.mem_singleton] at hx
  rcases hx with hx | rfl
  · exact h x hx
  · exact hy
theorem New1.grown {W W' : World} {base base' : Nat} {lv own : List (Ln × Value)} {v : Value} {y : Ln × Value} (h : y ∈ lv ∨ CSl W base y.2 y.1.cs) (ho : OwnL W base' v own) (hg : W.grownBy W' v.ownBlock) : y ∈ lv ∨ CSl W' base y.2 y.1.cs := h.imp id fun q => q.grown ho hg
theorem New1.set {W : World} {base b i : Nat} {t : TypeId} {cs : Array Value} {lv : List (Ln × Value)} {y : Ln × Value} (h : y ∈ lv ∨ CSl W base y.2 y.1.cs) (hb : Box W b t cs) (ht : t ≠ 66) (u : Value) : y ∈ lv ∨ CSl (W.setCell ⟨b, i, none⟩ u) base y.2 y.1.cs := h.imp id fun q => q.set hb ht u

structure UpS (W wr : World) (lv : List (Ln × Value)) (C n : Nat) (v0 : Value) (fg bg fl : Int) (gg og gc : Nat) (lvk : List (Ln × Value)) (ob : Nat) (ov gv : Value) (done gl : List (Ln × Value)) : Prop where
  xg : Box wr W.heap.size 24 #[.int .i64 (C : Int), v0]
  xa : Box wr (W.heap.size + 1) 26 #[.int .i64 fg, .int .i64 bg, .int .i64 fl]
  xz : Box wr (W.heap.size + 1 + 1) 35 #[.int .i64 0, .slice none 0 0, .slice none 0 0]
  xt : Box wr (W.heap.size + 1 + 1 + 1) 35 #[.int .i64 (C : Int), .slice (some ⟨gg, og, none⟩) n gc, gv]
  xo : Box wr ob 24 #[.int .i64 (C : Int), ov]
  lr : LR wr (.slice (some ⟨gg, og, none⟩) n gc) lvk
  ne : lvk ≠ []
  lt : gg < wr.heap.size
  nk : NewOf wr W.heap.size lv lvk
  od : OwnL wr W.heap.size ov done
  nd : NewOf wr W.heap.size lv done
  ow : OwnL wr W.heap.size gv gl
  ng : NewOf wr W.heap.size lv gl
  a1 : ∀ q, gv.ownBlock = some q → gg ≠ q ∧ ov.ownBlock ≠ some q
  a2 : ∀ q, ov.ownBlock = some q → gg ≠ q
  hb : Below W.heap.size W wr
  ho : W.heap.size + 1 + 1 + 1 < ob

section
variable {W wr : World} {lv : List (Ln × Value)} {C n : Nat} {v0 : Value} {fg bg fl : Int} {gg og gc : Nat} {lvk : List (Ln × Value)} {ob : Nat} {ov gv : Value} {done gl : List (Ln × Value)}
theorem UpS.below (h : UpS W wr lv C n v0 fg bg fl gg og gc lvk ob ov gv done gl) {w' : World} (hb : Below wr.heap.size wr w') : UpS W w' lv C n v0 fg bg fl gg og gc lvk ob ov gv done gl :=
  ⟨h.xg.below hb h.xg.lt, h.xa.below hb h.xa.lt, h.xz.below hb h.xz.lt, h.xt.below hb h.xt.lt, h.xo.below hb h.xo.lt, h.lr.below hb, h.ne, Nat.lt_of_lt_of_le h.lt hb.size, h.nk.below hb (Nat.le_refl _), h.od.kept hb, h.nd.below hb (Nat.le_refl _), h.ow.kept hb, h.ng.below hb (Nat.le_refl _), h.a1, h.a2, h.hb.trans (hb.mono h.hb.size), h.ho⟩
theorem own_two (A : Option Addr) (k c : Nat) (C : Int) : ∀ (i : Nat) (s : Bool), (#[.int .i64 C, .slice A k c] : Array Value)[i]? ≠ some (.bool s) := fun i s => by
  match i with
  | 0 => simp
  | 1 => simp
  | i + 2 => simp
theorem own_three (A B : Option Addr) (k c j d : Nat) (C : Int) : ∀ (i : Nat) (s : Bool), (#[.int .i64 C, .slice A k c, .slice B j d] : Array Value)[i]? ≠ some (.bool s) := fun i s => by
  match i with
  | 0 => simp
  | 1 => simp
  | 2 => simp
  | i + 3 => simp
/-- A line more in the grid that is made. -/
theorem UpS.out (h : UpS W wr lv C n v0 fg bg fl gg og gc lvk ob ov gv done gl) {w7 : World} {v' : Value} {y : Ln × Value} (hy : y ∈ lv ∨ CSl wr W.heap.size y.2 y.1.cs) (h7 : OwnL w7 W.heap.size v' (done ++ [y])) (hg : wr.grownBy w7 ov.ownBlock) (hv : v'.ownBlock = ov.ownBlock ∨ v'.ownBlock = some wr.heap.size) :
    UpS W (w7.setCell ⟨ob, 1, none⟩ v') lv C n v0 fg bg fl gg og gc lvk ob v' gv (done ++ [y]) gl := by
  have ho := h.ho
  obtain ⟨A, c, rfl⟩ := h.od.spell
  obtain ⟨B, d, rfl⟩ := h.ow.spell
  have hgo := h.lr.not_box h.ne h.xo (own_two _ _ _ _)
  have hne : some gg ≠ (Value.slice A done.length c).ownBlock := fun e => h.a2 _ e.symm rfl
  have xo7 := h.xo.grown hg (h.od.not_box h.xo (by decide))
  have hw7 : OwnL w7 W.heap.size (.slice B gl.length d) gl := World.ownsRow.kept h.ow hg (by
    cases e : (Value.slice B gl.length d).ownBlock with
    | none => exact .inl rfl
    | some q => exact .inr fun e2 => (h.a1 q e).2 e2.symm)
  refine ⟨(h.xg.grown hg (h.od.not_box h.xg (by decide))).other (by omega) _, (h.xa.grown hg (h.od.not_box h.xa (by decide))).other (by omega) _, (h.xz.grown hg (h.od.not_box h.xz (by decide))).other (by omega) _, (h.xt.grown hg (h.od.not_box h.xt (by decide))).other (by omega) _,
    xo7.set (i := 1) v', (h.lr.grown_ne hg hne).set_ne hgo _, h.ne, by rw [size_set]; exact Nat.lt_of_lt_of_le h.lt hg.size, (h.nk.grown h.od hg).set xo7 (by decide) _, h7.set xo7 (by decide) _, ((h.nd.grown h.od hg).snoc (New1.grown hy h.od hg)).set xo7 (by decide) _,
    hw7.set xo7 (by decide) _, (h.ng.grown h.od hg).set xo7 (by decide) _, fun q hq => ⟨(h.a1 q hq).1, fun e => ?_⟩, fun q hq => ?_, below_set (h.hb.grown hg h.hb.size fun q hq => (World.ownsRow.lt h.od q hq).1) (by omega) _, h.ho⟩
  · rcases hv with hv | hv
    · exact (h.a1 q hq).2 (hv.symm.trans e)
    · have h1 : q = wr.heap.size := by rw [hv] at e; exact (Option.some.inj e).symm
      have := (World.ownsRow.lt h.ow q hq).2
      omega
  · rcases hv with hv | hv
    · exact h.a2 q (hv.symm.trans hq)
    · have h1 : q = wr.heap.size := by rw [hv] at hq; exact (Option.some.inj hq).symm
      have := h.lt
      omega
/-- A line more that is gone. -/
theorem UpS.gone (h : UpS W wr lv C n v0 fg bg fl gg og gc lvk ob ov gv done gl) {w7 : World} {v' : Value} {y : Ln × Value} (hy : y ∈ lv ∨ CSl wr W.heap.size y.2 y.1.cs) (h7 : OwnL w7 W.heap.size v' (gl ++ [y])) (hg : wr.grownBy w7 gv.ownBlock) (hv : v'.ownBlock = gv.ownBlock ∨ v'.ownBlock = some wr.heap.size) :
    UpS W (w7.setCell ⟨W.heap.size + 1 + 1 + 1, 2, none⟩ v') lv C n v0 fg bg fl gg og gc lvk ob ov v' done (gl ++ [y]) := by
  have ho := h.ho
  obtain ⟨A, c, rfl⟩ := h.od.spell
  obtain ⟨B, d, rfl⟩ := h.ow.spell
  have hgo := h.lr.not_box h.ne h.xt (own_three _ _ _ _ _ _ _)
  have hne : some gg ≠ (Value.slice B gl.length d).ownBlock := fun e => (h.a1 _ e.symm).1 rfl
  have xt7 := h.xt.grown hg (h.ow.not_box h.xt (by decide))
  have hw7 : OwnL w7 W.heap.size (.slice A done.length c) done := World.ownsRow.kept h.od hg (by
    cases e : (Value.slice A done.length c).ownBlock with
    | none => exact .inl rfl
    | some q => exact .inr fun e2 => (h.a1 q e2.symm).2 e)
  refine ⟨(h.xg.grown hg (h.ow.not_box h.xg (by decide))).other (by omega) _, (h.xa.grown hg (h.ow.not_box h.xa (by decide))).other (by omega) _, (h.xz.grown hg (h.ow.not_box h.xz (by decide))).other (by omega) _, xt7.set (i := 2) v',
    (h.xo.grown hg (h.ow.not_box h.xo (by decide))).other (by omega) _, (h.lr.grown_ne hg hne).set_ne hgo _, h.ne, by rw [size_set]; exact Nat.lt_of_lt_of_le h.lt hg.size, (h.nk.grown h.ow hg).set xt7 (by decide) _, hw7.set xt7 (by decide) _, (h.nd.grown h.ow hg).set xt7 (by decide) _,
    h7.set xt7 (by decide) _, ((h.ng.grown h.ow hg).snoc (New1.grown hy h.ow hg)).set xt7 (by decide) _, fun q hq => ?_, h.a2, below_set (h.hb.grown hg h.hb.size fun q hq => (World.ownsRow.lt h.ow q hq).1) (by omega) _, h.ho⟩
  rcases hv with hv | hv
  · exact h.a1 q (hv.symm.trans hq)
  · have h1 : q = wr.heap.size := by rw [hv] at hq; exact (Option.some.inj hq).symm
    have h2 := h.lt
    refine ⟨by omega, fun e => ?_⟩
    have := (World.ownsRow.lt h.od q e).2
    omega
/-- The same at a round's head: nothing is made yet. -/
structure UwS (W wr : World) (lv : List (Ln × Value)) (C n : Nat) (v0 : Value) (fg bg fl : Int) (gg og gc : Nat) (lvk : List (Ln × Value)) (gv : Value) (gl : List (Ln × Value)) : Prop where
  xg : Box wr W.heap.size 24 #[.int .i64 (C : Int), v0]
  xa : Box wr (W.heap.size + 1) 26 #[.int .i64 fg, .int .i64 bg, .int .i64 fl]
  xz : Box wr (W.heap.size + 1 + 1) 35 #[.int .i64 0, .slice none 0 0, .slice none 0 0]
  xt : Box wr (W.heap.size + 1 + 1 + 1) 35 #[.int .i64 (C : Int), .slice (some ⟨gg, og, none⟩) n gc, gv]
  lr : LR wr (.slice (some ⟨gg, og, none⟩) n gc) lvk
  ne : lvk ≠ []
  lt : gg < wr.heap.size
  nk : NewOf wr W.heap.size lv lvk
  ow : OwnL wr W.heap.size gv gl
  ng : NewOf wr W.heap.size lv gl
  a1 : ∀ q, gv.ownBlock = some q → gg ≠ q
  hb : Below W.heap.size W wr
theorem UwS.start (h : UwS W wr lv C n v0 fg bg fl gg og gc lvk gv gl) : UpS W (wr.alloc (.cells #[.int .i64 (C : Int), .slice none 0 0] 24)) lv C n v0 fg bg fl gg og gc lvk wr.heap.size (.slice none 0 0) gv [] gl := by
  have hb := below_alloc wr (.cells #[.int .i64 (C : Int), .slice none 0 0] 24)
  refine ⟨h.xg.alloc _, h.xa.alloc _, h.xz.alloc _, h.xt.alloc _, Box.new _ _ _, h.lr.below hb, h.ne, Nat.lt_of_lt_of_le h.lt hb.size, h.nk.below hb (Nat.le_refl _), OwnL.nil _ _, fun x hx => by simp at hx, h.ow.kept hb, h.ng.below hb (Nat.le_refl _), fun q hq => ⟨h.a1 q hq, by simp [Value.ownBlock]⟩, fun q hq => by simp [Value.ownBlock] at hq, h.hb.trans (hb.mono h.hb.size), h.xt.lt⟩
/-- The made grid is the next one. -/
theorem UpS.next (h : UpS W wr lv C n v0 fg bg fl gg og gc lvk ob ov gv done gl) {g3 o3 oc : Nat} (hv : ov = .slice (some ⟨g3, o3, none⟩) n oc) (hd : done ≠ []) :
    UwS W ((wr.setCell ⟨W.heap.size + 1 + 1 + 1, 0, none⟩ (.int .i64 (C : Int))).setCell ⟨W.heap.size + 1 + 1 + 1, 1, none⟩ (.slice (some ⟨g3, o3, none⟩) n oc)) lv C n v0 fg bg fl g3 o3 oc done gv gl := by
  subst hv
  obtain ⟨B, d, rfl⟩ := h.ow.spell
  have hr : LR wr (.slice (some ⟨g3, o3, none⟩) n oc) done := h.od.lsl.row
  have hgo := hr.not_box hd h.xt (own_three _ _ _ _ _ _ _)
  have xt2 := h.xt.set (i := 0) (.int .i64 (C : Int))
  have hlt := (World.ownsRow.lt h.od g3 rfl).2
  refine ⟨(h.xg.other (by omega) _).other (by omega) _, (h.xa.other (by omega) _).other (by omega) _, (h.xz.other (by omega) _).other (by omega) _, xt2.set (i := 1) _, (hr.set_ne hgo _).set_ne hgo _, hd, by rw [size_set, size_set]; exact hlt, (h.nd.set h.xt (by decide) _).set xt2 (by decide) _, (h.ow.set h.xt (by decide) _).set xt2 (by decide) _, (h.ng.set h.xt (by decide) _).set xt2 (by decide) _, fun q hq e => ?_, below_set (below_set h.hb (by omega) _) (by omega) _⟩
  exact (h.a1 q hq).2 (by rw [← e]; rfl)
/-- What lies behind the reference's Up. -/
def UpwPost (W : World) (cols : Int) (tgt gone : List Ln) (e : Ending) (w' : World) : Prop :=
  ∃ A k c B j d lv' gl', e = .returned (.agg #[.int .i64 cols, .slice A k c, .slice B j d]) ∧ lv'.map Prod.fst = tgt ∧ LR w' (.slice A k c) lv' ∧ CesOf w' lv' ∧ gl'.map Prod.fst = gone ∧ LR w' (.slice B j d) gl' ∧ CesOf w' gl' ∧ Below W.heap.size W w'
theorem UwS.fin (h : UwS W wr lv C n v0 fg bg fl gg og gc lvk gv gl) (hc : CesOf W lv) {tgt gone : List Ln} (ht : lvk.map Prod.fst = tgt) (hgn : gl.map Prod.fst = gone) {B : Option Addr} {j d : Nat} (hgv : gv = .slice B j d) :
    UpwPost W C tgt gone (.returned (.agg #[.int .i64 (C : Int), .slice (some ⟨gg, og, none⟩) n gc, .slice B j d])) (((wr.setCell ⟨W.heap.size + 1 + 1, 0, none⟩ (.int .i64 (C : Int))).setCell ⟨W.heap.size + 1 + 1, 1, none⟩ (.slice (some ⟨gg, og, none⟩) n gc)).setCell ⟨W.heap.size + 1 + 1, 2, none⟩ (.slice B j d)) := by
  subst hgv
  have hgo := h.lr.not_box h.ne h.xz (own_three _ _ _ _ _ _ _)
  have x1 := h.xz.set (i := 0) (.int .i64 (C : Int))
  have x2 := x1.set (i := 1) (.slice (some ⟨gg, og, none⟩) n gc)
  have hbb := below_set (below_set (below_set h.hb (b := W.heap.size + 1 + 1) (i := 0) (by omega) (.int .i64 (C : Int))) (b := W.heap.size + 1 + 1) (i := 1) (by omega) (.slice (some ⟨gg, og, none⟩) n gc)) (b := W.heap.size + 1 + 1) (i := 2) (by omega) (.slice B j d)
  have hc2 := hc.below hbb
  exact ⟨_, _, _, _, _, _, lvk, gl, rfl, ht, ((h.lr.set_ne hgo _).set_ne hgo _).set_ne hgo _, (((h.nk.set h.xz (by decide) _).set x1 (by decide) _).set x2 (by decide) _).ces hc2, hgn,
    ((((h.ow.set h.xz (by decide) _).set x1 (by decide) _).set x2 (by decide) _).lsl).row, (((h.ng.set h.xz (by decide) _).set x1 (by decide) _).set x2 (by decide) _).ces hc2, hbb⟩
end
end Go.Proofs.YtkejoknphnkhnaaDoor
