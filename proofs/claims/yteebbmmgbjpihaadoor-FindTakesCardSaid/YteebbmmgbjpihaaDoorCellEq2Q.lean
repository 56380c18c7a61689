/- Layer 8, plain: rows that are joined, their letters, folded, said. -/
/- Layer 10, plain: where a text stands; what is found, forward and back. -/
/- Layer 4: cells that differ, compared. -/
import Derived.Test.YteebbmmgbjpihaaDoorBackPQ
import Derived.Test.YteebbmmgbjpihaaDoorGridEraseQ
import Derived.Test.YteebbmmgbjpihaaDoorCellIQ
namespace Go.Proofs.YteebbmmgbjpihaaDoor
open Go.RowKit

/-- No look, and no letter. -/
def b0C : Ce := ⟨⟨#[]⟩, 1, 0, 0, 0⟩
theorem b0_blk : blkC ⟨0, 0, 0⟩ = b0C := rfl
def blank0 (c : Ce) : Bool := decide (c.tx.size = 0 ∧ c.wd = 1 ∧ c.fg = 0 ∧ c.bg = 0 ∧ c.fl = 0)
theorem blank0_iff {c : Ce} : blank0 c = true ↔ c = b0C := by
  unfold blank0
  rw [decide_eq_true_iff]
  refine ⟨fun ⟨h0, h1, h2, h3, h4⟩ => ?_, fun h => by rw [h]; exact ⟨rfl, rfl, rfl, rfl, rfl⟩⟩
  obtain ⟨tx, wd, fg, bg, fl⟩ := c
  simp only at h0 h1 h2 h3 h4
  rw [empty_yes h0, h1, h2, h3, h4]
  rfl
theorem blank0_b0 : blank0 b0C = true := blank0_iff.2 rfl
/-- How many cells of so many stay, without blank ones at the end. -/
def trimN (l : List Ce) : Nat → Nat
  | 0 => 0
  | n + 1 => match l[n]? with
    | some c => if blank0 c = true then trimN l n else n + 1
    | none => trimN l n
theorem trimN_le (l : List Ce) : ∀ n, trimN l n ≤ n
  | 0 => Nat.le_refl _
  | n + 1 => by
    unfold trimN
    have := trimN_le l n
    split
    · split <;> omega
    · omega
theorem trimN_blank {l : List Ce} {n : Nat} {c : Ce} (h : l[n]? = some c) (hb : blank0 c = true) : trimN l (n + 1) = trimN l n := by
  rw [trimN, h]
  simp [hb]
theorem trimN_stop {l : List Ce} {n : Nat} {c : Ce} (h : l[n]? = some c) (hb : blank0 c = false) : trimN l (n + 1) = n + 1 := by
  rw [trimN, h]
  simp [hb]
def trimL (l : List Ce) : List Ce := l.take (trimN l l.length)
theorem trimN_append (a b : List Ce) : ∀ n, n ≤ a.length → trimN (a ++ b) n = trimN a n
  | 0, _ => rfl
  | n + 1, h => by
    have e : (a ++ b)[n]? = a[n]? := List.getElem?_append_left (by omega)
    unfold trimN
    rw [e, trimN_append a b n (by omega)]
theorem trimL_snoc_blank (l : List Ce) {c : Ce} (h : blank0 c = true) : trimL (l ++ [c]) = trimL l := by
  unfold trimL
  rw [List.length_append, List.length_singleton, trimN_blank (c := c) (by simp) h, trimN_append l [c] _ (Nat.le_refl _), List.take_append_of_le_length (trimN_le l _)]
theorem trimL_snoc_stop (l : List Ce) {c : Ce} (h : blank0 c = false) : trimL (l ++ [c]) = l ++ [c] := by
  unfold trimL
  rw [List.length_append, List.length_singleton, trimN_stop (c := c) (by simp) h]
  exact List.take_of_length_le (by simp)
theorem snoc_ind {α : Type} {P : List α → Prop} (h0 : P []) (h1 : ∀ l c, P l → P (l ++ [c])) (l : List α) : P l := by
  rw [← List.reverse_reverse l]
  induction l.reverse with
  | nil => exact h0
  | cons c r ih => rw [List.reverse_cons]; exact h1 _ _ ih
/-- What was left out is blank. -/
theorem trimL_rep (l : List Ce) : ∃ k, l = trimL l ++ List.replicate k b0C := by
  refine snoc_ind (P := fun l => ∃ k, l = trimL l ++ List.replicate k b0C) ⟨0, rfl⟩ (fun l c ⟨k, ih⟩ => ?_) l
  cases h : blank0 c
  · exact ⟨0, by rw [trimL_snoc_stop l h, List.replicate_zero, List.append_nil]⟩
  · refine ⟨k + 1, ?_⟩
    rw [trimL_snoc_blank l h, List.replicate_succ', ← List.append_assoc, ← ih, blank0_iff.1 h]
theorem trimL_pad (l : List Ce) : ∀ k, trimL (l ++ List.replicate k b0C) = trimL l
  | 0 => by rw [List.replicate_zero, List.append_nil]
  | k + 1 => by rw [List.replicate_succ', ← List.append_assoc, trimL_snoc_blank _ blank0_b0, trimL_pad l k]
theorem trimL_trim (l : List Ce) : trimL (trimL l) = trimL l := by
  obtain ⟨k, h⟩ := trimL_rep l
  have := trimL_pad (trimL l) k
  rw [← h] at this
  exact this.symm
theorem trimL_length (l : List Ce) : (trimL l).length ≤ l.length := by unfold trimL; exact List.length_take_le' _ _
theorem trimL_mem {l : List Ce} {c : Ce} (h : c ∈ trimL l) : c ∈ l := List.mem_of_mem_take h

/-- So far: the rows that are joined, and the one under way. -/
def joinS (ls : List Ln) : Nat → List (List Ce) × List Ce
  | 0 => ([], [])
  | k + 1 => match ls[k]? with
    | none => joinS ls k
    | some l => if (l.soft && decide (k + 1 ≠ ls.length)) = true then ((joinS ls k).1, (joinS ls k).2 ++ l.cs) else ((joinS ls k).1 ++ [trimL ((joinS ls k).2 ++ l.cs)], [])
theorem joinS_go {ls : List Ln} {k : Nat} {l : Ln} (h : ls[k]? = some l) (hs : l.soft = true) (hk : k + 1 ≠ ls.length) : joinS ls (k + 1) = ((joinS ls k).1, (joinS ls k).2 ++ l.cs) := by
  rw [joinS, h]
  simp [hs, hk]
theorem joinS_end {ls : List Ln} {k : Nat} {l : Ln} (h : ls[k]? = some l) (hs : l.soft = false ∨ k + 1 = ls.length) : joinS ls (k + 1) = ((joinS ls k).1 ++ [trimL ((joinS ls k).2 ++ l.cs)], []) := by
  rw [joinS, h]
  rcases hs with hs | hs <;> simp [hs]
def joinP (ls : List Ln) : List (List Ce) := (joinS ls ls.length).1
/-- Its cells, with their halves. -/
def okR (l : List Ce) : Bool := rightsL l && wholeL 1 l
theorem okR_iff {l : List Ce} : okR l = true ↔ rightsL l = true ∧ wholeL 1 l = true := by unfold okR; rw [Bool.and_eq_true]
theorem fits_okR {cols : Int} {l : List Ce} (h : fitsB cols l = true) : okR l = true := okR_iff.2 (fits_iff.1 h).2
theorem okR_fits (l : List Ce) : fitsB l.length l = okR l := by unfold fitsB okR; rw [decide_eq_true rfl, Bool.true_and]
theorem right_wd {c : Ce} (h : rightB c = true) : c.wd = 0 ∨ c.wd = 1 ∨ c.wd = 2 := by
  unfold rightB at h
  rw [Bool.and_eq_true] at h
  have h := h.2
  by_cases h0 : c.tx.size = 0
  · rw [if_pos h0] at h
    have := of_decide_eq_true h
    omega
  · rw [if_neg h0] at h
    have := of_decide_eq_true h
    have h2 : (partsG c.tx).1 ≤ 2 := by
      unfold partsG
      split
      · split
        · exact widthI_le _
        · simp
      · simp
    omega
theorem right_tx {c : Ce} (h : rightB c = true) : (c.wd = 0 → c.tx.size = 0) ∧ (c.wd = 2 → c.tx.size ≠ 0) := by
  unfold rightB at h
  rw [Bool.and_eq_true] at h
  have h := h.2
  by_cases h0 : c.tx.size = 0
  · rw [if_pos h0] at h
    have := of_decide_eq_true h
    exact ⟨fun _ => h0, fun _ => by omega⟩
  · rw [if_neg h0] at h
    have := of_decide_eq_true h
    exact ⟨fun _ => by omega, fun _ => h0⟩
theorem whole_p {p q : Int} (hp : p ≠ 2) (hq : q ≠ 2) : ∀ l, wholeL p l = wholeL q l
  | [] => rfl
  | c :: r => by
    rw [wholeL, wholeL]
    congr 2
    unfold hf
    split
    · rfl
    · split
      · rw [decide_eq_true hp, decide_eq_true hq]
      · rfl
theorem okR_nil : okR [] = true := rfl
theorem okR_cons {c : Ce} {r : List Ce} (h : okR (c :: r) = true) : rightB c = true ∧ ((c.wd = 1 ∧ okR r = true) ∨ (c.wd = 2 ∧ ∃ d q, r = d :: q ∧ d.wd = 0 ∧ rightB d = true ∧ okR q = true)) := by
  obtain ⟨h1, h2⟩ := okR_iff.1 h
  have hc : rightB c = true ∧ rightsL r = true := by
    have h1' : (rightB c && rightsL r) = true := h1
    rwa [Bool.and_eq_true] at h1'
  rw [wholeL, Bool.and_eq_true] at h2
  refine ⟨hc.1, ?_⟩
  rcases right_wd hc.1 with hw | hw | hw
  · have := h2.1
    unfold hf at this
    simp [hw] at this
  · refine .inl ⟨hw, okR_iff.2 ⟨hc.2, ?_⟩⟩
    have := h2.2
    rwa [hw] at this
  · refine .inr ⟨hw, ?_⟩
    cases r with
    | nil => have := h2.1; unfold hf at this; simp [hw] at this
    | cons d q =>
      have hd : d.wd = 0 := by have := h2.1; unfold hf at this; simpa [hw] using this
      have hr : rightB d = true ∧ rightsL q = true := by
        have h1' : (rightB d && rightsL q) = true := hc.2
        rwa [Bool.and_eq_true] at h1'
      have h3 := h2.2
      rw [hw, wholeL, Bool.and_eq_true] at h3
      refine ⟨d, q, rfl, hd, hr.1, okR_iff.2 ⟨hr.2, ?_⟩⟩
      rw [← h3.2, hd]
      exact whole_p (by decide) (by decide) q
/-- Letters, with their halves. -/
def segs : List Ce → List (List Ce)
  | [] => []
  | [c] => [[c]]
  | c :: d :: r => if c.wd = 2 then [c, d] :: segs r else [c] :: segs (d :: r)
theorem segs_one {c : Ce} {r : List Ce} (h : c.wd = 1) : segs (c :: r) = [c] :: segs r := by
  cases r with
  | nil => rfl
  | cons d q => rw [segs, if_neg (by omega)]
theorem segs_two {c d : Ce} {r : List Ce} (h : c.wd = 2) : segs (c :: d :: r) = [c, d] :: segs r := by rw [segs, if_pos h]
/-- Such a letter: one cell, or two halves. -/
def segOk (t : List Ce) : Prop := (∃ c, t = [c] ∧ c.wd = 1 ∧ rightB c = true) ∨ (∃ c d, t = [c, d] ∧ c.wd = 2 ∧ d.wd = 0 ∧ rightB c = true ∧ rightB d = true)
theorem segOk.len {t : List Ce} (h : segOk t) : t.length = 1 ∨ t.length = 2 := by
  rcases h with ⟨c, rfl, _⟩ | ⟨c, d, rfl, _⟩ <;> simp
theorem segs_step {l : List Ce} (h : okR l = true) (hn : l ≠ []) : ∃ t r, segOk t ∧ l = t ++ r ∧ segs l = t :: segs r ∧ okR r = true ∧ (∃ c q, l = c :: q ∧ c.wd = (t.length : Int)) := by
  cases l with
  | nil => exact absurd rfl hn
  | cons c r =>
    obtain ⟨hc, ⟨hw, hr⟩ | ⟨hw, d, q, rfl, hd, hrd, hq⟩⟩ := okR_cons h
    · exact ⟨[c], r, .inl ⟨c, rfl, hw, hc⟩, rfl, segs_one hw, hr, c, r, rfl, by rw [hw]; rfl⟩
    · exact ⟨[c, d], q, .inr ⟨c, d, rfl, hw, hd, hc, hrd⟩, rfl, segs_two hw, hq, c, d :: q, rfl, by rw [hw]; rfl⟩
theorem okR_ind {P : List Ce → Prop} (h0 : P []) (h1 : ∀ t r, segOk t → okR r = true → P r → P (t ++ r)) : ∀ (n : Nat) (l : List Ce), l.length ≤ n → okR l = true → P l
  | 0, l, hn, _ => by
    have : l = [] := List.length_eq_zero_iff.1 (by omega)
    rw [this]; exact h0
  | n + 1, l, hn, h => by
    by_cases hl : l = []
    · rw [hl]; exact h0
    · obtain ⟨t, r, ht, rfl, _, hr, _⟩ := segs_step h hl
      have := ht.len
      rw [List.length_append] at hn
      exact h1 t r ht hr (okR_ind h0 h1 n r (by omega) hr)
theorem segs_app {t r : List Ce} (h : segOk t) : segs (t ++ r) = t :: segs r := by
  rcases h with ⟨c, rfl, hw, _⟩ | ⟨c, d, rfl, hw, _⟩
  · exact segs_one hw
  · exact segs_two hw
theorem okR_app_seg {t r : List Ce} (h : segOk t) (hr : okR r = true) : okR (t ++ r) = true := by
  obtain ⟨h1, h2⟩ := okR_iff.1 hr
  rcases h with ⟨c, rfl, hw, hc⟩ | ⟨c, d, rfl, hw, hd, hc, hrd⟩
  · refine okR_iff.2 ⟨?_, ?_⟩
    · show (rightB c && rightsL r) = true
      rw [hc, h1]; rfl
    · show (!hf 1 c r && wholeL c.wd r) = true
      rw [hf_one _ _ _ hw, hw, h2]; rfl
  · refine okR_iff.2 ⟨?_, ?_⟩
    · show (rightB c && (rightB d && rightsL r)) = true
      rw [hc, hrd, h1]; rfl
    · show (!hf 1 c (d :: r) && (!hf c.wd d r && wholeL d.wd r)) = true
      rw [hw, hd, whole_p (p := 0) (q := 1) (by decide) (by decide), h2]
      simp [hf, hw, hd]
theorem segs_all {l : List Ce} (h : okR l = true) : (∀ t ∈ segs l, segOk t) ∧ (segs l).flatten = l ∧ (segs l).length ≤ l.length := by
  refine okR_ind (P := fun l => (∀ t ∈ segs l, segOk t) ∧ (segs l).flatten = l ∧ (segs l).length ≤ l.length) ⟨fun t ht => by simp [segs] at ht, rfl, Nat.le_refl _⟩ (fun t r ht hr ⟨i1, i2, i3⟩ => ?_) l.length l (Nat.le_refl _) h
  rw [segs_app ht]
  refine ⟨fun x hx => ?_, by rw [List.flatten_cons, i2], by have := ht.len; simp; omega⟩
  rcases List.mem_cons.1 hx with rfl | hx
  · exact ht
  · exact i1 x hx
theorem okR_append {a b : List Ce} (ha : okR a = true) (hb : okR b = true) : okR (a ++ b) = true :=
  okR_ind (P := fun a => okR (a ++ b) = true) hb (fun t r ht _ ih => by rw [List.append_assoc]; exact okR_app_seg ht ih) a.length a (Nat.le_refl _) ha
/-- Cells of width 1 at the end, left out, leave whole ones. -/
theorem whole_snoc : ∀ (l : List Ce) (p : Int) (c : Ce), c.wd = 1 → wholeL p (l ++ [c]) = true → wholeL p l = true
  | [], _, _, _, _ => rfl
  | a :: l, p, c, hc, h => by
    rw [List.cons_append, wholeL, Bool.and_eq_true] at h
    rw [wholeL, Bool.and_eq_true]
    refine ⟨?_, whole_snoc l _ c hc h.2⟩
    have h1 := h.1
    unfold hf at h1 ⊢
    cases l with
    | nil =>
      by_cases ha : a.wd = 2
      · simp [ha, hc] at h1
      · simpa [ha] using h1
    | cons d q => exact h1
theorem okR_trim {l : List Ce} (h : okR l = true) : okR (trimL l) = true := by
  obtain ⟨k, hk⟩ := trimL_rep l
  rw [hk] at h
  clear hk
  generalize trimL l = t at h ⊢
  induction k with
  | zero => rwa [List.replicate_zero, List.append_nil] at h
  | succ k ih =>
    apply ih
    rw [List.replicate_succ', ← List.append_assoc] at h
    obtain ⟨h1, h2⟩ := okR_iff.1 h
    rw [rights_append, Bool.and_eq_true] at h1
    exact okR_iff.2 ⟨h1.1, whole_snoc _ _ b0C rfl h2⟩

/-- A line's cells, with blank ones behind them. -/
def fillP (cols : Nat) (l : List Ce) : List Ce := l ++ List.replicate (cols - l.length) b0C
def foldStep (cols : Nat) (s : List Ln × List Ce) (t : List Ce) : List Ln × List Ce :=
  if cols < t.length then s else if cols < s.2.length + t.length then (s.1 ++ [⟨fillP cols s.2, true⟩], t) else (s.1, s.2 ++ t)
def foldS (cols : Nat) (ts : List (List Ce)) : List Ln × List Ce := ts.foldl (foldStep cols) ([], [])
def foldP (cols : Nat) (row : List Ce) : List Ln := (foldS cols (segs row)).1 ++ [⟨fillP cols (foldS cols (segs row)).2, false⟩]
theorem foldS_snoc (cols : Nat) (ts : List (List Ce)) (t : List Ce) : foldS cols (ts ++ [t]) = foldStep cols (foldS cols ts) t := by
  unfold foldS
  rw [List.foldl_append]
  rfl
theorem foldS_len (cols : Nat) (ts : List (List Ce)) : (foldS cols ts).2.length ≤ cols ∧ (foldS cols ts).1.length ≤ ts.length := by
  refine snoc_ind (P := fun ts => (foldS cols ts).2.length ≤ cols ∧ (foldS cols ts).1.length ≤ ts.length) ⟨Nat.zero_le _, Nat.le_refl _⟩ (fun ts t ⟨h1, h2⟩ => ?_) ts
  rw [foldS_snoc]
  unfold foldStep
  split
  · exact ⟨h1, by rw [List.length_append]; omega⟩
  · split
    · exact ⟨by simp only; omega, by simp only [List.length_append, List.length_singleton]; omega⟩
    · exact ⟨by simp only [List.length_append]; omega, by simp only [List.length_append, List.length_singleton]; omega⟩
theorem foldP_length (cols : Nat) (row : List Ce) : (foldP cols row).length ≤ (segs row).length + 1 := by
  unfold foldP
  rw [List.length_append, List.length_singleton]
  have := (foldS_len cols (segs row)).2
  omega
def flowP (cols : Nat) (ls : List Ln) : List Ln := ((joinP ls).map (foldP cols)).flatten
/-- What a letter says. -/
def sayT (t : List Ce) : ByteArray := match t with
  | [] => ⟨#[]⟩
  | c :: _ => if c.tx.size = 0 then ⟨#[32]⟩ else c.tx
def sayC (c : Ce) : ByteArray := (if c.tx.size = 0 ∧ c.wd = 1 then ⟨#[32]⟩ else ⟨#[]⟩) ++ c.tx
def catB (l : List ByteArray) : ByteArray := l.foldl (· ++ ·) ⟨#[]⟩
theorem catB_snoc (l : List ByteArray) (s : ByteArray) : catB (l ++ [s]) = catB l ++ s := by unfold catB; rw [List.foldl_append]; rfl
theorem sayC_seg {t : List Ce} (h : segOk t) : t.foldl (fun s c => s ++ sayC c) ⟨#[]⟩ = sayT t ∧ ∀ s, t.foldl (fun s c => s ++ sayC c) s = s ++ sayT t := by
  have key : ∀ s, t.foldl (fun s c => s ++ sayC c) s = s ++ sayT t := fun s => by
    rcases h with ⟨c, rfl, hw, hc⟩ | ⟨c, d, rfl, hw, hd, hc, hrd⟩
    · show s ++ sayC c = s ++ sayT [c]
      congr 1
      unfold sayC sayT
      by_cases h0 : c.tx.size = 0
      · rw [if_pos ⟨h0, hw⟩, empty_yes h0, app_nil]
        show _ = if c.tx.size = 0 then (⟨#[32]⟩ : ByteArray) else c.tx
        rw [if_pos h0]
      · rw [if_neg (fun e => h0 e.1)]
        show _ = if c.tx.size = 0 then _ else c.tx
        rw [if_neg h0, nil_app]
    · show s ++ sayC c ++ sayC d = s ++ sayT [c, d]
      have h0 := (right_tx hc).2 hw
      have h1 := (right_tx hrd).1 hd
      have e1 : sayC c = c.tx := by unfold sayC; rw [if_neg (fun e => h0 e.1), nil_app]
      have e2 : sayC d = ⟨#[]⟩ := by unfold sayC; rw [if_neg (fun e => by omega), nil_app, empty_yes h1]
      have e3 : sayT [c, d] = c.tx := by unfold sayT; simp only; rw [if_neg h0]
      rw [e1, e2, e3, app_nil]
  exact ⟨by rw [key, nil_app], key⟩
def sayP (row : List Ce) : ByteArray := catB ((segs row).map sayT)
/-- So it is cell by cell. -/
theorem sayP_cells {row : List Ce} (h : okR row = true) : row.foldl (fun s c => s ++ sayC c) ⟨#[]⟩ = sayP row := by
  have key : ∀ s : ByteArray, row.foldl (fun s c => s ++ sayC c) s = ((segs row).map sayT).foldl (· ++ ·) s := by
    refine okR_ind (P := fun l => ∀ s : ByteArray, l.foldl (fun s c => s ++ sayC c) s = ((segs l).map sayT).foldl (· ++ ·) s) (fun s => rfl) (fun t r ht hr ih s => ?_) row.length row (Nat.le_refl _) h
    rw [segs_app ht, List.foldl_append, (sayC_seg ht).2, ih, List.map_cons, List.foldl_cons]
  exact key _
end Go.Proofs.YteebbmmgbjpihaaDoor

namespace Go.Proofs.YteebbmmgbjpihaaDoor
open Go.RowKit

def sayCs (l : List Ce) : ByteArray := l.foldl (fun s c => s ++ sayC c) ⟨#[]⟩
def prefB (s t : ByteArray) : Bool := decide (s.size ≤ t.size) && decide (t.extract 0 s.size = s)
def cellP (ls : List Ln) (r c : Nat) : Option Ce := (ls[r]?).bind fun l => l.cs[c]?
def restP (ls : List Ln) (r c : Nat) : List Ce := match ls[r]? with | some l => l.cs.drop c | none => []
def standsP (ls : List Ln) (s : ByteArray) (r c : Nat) : Bool := match cellP ls r c with
  | some x => decide (x.wd ≠ 0) && prefB s (sayCs (restP ls r c))
  | none => false
/-- Is a place behind another one? -/
def behP (p q : Nat × Nat) : Prop := q.1 < p.1 ∨ (p.1 = q.1 ∧ q.2 < p.2)
instance (p q : Nat × Nat) : Decidable (behP p q) := by unfold behP; infer_instance
theorem behP_asymm {p q : Nat × Nat} (h : behP p q) : ¬ behP q p := by unfold behP at *; omega
theorem behP_irrefl (p : Nat × Nat) : ¬ behP p p := by unfold behP; omega
theorem behP_total (p q : Nat × Nat) : p = q ∨ behP p q ∨ behP q p := by
  obtain ⟨a, b⟩ := p
  obtain ⟨c, d⟩ := q
  unfold behP
  simp only [Prod.mk.injEq]
  omega
theorem behP_trans {p q r : Nat × Nat} (h1 : behP p q) (h2 : behP q r) : behP p r := by unfold behP at *; omega
def lenP (ls : List Ln) (r : Nat) : Nat := match ls[r]? with | some l => l.cs.length | none => 0
def placesP (ls : List Ln) : List (Nat × Nat) := (List.range ls.length).flatMap fun r => (List.range (lenP ls r)).map fun c => (r, c)
theorem places_mem {ls : List Ln} {p : Nat × Nat} : p ∈ placesP ls ↔ p.2 < lenP ls p.1 := by
  obtain ⟨r, c⟩ := p
  unfold placesP
  rw [List.mem_flatMap]
  constructor
  · rintro ⟨r', h1, h2⟩
    obtain ⟨c', h3, h4⟩ := List.mem_map.1 h2
    cases h4
    exact List.mem_range.1 h3
  · intro h
    have hr : r < ls.length := by
      apply Classical.byContradiction
      intro hn
      unfold lenP at h
      rw [List.getElem?_eq_none (by simpa using Nat.le_of_not_lt hn)] at h
      simp at h
    exact ⟨r, List.mem_range.2 hr, List.mem_map.2 ⟨c, List.mem_range.2 h, rfl⟩⟩
theorem places_sorted (ls : List Ln) : (placesP ls).Pairwise fun p q => behP q p := by
  unfold placesP
  rw [List.pairwise_flatMap]
  refine ⟨fun r _ => ?_, ?_⟩
  · rw [List.pairwise_map]
    exact List.pairwise_lt_range.imp fun h => .inr ⟨rfl, h⟩
  · refine List.pairwise_lt_range.imp fun h x hx y hy => ?_
    obtain ⟨_, _, rfl⟩ := List.mem_map.1 hx
    obtain ⟨_, _, rfl⟩ := List.mem_map.1 hy
    exact .inl h
/-- The first one of those behind; the last one of those ahead. -/
def findF (ls : List Ln) (s : ByteArray) (at_ : Nat × Nat) : Option (Nat × Nat) := (placesP ls).find? fun p => standsP ls s p.1 p.2 && decide (behP p at_)
def findB (ls : List Ln) (s : ByteArray) (at_ : Nat × Nat) : Option (Nat × Nat) := (placesP ls).reverse.find? fun p => standsP ls s p.1 p.2 && decide (behP at_ p)
theorem findF_is {ls : List Ln} {s : ByteArray} {at_ p : Nat × Nat} (h : findF ls s at_ = some p) : p ∈ placesP ls ∧ standsP ls s p.1 p.2 = true ∧ behP p at_ := by
  have h1 := List.find?_some h
  simp only [Bool.and_eq_true, decide_eq_true_eq] at h1
  exact ⟨List.mem_of_find?_eq_some h, h1⟩
theorem findB_is {ls : List Ln} {s : ByteArray} {at_ p : Nat × Nat} (h : findB ls s at_ = some p) : p ∈ placesP ls ∧ standsP ls s p.1 p.2 = true ∧ behP at_ p := by
  have h1 := List.find?_some h
  simp only [Bool.and_eq_true, decide_eq_true_eq] at h1
  exact ⟨List.mem_reverse.1 (List.mem_of_find?_eq_some h), h1⟩
/-- Nothing stands between. -/
theorem findF_first {ls : List Ln} {s : ByteArray} {at_ p q : Nat × Nat} (h : findF ls s at_ = some p) (hq : q ∈ placesP ls) (hs : standsP ls s q.1 q.2 = true) (hb : behP q at_) : ¬ behP p q := by
  obtain ⟨_, xs, bs, hl, hno⟩ := List.find?_eq_some_iff_append.1 h
  have hsort := places_sorted ls
  rw [hl] at hq hsort
  rcases List.mem_append.1 hq with ha | ha
  · have := hno q ha
    simp [hs, hb] at this
  · rcases List.mem_cons.1 ha with rfl | hb2
    · exact behP_irrefl _
    · have h2 := (List.pairwise_append.1 hsort).2.1
      exact behP_asymm ((List.pairwise_cons.1 h2).1 q hb2)
theorem findB_last {ls : List Ln} {s : ByteArray} {at_ p q : Nat × Nat} (h : findB ls s at_ = some p) (hq : q ∈ placesP ls) (hs : standsP ls s q.1 q.2 = true) (hb : behP at_ q) : ¬ behP q p := by
  obtain ⟨_, xs, bs, hl, hno⟩ := List.find?_eq_some_iff_append.1 h
  have hsort := places_sorted ls
  rw [← List.reverse_reverse (placesP ls), List.pairwise_reverse, hl] at hsort
  have hq' := List.mem_reverse.2 hq
  rw [hl] at hq'
  rcases List.mem_append.1 hq' with ha | ha
  · have := hno q ha
    simp [hs, hb] at this
  · rcases List.mem_cons.1 ha with rfl | hb2
    · exact behP_irrefl _
    · have h2 := (List.pairwise_append.1 hsort).2.1
      exact behP_asymm ((List.pairwise_cons.1 h2).1 q hb2)
/-- What stands ahead is found. -/
theorem findB_some {ls : List Ln} {s : ByteArray} {at_ q : Nat × Nat} (hq : q ∈ placesP ls) (hs : standsP ls s q.1 q.2 = true) (hb : behP at_ q) : ∃ p, findB ls s at_ = some p := by
  cases h : findB ls s at_ with
  | some p => exact ⟨p, rfl⟩
  | none =>
    have := List.find?_eq_none.1 h q (List.mem_reverse.2 hq)
    simp [hs, hb] at this
end Go.Proofs.YteebbmmgbjpihaaDoor

namespace Go.Proofs.YteebbmmgbjpihaaDoor
open Go.RowKit

theorem run_eqA2 (a b c a' b' c' : Int) (W : World) :
    (Op.equalIn 9999 42 (.agg #[.int .i64 a, .int .i64 b, .int .i64 c]) (.agg #[.int .i64 a', .int .i64 b', .int .i64 c'])).run Tryd.prog W = .ok ((a == a') && ((b == b') && (c == c'))) W := by
  have ht : Tryd.prog.underlying 42 = some (.struct (Tryd.prog.fieldsOf 42)) := by unfold Program.fieldsOf; rw [Tryd.underlying42]
  have hp : Tryd.prog.stoodInHeld 42 = false := by kernel_rfl
  rw [run_equalIn_struct W 9998 _ _ _ ht hp]
  unfold Program.fieldsOf
  rw [Tryd.underlying42]
  have u1 := Tryd.underlying3
  have p1 : ∀ (a b c : Int) W, (part 3 #[.int .i64 a, .int .i64 b, .int .i64 c] 0).run Tryd.prog W = .ok (.int .i64 a) W := fun a b c W => by kernel_rfl
  have p2 : ∀ (a b c : Int) W, (part 3 #[.int .i64 a, .int .i64 b, .int .i64 c] 1).run Tryd.prog W = .ok (.int .i64 b) W := fun a b c W => by kernel_rfl
  have p3 : ∀ (a b c : Int) W, (part 3 #[.int .i64 a, .int .i64 b, .int .i64 c] 2).run Tryd.prog W = .ok (.int .i64 c) W := fun a b c W => by kernel_rfl
  have q : ∀ x y W, (Op.equalIn 9998 3 (.int .i64 x) (.int .i64 y)).run Tryd.prog W = .ok (x == y) W := fun x y W => run_equalIn_int W 9997 _ _ _ x y u1
  simp only [Op.eqFields]
  cases ha : (a == a') <;> cases hb : (b == b') <;> cases hc : (c == c') <;> simp [Sem.run_bind, p1, p2, p3, q, ha, hb, hc, Result.andThen_ok, Sem.run_ite]
theorem run_eqC2 (t t' : ByteArray) (v a b c v' a' b' c' : Int) (W : World) :
    (Op.equalIn 10000 44 (.agg #[.string t, .int .i64 v, .int .i64 a, .int .i64 b, .int .i64 c]) (.agg #[.string t', .int .i64 v', .int .i64 a', .int .i64 b', .int .i64 c'])).run Tryd.prog W = .ok ((t.toList == t'.toList) && ((v == v') && ((a == a') && ((b == b') && (c == c'))))) W := by
  have ht : Tryd.prog.underlying 44 = some (.struct (Tryd.prog.fieldsOf 44)) := by unfold Program.fieldsOf; rw [Tryd.underlying44]
  have hp : Tryd.prog.stoodInHeld 44 = false := by kernel_rfl
  rw [run_equalIn_struct W 9999 _ _ _ ht hp]
  unfold Program.fieldsOf
  rw [Tryd.underlying44]
  have u1 := Tryd.underlying3
  have u2 := Tryd.underlying9
  have p1 : ∀ (t : ByteArray) (v a b c : Int) W, (part 9 #[.string t, .int .i64 v, .int .i64 a, .int .i64 b, .int .i64 c] 0).run Tryd.prog W = .ok (.string t) W := fun t v a b c W => by kernel_rfl
  have p2 : ∀ (t : ByteArray) (v a b c : Int) W, (part 3 #[.string t, .int .i64 v, .int .i64 a, .int .i64 b, .int .i64 c] 1).run Tryd.prog W = .ok (.int .i64 v) W := fun t v a b c W => by kernel_rfl
  have p3 : ∀ (t : ByteArray) (v a b c : Int) W, (part 42 #[.string t, .int .i64 v, .int .i64 a, .int .i64 b, .int .i64 c] 2).run Tryd.prog W = .ok (.agg #[.int .i64 a, .int .i64 b, .int .i64 c]) W := fun t v a b c W => by kernel_rfl
  have q1 : ∀ (t t' : ByteArray) W, (Op.equalIn 9999 9 (.string t) (.string t')).run Tryd.prog W = .ok (t.toList == t'.toList) W := fun t t' W => run_equalIn_string W 9998 _ t t' u2
  have q2 : ∀ x y W, (Op.equalIn 9999 3 (.int .i64 x) (.int .i64 y)).run Tryd.prog W = .ok (x == y) W := fun x y W => run_equalIn_int W 9998 _ _ _ x y u1
  have q3 := run_eqA2 a b c a' b' c'
  obtain ⟨z, hz⟩ : ∃ z, ((a == a') && ((b == b') && (c == c'))) = z := ⟨_, rfl⟩
  rw [hz] at q3 ⊢
  simp only [Op.eqFields]
  cases ha : (t.toList == t'.toList) <;> cases hb : (v == v') <;> cases z <;> simp [Sem.run_bind, p1, p2, p3, q1, q2, q3, ha, hb, Result.andThen_ok, Sem.run_ite]
theorem run_eqlB0 (c : Ce) (W : World) : (binOp .eql 44 (.agg #[.string c.tx, .int .i64 c.wd, .int .i64 c.fg, .int .i64 c.bg, .int .i64 c.fl]) (.agg #[.string ⟨#[]⟩, .int .i64 1, .int .i64 0, .int .i64 0, .int .i64 0])).run Tryd.prog W = .ok (.bool (blank0 c)) W := by
  rw [run_eql_struct, run_eqC2]
  simp only [Result.andThen]
  congr 2
  unfold blank0
  rw [Bool.eq_iff_iff]
  simp only [Bool.and_eq_true, beq_iff_eq, decide_eq_true_iff]
  refine and_congr ⟨fun h => ?_, fun h => ?_⟩ Iff.rfl
  · apply Classical.byContradiction
    intro h0
    have h1 := empty_no h0
    rw [h] at h1
    exact absurd h1 (by decide +kernel)
  · rw [empty_yes h]
end Go.Proofs.YteebbmmgbjpihaaDoor
