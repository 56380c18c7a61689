/- Keys, plain: the rules by which bytes are taken, in two parts as in one, and back. -/
/- Layer 3, the package: a text's beginning, the letter key that stands first, what a sequence holds. -/
import Derived.Test.YteebbmmgbjpihaaDoorUtfHQ
import Derived.Deep.RegionWith
namespace Go.Proofs.YteebbmmgbjpihaaDoor
open Go.RowKit

/-- What the first letter is told of bytes does not change behind them, but of a beginning. -/
theorem firstG_more (s t : ByteArray) (h : firstG s ≠ ⟨0, 0, 2⟩) : firstG (s ++ t) = firstG s := by
  by_cases h0 : s.size = 0
  · exact absurd (firstG_empty h0) h
  have hz := size_append' s t
  have h0' : (s ++ t).size ≠ 0 := by omega
  have e0 := byteAt_left s t 0 (by omega)
  obtain ⟨b0, b1⟩ := byteAt_bd s 0
  by_cases c1 : byteAt s 0 < 128
  · rw [firstG_one h0' (by omega), firstG_one h0 c1, e0]
  by_cases c2 : byteAt s 0 < 194 ∨ 245 ≤ byteAt s 0
  · rw [firstG_bad h0' (by omega), firstG_bad h0 (by omega)]
  by_cases c3 : byteAt s 0 < 224
  · have f := firstG_two h0 (by omega)
    rw [firstG_two h0' (by omega), f]
    rw [f] at h
    by_cases d1 : 1 = s.size
    · rw [if_pos d1] at h; exact absurd rfl h
    · rw [if_neg d1, if_neg (by omega), e0, byteAt_left s t 1 (by omega)]
  by_cases c4 : byteAt s 0 < 240
  · have f := firstG_three h0 (by omega)
    rw [firstG_three h0' (by omega), f]
    rw [f] at h
    by_cases d1 : 1 = s.size
    · rw [if_pos d1] at h; exact absurd rfl h
    rw [if_neg d1] at h
    rw [if_neg d1, if_neg (by omega), e0, byteAt_left s t 1 (by omega)]
    by_cases g1 : byteAt s 1 / 64 = 2 ∧ ((32 ≤ (byteAt s 0 - 224) * 64 + byteAt s 1 % 64 ∧ (byteAt s 0 - 224) * 64 + byteAt s 1 % 64 ≤ 863) ∨ 896 ≤ (byteAt s 0 - 224) * 64 + byteAt s 1 % 64)
    · rw [if_pos g1] at h
      rw [if_pos g1, if_pos g1]
      by_cases d2 : 2 = s.size
      · rw [if_pos d2] at h; exact absurd rfl h
      · rw [if_neg d2, if_neg (by omega), byteAt_left s t 2 (by omega)]
    · rw [if_neg g1, if_neg g1]
  · have f := firstG_four h0 (by omega)
    rw [firstG_four h0' (by omega), f]
    rw [f] at h
    by_cases d1 : 1 = s.size
    · rw [if_pos d1] at h; exact absurd rfl h
    rw [if_neg d1] at h
    rw [if_neg d1, if_neg (by omega), e0, byteAt_left s t 1 (by omega)]
    by_cases g1 : byteAt s 1 / 64 = 2 ∧ 16 ≤ (byteAt s 0 - 240) * 64 + byteAt s 1 % 64 ∧ (byteAt s 0 - 240) * 64 + byteAt s 1 % 64 ≤ 271
    · rw [if_pos g1] at h
      rw [if_pos g1, if_pos g1]
      by_cases d2 : 2 = s.size
      · rw [if_pos d2] at h; exact absurd rfl h
      rw [if_neg d2] at h
      rw [if_neg d2, if_neg (by omega), byteAt_left s t 2 (by omega)]
      by_cases g2 : byteAt s 2 / 64 = 2
      · rw [if_pos g2] at h
        rw [if_pos g2, if_pos g2]
        by_cases d3 : 3 = s.size
        · rw [if_pos d3] at h; exact absurd rfl h
        · rw [if_neg d3, if_neg (by omega), byteAt_left s t 3 (by omega)]
      · rw [if_neg g2, if_neg g2]
    · rw [if_neg g1, if_neg g1]

/-- Named keys, but Esc: their names and their bytes, in the document's order. -/
def keyTab : List (ByteArray × ByteArray) :=
   [(⟨#[85, 112]⟩, ⟨#[27, 91, 65]⟩),
    (⟨#[68, 111, 119, 110]⟩, ⟨#[27, 91, 66]⟩),
    (⟨#[82, 105, 103, 104, 116]⟩, ⟨#[27, 91, 67]⟩),
    (⟨#[76, 101, 102, 116]⟩, ⟨#[27, 91, 68]⟩),
    (⟨#[72, 111, 109, 101]⟩, ⟨#[27, 91, 72]⟩),
    (⟨#[69, 110, 100]⟩, ⟨#[27, 91, 70]⟩),
    (⟨#[73, 110, 115]⟩, ⟨#[27, 91, 50, 126]⟩),
    (⟨#[68, 101, 108]⟩, ⟨#[27, 91, 51, 126]⟩),
    (⟨#[80, 103, 85, 112]⟩, ⟨#[27, 91, 53, 126]⟩),
    (⟨#[80, 103, 68, 110]⟩, ⟨#[27, 91, 54, 126]⟩),
    (⟨#[70, 49]⟩, ⟨#[27, 79, 80]⟩),
    (⟨#[70, 50]⟩, ⟨#[27, 79, 81]⟩),
    (⟨#[70, 51]⟩, ⟨#[27, 79, 82]⟩),
    (⟨#[70, 52]⟩, ⟨#[27, 79, 83]⟩),
    (⟨#[69, 110, 116, 101, 114]⟩, ⟨#[13]⟩),
    (⟨#[84, 97, 98]⟩, ⟨#[9]⟩),
    (⟨#[66, 115, 112]⟩, ⟨#[127]⟩),
    (⟨#[67, 45, 83, 112, 97, 99, 101]⟩, ⟨#[0]⟩),
    (⟨#[67, 45, 97]⟩, ⟨#[1]⟩),
    (⟨#[67, 45, 98]⟩, ⟨#[2]⟩),
    (⟨#[67, 45, 99]⟩, ⟨#[3]⟩),
    (⟨#[67, 45, 100]⟩, ⟨#[4]⟩),
    (⟨#[67, 45, 101]⟩, ⟨#[5]⟩),
    (⟨#[67, 45, 102]⟩, ⟨#[6]⟩),
    (⟨#[67, 45, 103]⟩, ⟨#[7]⟩),
    (⟨#[67, 45, 104]⟩, ⟨#[8]⟩),
    (⟨#[67, 45, 106]⟩, ⟨#[10]⟩),
    (⟨#[67, 45, 107]⟩, ⟨#[11]⟩),
    (⟨#[67, 45, 108]⟩, ⟨#[12]⟩),
    (⟨#[67, 45, 110]⟩, ⟨#[14]⟩),
    (⟨#[67, 45, 111]⟩, ⟨#[15]⟩),
    (⟨#[67, 45, 112]⟩, ⟨#[16]⟩),
    (⟨#[67, 45, 113]⟩, ⟨#[17]⟩),
    (⟨#[67, 45, 114]⟩, ⟨#[18]⟩),
    (⟨#[67, 45, 115]⟩, ⟨#[19]⟩),
    (⟨#[67, 45, 116]⟩, ⟨#[20]⟩),
    (⟨#[67, 45, 117]⟩, ⟨#[21]⟩),
    (⟨#[67, 45, 118]⟩, ⟨#[22]⟩),
    (⟨#[67, 45, 119]⟩, ⟨#[23]⟩),
    (⟨#[67, 45, 120]⟩, ⟨#[24]⟩),
    (⟨#[67, 45, 121]⟩, ⟨#[25]⟩),
    (⟨#[67, 45, 122]⟩, ⟨#[26]⟩),
    (⟨#[67, 45, 52]⟩, ⟨#[28]⟩),
    (⟨#[67, 45, 53]⟩, ⟨#[29]⟩),
    (⟨#[67, 45, 54]⟩, ⟨#[30]⟩),
    (⟨#[67, 45, 55]⟩, ⟨#[31]⟩)]

/-- 's' begins with 'p'. -/
def pre (s p : ByteArray) : Bool := decide (p.size ≤ s.size ∧ s.extract 0 p.size = p)

theorem pre_append {s t p : ByteArray} (h : pre s p = true) : pre (s ++ t) p = true := by
  unfold pre at h ⊢
  obtain ⟨h1, h2⟩ := of_decide_eq_true h
  rw [decide_eq_true_eq, size_append']
  refine ⟨by omega, ?_⟩
  refine Eq.trans ?_ h2
  apply bytes_ext
  · rw [size_extract', size_extract', size_append']; omega
  · intro i hi
    rw [size_extract', size_append'] at hi
    rw [byteAt_extract _ _ _ _ (by rw [size_append']; omega), byteAt_extract _ _ _ _ (by omega), byteAt_left _ _ _ (by omega)]

theorem pre_of_append {s t p : ByteArray} (h : pre (s ++ t) p = true) : pre s p = true ∨ pre p s = true := by
  unfold pre at h ⊢
  obtain ⟨h1, h2⟩ := of_decide_eq_true h
  rw [decide_eq_true_eq, decide_eq_true_eq]
  rw [size_append'] at h1
  by_cases hp : p.size ≤ s.size
  · left
    refine ⟨hp, ?_⟩
    refine Eq.trans ?_ h2
    apply bytes_ext
    · rw [size_extract', size_extract', size_append']; omega
    · intro i hi
      rw [size_extract'] at hi
      rw [byteAt_extract _ _ _ _ (by omega), byteAt_extract _ _ _ _ (by rw [size_append']; omega), byteAt_left _ _ _ (by omega)]
  · right
    refine ⟨by omega, ?_⟩
    rw [← h2]
    apply bytes_ext
    · rw [size_extract', size_extract', size_append']; omega
    · intro i hi
      rw [size_extract', size_extract', size_append'] at hi
      rw [byteAt_extract _ _ _ _ (by rw [size_extract', size_append']; omega), byteAt_extract _ _ _ _ (by rw [size_append']; omega), byteAt_left _ _ _ (by omega), Nat.zero_add, Nat.zero_add]

theorem pre_byte {s p : ByteArray} (h : pre s p = true) {i : Nat} (hi : i < p.size) : byteAt s i = byteAt p i ∧ i < s.size := by
  unfold pre at h
  obtain ⟨h1, h2⟩ := of_decide_eq_true h
  refine ⟨?_, by omega⟩
  rw [← h2, byteAt_extract _ _ _ _ (by omega), Nat.zero_add]

theorem pre_trans {a b c : ByteArray} (h1 : pre a b = true) (h2 : pre b c = true) : pre a c = true := by
  have g1 := h1
  have g2 := h2
  unfold pre at g1 g2 ⊢
  obtain ⟨s1, e1⟩ := of_decide_eq_true g1
  obtain ⟨s2, e2⟩ := of_decide_eq_true g2
  rw [decide_eq_true_eq]
  refine ⟨by omega, ?_⟩
  apply bytes_ext
  · rw [size_extract']; omega
  · intro i hi
    rw [size_extract'] at hi
    rw [byteAt_extract _ _ _ _ (by omega), Nat.zero_add, (pre_byte h1 (by omega)).1, (pre_byte h2 (by omega)).1]

/-- Of two beginnings of one text one begins the other. -/
theorem pre_two {s p q : ByteArray} (h1 : pre s p = true) (h2 : pre s q = true) (h : p.size ≤ q.size) : pre q p = true := by
  unfold pre
  rw [decide_eq_true_eq]
  refine ⟨h, ?_⟩
  apply bytes_ext
  · rw [size_extract']; omega
  · intro i hi
    rw [size_extract'] at hi
    rw [byteAt_extract _ _ _ _ (by omega), Nat.zero_add, ← (pre_byte h1 (i := i) (by omega)).1, ← (pre_byte h2 (i := i) (by omega)).1]

theorem tab_apart : ∀ x ∈ keyTab, ∀ y ∈ keyTab, pre y.2 x.2 = true → x = y := by decide +kernel
theorem tab_names : ∀ x ∈ keyTab, ∀ y ∈ keyTab, x.1 = y.1 → x = y := by decide +kernel
theorem tab_size : ∀ x ∈ keyTab, 1 ≤ x.2.size ∧ x.2.size ≤ 4 := by decide +kernel

/-- The named key that stands first (rule 1). -/
def namedG (s : ByteArray) : Option (ByteArray × ByteArray) := keyTab.find? (fun e => pre s e.2)
/-- A beginning of a named key's bytes (rule 2). -/
def beginsG (s : ByteArray) : Bool := keyTab.any (fun e => pre e.2 s)

theorem namedG_of {s : ByteArray} {e : ByteArray × ByteArray} (he : e ∈ keyTab) (h : pre s e.2 = true) : namedG s = some e := by
  unfold namedG
  cases hf : keyTab.find? (fun e => pre s e.2) with
  | none => exact absurd h (by simpa using List.find?_eq_none.1 hf e he)
  | some x =>
    have hx := List.find?_some hf
    have hm := List.mem_of_find?_eq_some hf
    rcases Nat.le_total x.2.size e.2.size with hl | hl
    · rw [tab_apart x hm e he (pre_two hx h hl)]
    · rw [tab_apart e he x hm (pre_two h hx hl)]

theorem namedG_some {s : ByteArray} {e : ByteArray × ByteArray} (h : namedG s = some e) : e ∈ keyTab ∧ pre s e.2 = true := by
  unfold namedG at h
  exact ⟨List.mem_of_find?_eq_some h, by simpa using List.find?_some h⟩

theorem namedG_more {s : ByteArray} (t : ByteArray) {e : ByteArray × ByteArray} (h : namedG s = some e) : namedG (s ++ t) = some e :=
  namedG_of (namedG_some h).1 (pre_append (namedG_some h).2)

theorem namedG_none {s : ByteArray} (t : ByteArray) (h : namedG s = none) (hb : beginsG s = false) : namedG (s ++ t) = none ∧ beginsG (s ++ t) = false := by
  unfold beginsG at hb ⊢
  rw [List.any_eq_false] at hb
  refine ⟨?_, ?_⟩
  · unfold namedG at h ⊢
    rw [List.find?_eq_none] at h ⊢
    intro e he hp
    rcases pre_of_append hp with h1 | h1
    · exact h e he h1
    · exact hb e he h1
  · rw [List.any_eq_false]
    intro e he hp
    exact hb e he (pre_trans hp (pre_append (t := t) (by unfold pre; rw [decide_eq_true_eq]; exact ⟨Nat.le_refl _, by rw [ByteArray.extract_zero_size]⟩)))

theorem begins_size {s : ByteArray} (h : beginsG s = true) : s.size ≤ 4 := by
  unfold beginsG at h
  rw [List.any_eq_true] at h
  obtain ⟨e, he, hp⟩ := h
  have := (tab_size e he).2
  unfold pre at hp
  have := (of_decide_eq_true hp).1
  omega

theorem pre_self (s : ByteArray) : pre s s = true := by
  unfold pre; rw [decide_eq_true_eq]; exact ⟨Nat.le_refl _, by rw [ByteArray.extract_zero_size]⟩

/-- A digit, or a ';'. -/
def digitB (b : Int) : Bool := decide ((48 ≤ b ∧ b ≤ 57) ∨ b = 59)
/-- From place n on: how far digits go, to place 10 at most. -/
def seqEnd (s : ByteArray) : Nat → Nat → Nat
  | 0, n => n
  | f + 1, n => if n < s.size ∧ n < 10 ∧ digitB (byteAt s n) = true then seqEnd s f (n + 1) else n
def seqN (s : ByteArray) : Nat := seqEnd s 8 2

theorem seqEnd_spec (s : ByteArray) : ∀ (f n : Nat), f + n = 10 → (n ≤ s.size) → n ≤ seqEnd s f n ∧ seqEnd s f n ≤ 10 ∧ seqEnd s f n ≤ s.size ∧ (seqEnd s f n = s.size ∨ seqEnd s f n = 10 ∨ digitB (byteAt s (seqEnd s f n)) = false)
  | 0, n, h, hs => ⟨Nat.le_refl _, by show n ≤ 10; omega, hs, Or.inr (Or.inl (by show n = 10; omega))⟩
  | f + 1, n, h, hs => by
    rw [seqEnd]
    by_cases hc : n < s.size ∧ n < 10 ∧ digitB (byteAt s n) = true
    · rw [if_pos hc]
      obtain ⟨a, b, c, d⟩ := seqEnd_spec s f (n + 1) (by omega) (by omega)
      exact ⟨by omega, b, c, d⟩
    · rw [if_neg hc]
      refine ⟨Nat.le_refl _, by omega, hs, ?_⟩
      by_cases h1 : n = s.size
      · exact Or.inl h1
      · refine Or.inr (Or.inr ?_)
        cases hd : digitB (byteAt s n)
        · rfl
        · exact absurd ⟨by omega, by omega, hd⟩ hc

/-- Bytes behind change nothing where the digits ended before the end. -/
theorem seqEnd_more (s t : ByteArray) : ∀ (f n : Nat), n ≤ s.size → seqEnd s f n < s.size → seqEnd (s ++ t) f n = seqEnd s f n
  | 0, n, _, _ => rfl
  | f + 1, n, hn, h => by
    have hz := size_append' s t
    rw [seqEnd] at h
    rw [seqEnd, seqEnd]
    by_cases hc : n < s.size ∧ n < 10 ∧ digitB (byteAt s n) = true
    · rw [if_pos hc] at h
      rw [if_pos hc, if_pos ⟨by omega, hc.2.1, by rw [byteAt_left _ _ _ hc.1]; exact hc.2.2⟩]
      exact seqEnd_more s t f (n + 1) (by omega) h
    · rw [if_neg hc] at h
      rw [if_neg hc, if_neg (fun hh => hc ⟨h, hh.2.1, by rw [← byteAt_left s t n h]; exact hh.2.2⟩)]

/-- The letter key that stands first: how many bytes it has; 0: none. -/
def letterN (s : ByteArray) : Nat := if (firstG s).e = 0 ∧ 0 ≤ widthI (firstG s).r then (firstG s).n.toNat else 0
def esc : ByteArray := ⟨#[27]⟩
def escName : ByteArray := ⟨#[69, 115, 99]⟩
def mDash : ByteArray := ⟨#[77, 45]⟩
def quest : ByteArray := ⟨#[63]⟩

/-- Rule 3: none: it says nothing; (name, 0): bytes are left. -/
def seqG (s : ByteArray) (final : Bool) : Option (ByteArray × Nat) :=
  if pre s ⟨#[27, 91]⟩ = true then
    if seqN s = s.size then (if final then none else some (⟨#[]⟩, 0))
    else if digitB (byteAt s (seqN s)) = true then none
    else some (quest, seqN s + 1)
  else none
/-- Rule 4. -/
def metaG (s : ByteArray) (final : Bool) : Option (ByteArray × Nat) :=
  let r := s.extract 1 s.size
  if letterN r ≠ 0 ∧ r.extract 0 (letterN r) ≠ ⟨#[91]⟩ ∧ r.extract 0 (letterN r) ≠ ⟨#[79]⟩ then some (mDash ++ r.extract 0 (letterN r), 1 + letterN r)
  else if r.size ≠ 0 ∧ (firstG r).e = 2 ∧ final = false then some (⟨#[]⟩, 0) else none
/-- Rules 5 and 6. -/
def lastG (s : ByteArray) (final : Bool) : ByteArray × Nat :=
  if byteAt s 0 = 27 then (escName, 1)
  else if letterN s ≠ 0 then (s.extract 0 (letterN s), letterN s)
  else if (firstG s).e = 2 then (if final then (quest, 1) else (⟨#[]⟩, 0))
  else (quest, (firstG s).n.toNat)
def takeK (s : ByteArray) (final : Bool) : ByteArray × Nat :=
  match namedG s with
  | some e => (e.1, e.2.size)
  | none =>
    if beginsG s = true ∧ final = false then (⟨#[]⟩, 0)
    else if byteAt s 0 = 27 then
      match seqG s final with
      | some k => k
      | none => match metaG s final with
        | some k => k
        | none => lastG s final
    else lastG s final

theorem firstG_e (s : ByteArray) : firstG s = ⟨0, 0, 2⟩ ∨ ((firstG s).e ≠ 2 ∧ 1 ≤ (firstG s).n.toNat ∧ (firstG s).n.toNat ≤ s.size ∧ (firstG s).n.toNat ≤ 4) := by
  rcases firstG_cases s with ⟨r, _, h, hs, _⟩ | ⟨h, _⟩ | ⟨n, h, h1, h2, h3⟩
  · have := sizeOf_bd r
    rw [h]
    exact Or.inr ⟨by show (0 : Int) ≠ 2; decide, by simpa using this.1, by simpa using hs, by simpa using this.2⟩
  · exact Or.inl h
  · rw [h]
    exact Or.inr ⟨by show (4 : Int) ≠ 2; decide, by simpa using h1, by simpa using h3, by show ((n : Int)).toNat ≤ 4; omega⟩

theorem short_size {s : ByteArray} (h : (firstG s).e = 2) : s.size ≤ 3 := by
  rcases firstG_cases s with ⟨r, _, h1, hs, _⟩ | ⟨_, h1⟩ | ⟨n, h1, _, _, _⟩
  · rw [h1] at h; exact absurd h (by show ¬ (0 : Int) = 2; decide)
  · exact h1
  · rw [h1] at h; exact absurd h (by show ¬ (4 : Int) = 2; decide)

theorem not_short {s : ByteArray} (h : (firstG s).e ≠ 2) : firstG s ≠ ⟨0, 0, 2⟩ := fun e => h (by rw [e])

theorem letterN_le (s : ByteArray) : letterN s ≤ s.size ∧ letterN s ≤ 4 := by
  unfold letterN
  split
  · rename_i h
    rcases firstG_e s with e | ⟨_, _, h2, h3⟩
    · rw [e] at h; exact absurd h.1 (by decide)
    · exact ⟨h2, h3⟩
  · exact ⟨Nat.zero_le _, Nat.zero_le _⟩

theorem letterN_more {s : ByteArray} (t : ByteArray) (h : (firstG s).e ≠ 2) : letterN (s ++ t) = letterN s := by
  unfold letterN
  rw [firstG_more s t (not_short h)]

theorem letterN_short {s : ByteArray} (h : (firstG s).e = 2) : letterN s = 0 := by
  unfold letterN
  rw [if_neg (fun e => by rw [h] at e; exact absurd e.1 (by decide))]

theorem extract_front {s : ByteArray} (t : ByteArray) {n : Nat} (h : n ≤ s.size) : (s ++ t).extract 0 n = s.extract 0 n := by
  apply bytes_ext
  · rw [size_extract', size_extract', size_append']; omega
  · intro i hi
    rw [size_extract', size_append'] at hi
    rw [byteAt_extract _ _ _ _ (by rw [size_append']; omega), byteAt_extract _ _ _ _ (by omega), byteAt_left _ _ _ (by omega)]

theorem begins_esc {s : ByteArray} (h0 : s.size ≠ 0) (hb : beginsG s = false) (h : byteAt s 0 = 27) : 2 ≤ s.size := by
  by_cases h1 : s.size = 1
  · have e : s = ⟨#[27]⟩ := by
      apply bytes_ext (by rw [h1]; rfl)
      intro i hi
      obtain rfl : i = 0 := by omega
      rw [h]; rfl
    rw [e] at hb
    exact absurd hb (by decide +kernel)
  · omega

theorem pre_seq {s : ByteArray} (t : ByteArray) (hb : beginsG s = false) : pre (s ++ t) ⟨#[27, 91]⟩ = pre s ⟨#[27, 91]⟩ := by
  cases h : pre s ⟨#[27, 91]⟩
  · cases h2 : pre (s ++ t) ⟨#[27, 91]⟩
    · rfl
    · rcases pre_of_append h2 with h3 | h3
      · rw [h] at h3; exact absurd h3 (by decide)
      · exfalso
        unfold beginsG at hb
        rw [List.any_eq_false] at hb
        exact hb (⟨#[85, 112]⟩, ⟨#[27, 91, 65]⟩) (List.Mem.head _) (pre_trans (by decide +kernel) h3)
  · exact pre_append h

theorem seqG_more {s : ByteArray} (t : ByteArray) (f : Bool) (hb : beginsG s = false) (h : ∀ k, seqG s false = some k → k.2 ≠ 0) : seqG (s ++ t) f = seqG s false := by
  unfold seqG at h ⊢
  rw [pre_seq t hb]
  by_cases hp : pre s ⟨#[27, 91]⟩ = true
  · rw [if_pos hp] at h
    rw [if_pos hp, if_pos hp]
    by_cases hn : seqN s = s.size
    · rw [if_pos hn] at h
      exact absurd rfl (h (⟨#[]⟩, 0) (by simp))
    · have h2 : 2 ≤ s.size := (of_decide_eq_true hp).1
      have hs := seqEnd_spec s 8 2 (by omega) h2
      have hlt : seqN s < s.size := by unfold seqN at hn ⊢; omega
      have hm : seqN (s ++ t) = seqN s := seqEnd_more s t 8 2 h2 hlt
      have hz := size_append' s t
      rw [if_neg hn, hm, if_neg (by omega), byteAt_left s t _ hlt]
  · rw [if_neg hp, if_neg hp]

theorem metaG_more {s : ByteArray} (t : ByteArray) (f : Bool) (h2 : 2 ≤ s.size) (h : ∀ k, metaG s false = some k → k.2 ≠ 0) : metaG (s ++ t) f = metaG s false := by
  unfold metaG at h ⊢
  rw [extract_append_left (by omega : 1 ≤ s.size)]
  obtain ⟨r, hr⟩ : ∃ r, s.extract 1 s.size = r := ⟨_, rfl⟩
  have hrz : r.size ≠ 0 := by rw [← hr, size_extract']; omega
  rw [hr] at h ⊢
  dsimp only at h ⊢
  have hz := size_append' r t
  by_cases he : (firstG r).e = 2
  · have hl := letterN_short he
    rw [if_neg (fun hh => hh.1 hl), if_pos ⟨hrz, he, rfl⟩] at h
    exact absurd rfl (h _ rfl)
  · rw [letterN_more t he, extract_front t (letterN_le r).1, firstG_more r t (not_short he)]
    rw [if_neg (fun hh : (r ++ t).size ≠ 0 ∧ (firstG r).e = 2 ∧ f = false => he hh.2.1), if_neg (fun hh : r.size ≠ 0 ∧ (firstG r).e = 2 ∧ false = false => he hh.2.1)]

theorem lastG_more {s : ByteArray} (t : ByteArray) (f : Bool) (h0 : s.size ≠ 0) (h : (lastG s false).2 ≠ 0) : lastG (s ++ t) f = lastG s false := by
  unfold lastG at h ⊢
  rw [byteAt_left s t 0 (by omega)]
  by_cases h1 : byteAt s 0 = 27
  · rw [if_pos h1, if_pos h1]
  · rw [if_neg h1] at h
    rw [if_neg h1, if_neg h1]
    by_cases he : (firstG s).e = 2
    · rw [if_neg (fun hh => hh (letterN_short he)), if_pos he] at h
      exact absurd rfl h
    · rw [letterN_more t he, extract_front t (letterN_le s).1, firstG_more s t (not_short he), if_neg he, if_neg he]

/-- A key that is taken is taken so whatever is behind it, and whether that is the end or not. -/
theorem take_more {s : ByteArray} (t : ByteArray) (f : Bool) (h0 : s.size ≠ 0) (h : (takeK s false).2 ≠ 0) : takeK (s ++ t) f = takeK s false := by
  unfold takeK at h ⊢
  cases hn : namedG s with
  | some e => rw [namedG_more t hn]
  | none =>
    rw [hn] at h
    dsimp only at h
    by_cases hb : beginsG s = true
    · rw [if_pos ⟨hb, rfl⟩] at h; exact absurd rfl h
    · have hb : beginsG s = false := by simpa using hb
      obtain ⟨n1, n2⟩ := namedG_none t hn hb
      rw [n1]
      dsimp only
      rw [hb] at h
      rw [n2, hb, byteAt_left s t 0 (by omega)]
      simp only [Bool.false_eq_true, false_and, if_false] at h ⊢
      by_cases h1 : byteAt s 0 = 27
      · rw [if_pos h1] at h
        rw [if_pos h1, if_pos h1]
        have h2 := begins_esc h0 hb h1
        have hs := seqG_more t f hb (fun k hk => by rw [hk] at h; exact h)
        rw [hs]
        cases hq : seqG s false with
        | some k => rfl
        | none =>
          rw [hq] at h
          dsimp only at h ⊢
          have hm := metaG_more t f h2 (fun k hk => by rw [hk] at h; exact h)
          rw [hm]
          cases hg : metaG s false with
          | some k => rfl
          | none =>
            rw [hg] at h
            exact lastG_more t f h0 h
      · rw [if_neg h1] at h
        rw [if_neg h1, if_neg h1]
        exact lastG_more t f h0 h

/-- A key's bytes are some of what is there. -/
theorem take_le {s : ByteArray} (f : Bool) (h0 : s.size ≠ 0) : (takeK s f).2 ≤ s.size := by
  have hlast : (lastG s f).2 ≤ s.size := by
    unfold lastG
    split
    · show 1 ≤ _; omega
    · split
      · exact (letterN_le s).1
      · split
        · split
          · show 1 ≤ _; omega
          · exact Nat.zero_le _
        · rename_i h
          rcases firstG_e s with e | ⟨_, _, h2, _⟩
          · rw [e] at h; exact absurd rfl h
          · exact h2
  unfold takeK
  cases hn : namedG s with
  | some e => exact (of_decide_eq_true (namedG_some hn).2).1
  | none =>
    dsimp only
    split
    · exact Nat.zero_le _
    · split
      · cases hq : seqG s f with
        | some k =>
          dsimp only
          unfold seqG at hq
          split at hq
          · rename_i hp
            have h2 : 2 ≤ s.size := (of_decide_eq_true hp).1
            have hs := seqEnd_spec s 8 2 (by omega) h2
            split at hq
            · split at hq
              · cases hq
              · cases hq; exact Nat.zero_le _
            · split at hq
              · cases hq
              · rename_i hne _
                cases hq
                show seqN s + 1 ≤ s.size
                unfold seqN at hne ⊢
                omega
          · cases hq
        | none =>
          dsimp only
          cases hg : metaG s f with
          | some k =>
            dsimp only
            unfold metaG at hg
            dsimp only at hg
            have hl := (letterN_le (s.extract 1 s.size)).1
            rw [size_extract'] at hl
            split at hg
            · cases hg
              show 1 + letterN (s.extract 1 s.size) ≤ s.size
              omega
            · split at hg
              · cases hg; exact Nat.zero_le _
              · cases hg
          | none => exact hlast
      · exact hlast

/-- At most 10 are left. -/
theorem take_left {s : ByteArray} (f : Bool) (h : (takeK s f).2 = 0) : s.size ≤ 10 := by
  have hlast : (lastG s f).2 = 0 → s.size ≤ 10 := by
    unfold lastG
    split
    · intro h; exact absurd h (by show ¬ (1 : Nat) = 0; decide)
    · split
      · rename_i h1; intro h; exact absurd h h1
      · split
        · rename_i h1; intro _; have := short_size h1; omega
        · intro h
          rcases firstG_e s with e | ⟨_, h2, _, _⟩
          · have := short_size (by rw [e] : (firstG s).e = 2); omega
          · have : (firstG s).n.toNat = 0 := h
            omega
  unfold takeK at h
  cases hn : namedG s with
  | some e =>
    rw [hn] at h
    have := (tab_size e (namedG_some hn).1).1
    have h : e.2.size = 0 := h
    omega
  | none =>
    rw [hn] at h
    dsimp only at h
    split at h
    · rename_i hb
      have := begins_size hb.1
      omega
    · split at h
      · cases hq : seqG s f with
        | some k =>
          rw [hq] at h
          dsimp only at h
          unfold seqG at hq
          split at hq
          · rename_i hp
            have h2 : 2 ≤ s.size := (of_decide_eq_true hp).1
            have hs := seqEnd_spec s 8 2 (by omega) h2
            split at hq
            · rename_i he
              unfold seqN at he
              omega
            · split at hq
              · cases hq
              · cases hq
                exact absurd h (Nat.succ_ne_zero _)
          · cases hq
        | none =>
          rw [hq] at h
          dsimp only at h
          cases hg : metaG s f with
          | some k =>
            rw [hg] at h
            dsimp only at h
            unfold metaG at hg
            dsimp only at hg
            split at hg
            · cases hg
              have h : 1 + letterN (s.extract 1 s.size) = 0 := h
              omega
            · split at hg
              · rename_i hh
                have := short_size hh.2.1
                rw [size_extract'] at this
                omega
              · cases hg
          | none =>
            rw [hg] at h
            exact hlast h
      · exact hlast h

/-- At the end nothing is left. -/
theorem take_end {s : ByteArray} : (takeK s true).2 ≠ 0 := by
  have hlast : (lastG s true).2 ≠ 0 := by
    unfold lastG
    split
    · show (1 : Nat) ≠ 0; decide
    · split
      · rename_i h1; exact h1
      · split
        · show (1 : Nat) ≠ 0; decide
        · rename_i h
          rcases firstG_e s with e | ⟨_, h2, _, _⟩
          · rw [e] at h; exact absurd rfl h
          · show (firstG s).n.toNat ≠ 0; omega
  unfold takeK
  cases hn : namedG s with
  | some e =>
    have := (tab_size e (namedG_some hn).1).1
    show e.2.size ≠ 0
    omega
  | none =>
    dsimp only
    rw [if_neg (fun h => absurd h.2 (by decide))]
    split
    · cases hq : seqG s true with
      | some k =>
        dsimp only
        unfold seqG at hq
        split at hq
        · split at hq
          · cases hq
          · split at hq
            · cases hq
            · cases hq; exact Nat.succ_ne_zero _
        · cases hq
      | none =>
        dsimp only
        cases hg : metaG s true with
        | some k =>
          dsimp only
          unfold metaG at hg
          dsimp only at hg
          split at hg
          · cases hg
            show 1 + letterN (s.extract 1 s.size) ≠ 0
            omega
          · split at hg
            · rename_i hh; exact absurd hh.2.2 (by decide)
            · cases hg
        | none => exact hlast
    · exact hlast

/-- Bytes taken, from the first on: the keys' names, and what is left. -/
def decF : Nat → ByteArray → Bool → List ByteArray × ByteArray
  | 0, s, _ => ([], s)
  | k + 1, s, f => if s.size = 0 then ([], s) else
      if (takeK s f).2 = 0 then ([], s) else ((takeK s f).1 :: (decF k (s.extract (takeK s f).2 s.size) f).1, (decF k (s.extract (takeK s f).2 s.size) f).2)
def decG (s : ByteArray) (f : Bool) : List ByteArray × ByteArray := decF s.size s f

theorem decF_more : ∀ (k m : Nat) (s : ByteArray) (f : Bool), s.size ≤ k → s.size ≤ m → decF k s f = decF m s f
  | 0, 0, _, _, _, _ => rfl
  | 0, m + 1, s, f, h, _ => by rw [decF, decF, if_pos (by omega)]
  | k + 1, 0, s, f, _, h => by rw [decF, decF, if_pos (by omega)]
  | k + 1, m + 1, s, f, h1, h2 => by
    rw [decF, decF]
    by_cases h0 : s.size = 0
    · rw [if_pos h0, if_pos h0]
    · rw [if_neg h0, if_neg h0]
      by_cases ht : (takeK s f).2 = 0
      · rw [if_pos ht, if_pos ht]
      · rw [if_neg ht, if_neg ht, decF_more k m _ f (by rw [size_extract']; omega) (by rw [size_extract']; omega)]

theorem decG_nil {s : ByteArray} (f : Bool) (h : s.size = 0) : decG s f = ([], s) := by unfold decG; rw [h]; rfl
theorem decG_left {s : ByteArray} {f : Bool} (h : (takeK s f).2 = 0) : decG s f = ([], s) := by
  unfold decG
  cases hk : s.size with
  | zero => rfl
  | succ k => rw [decF, if_neg (by omega), if_pos h]
theorem decG_step {s : ByteArray} {f : Bool} (h0 : s.size ≠ 0) (h : (takeK s f).2 ≠ 0) :
    decG s f = ((takeK s f).1 :: (decG (s.extract (takeK s f).2 s.size) f).1, (decG (s.extract (takeK s f).2 s.size) f).2) := by
  obtain ⟨k, hk⟩ : ∃ k, s.size = k + 1 := ⟨s.size - 1, by omega⟩
  have e : decG s f = decF (k + 1) s f := by unfold decG; rw [hk]
  rw [e, decF, if_neg h0, if_neg h]
  have hm := decF_more k (s.extract (takeK s f).2 s.size).size (s.extract (takeK s f).2 s.size) f (by rw [size_extract']; omega) (Nat.le_refl _)
  rw [hm]
  rfl

/-- Bytes that come in two parts are taken as in one. -/
theorem dec_cuts (f : Bool) (t : ByteArray) : ∀ (k : Nat) (s : ByteArray), s.size ≤ k → decG (s ++ t) f = ((decG s false).1 ++ (decG ((decG s false).2 ++ t) f).1, (decG ((decG s false).2 ++ t) f).2)
  | 0, s, h => by rw [decG_nil false (by omega : s.size = 0)]; rfl
  | k + 1, s, h => by
    by_cases h0 : s.size = 0
    · rw [decG_nil false h0]; rfl
    by_cases ht : (takeK s false).2 = 0
    · rw [decG_left ht]; rfl
    · have hz := size_append' s t
      have hle := take_le (s := s) false h0
      have hm := take_more t f h0 ht
      rw [decG_step h0 ht, decG_step (s := s ++ t) (by omega) (by rw [hm]; exact ht), hm, extract_append_left hle]
      rw [dec_cuts f t k (s.extract (takeK s false).2 s.size) (by rw [size_extract']; omega)]
      dsimp only
      rw [List.cons_append]

theorem dec_rest (f : Bool) : ∀ (k : Nat) (s : ByteArray), s.size ≤ k → (decG s f).2.size ≤ 10 ∧ (f = true → (decG s f).2.size = 0)
  | 0, s, h => by rw [decG_nil f (by omega : s.size = 0)]; exact ⟨by show s.size ≤ 10; omega, fun _ => by show s.size = 0; omega⟩
  | k + 1, s, h => by
    by_cases h0 : s.size = 0
    · rw [decG_nil f h0]; exact ⟨by show s.size ≤ 10; omega, fun _ => h0⟩
    by_cases ht : (takeK s f).2 = 0
    · rw [decG_left ht]
      refine ⟨take_left f ht, fun e => ?_⟩
      rw [e] at ht
      exact absurd ht take_end
    · rw [decG_step h0 ht]
      dsimp only
      have h1 := dec_rest f k (s.extract (takeK s f).2 s.size) (by rw [size_extract']; omega)
      exact h1
end Go.Proofs.YteebbmmgbjpihaaDoor

namespace Go.Proofs.YteebbmmgbjpihaaDoor
open Go.RowKit

theorem beq_str {s t : ByteArray} : (s.toList == t.toList) = decide (s = t) := by
  rw [ByteArray.toList_eq, ByteArray.toList_eq, Bool.eq_iff_iff]
  simp only [beq_iff_eq, decide_eq_true_eq]
  exact ⟨fun h => ByteArray.ext (Array.toList_inj.1 h), fun h => by rw [h]⟩

set_option maxHeartbeats 400000 in
theorem lpre_any (s p : ByteArray) (w : World) (_ : s.size ≤ 1000000) (_ : p.size ≤ 1000000) :
    Calls Tryd.prog 45 #[.string s, .string p] w fun e w' => e = .returned (.bool (pre s p)) ∧ w = w' := by
  by_cases h : p.size ≤ s.size
  · by_cases h2 : s.extract 0 p.size = p
    · have HR : Hid (pre s p = true) := by unfold Hid pre; exact decide_eq_true ⟨h, h2⟩
      have HE : (s.extract 0 p.size).toList == p.toList := by rw [h2]; simp
      clear h2
      go_enter Tryd.func45, Tryd.ntmps45
      go_wp2
      go_ret
      exact ⟨ret_bool (by rw [HR.out]), rfl⟩
    · have HR : Hid (pre s p = false) := by unfold Hid pre; exact decide_eq_false (fun e => h2 e.2)
      have HE : ((s.extract 0 p.size).toList == p.toList) = false := by rw [beq_str]; exact decide_eq_false h2
      clear h2
      go_enter Tryd.func45, Tryd.ntmps45
      go_wp2
      go_ret
      exact ⟨ret_bool (by rw [HR.out]), rfl⟩
  · have HR : Hid (pre s p = false) := by unfold Hid pre; exact decide_eq_false (fun e => h e.1)
    go_enter Tryd.func45, Tryd.ntmps45
    go_wp2
    go_ret
    exact ⟨ret_bool (by rw [HR.out]), rfl⟩
theorem pre_any (s p : ByteArray) (w : World) (hs : s.size ≤ 1000000) (hp : p.size ≤ 1000000) :
    Calls Tryd.prog 37 #[.string s, .string p] w fun e w' => e = .returned (.bool (pre s p)) ∧ w = w' := by
  have h := lpre_any s p w hs hp
  generalize pre s p = x at *
  go_enter Tryd.func37, Tryd.ntmps37
  go_wp2_with (go_at_call 45; refine h.mono ?_; rintro e w2 ⟨rfl, rfl⟩)
  go_ret
  exact ⟨rfl, rfl⟩

/-- A letter key that may be one behind M-. -/
def metaB (l : ByteArray) : Bool := decide (l ≠ ⟨#[91]⟩ ∧ l ≠ ⟨#[79]⟩)
end Go.Proofs.YteebbmmgbjpihaaDoor
