/- Layer 5, plain: what a byte does to a parser, what bytes do; in two parts as in one; what may be stays such. -/
import Derived.Test.YtpcpdbofbbpglaaDoorUtfN
import Derived.Test.YtpcpdbofbbpglaaDoorParseD
namespace Go.Proofs.YtpcpdbofbbpglaaDoor
open Go.RowKit

def nilB : ByteArray := ⟨#[]⟩
/-- All zero but the state. -/
def Pa.to (s : Int) : Pa := ⟨s, 0, [], 0, nilB, nilB⟩
def dExec (c : Int) : Dn := ⟨2, 0, c, 0, [], 0, nilB⟩
def dPrint (r : Int) : Dn := ⟨1, r, 0, 0, [], 0, nilB⟩
def dOsc (t : ByteArray) : Dn := ⟨5, 0, 0, 0, [], 0, t⟩
def dEsc (i c : Int) : Dn := ⟨3, 0, c, 0, [], i, nilB⟩
def dCsi (p : Pa) (c : Int) : Dn := ⟨4, 0, c, p.priv, p.params, p.inter, nilB⟩
def byteB (c : Int) : ByteArray := ⟨#[UInt8.ofNat c.toNat]⟩
/-- One of 0, if there are none. -/
def parOne (l : List Int) : List Int := if l = [] then [0] else l
/-- The last one is 10 times it and the digit. -/
def parDigit (l : List Int) (d : Int) : List Int := l.dropLast ++ [if 9999 < 10 * l.getLastD 0 + d then 9999 else 10 * l.getLastD 0 + d]

/-- A byte that ends a sequence, or spoils it. -/
def lastP (p : Pa) (c : Int) : Pa × List Dn :=
  if 64 ≤ c ∧ c ≤ 126 then (.to 0, [dCsi p c]) else if c = 127 then (p, []) else (.to 5, [])
/-- From 32 on, in SCsi. -/
def csiP (p : Pa) (c : Int) : Pa × List Dn :=
  if 48 ≤ c ∧ c ≤ 57 then ({ p with params := parDigit (parOne p.params) (c - 48) }, [])
  else if c = 59 then (if (parOne p.params).length = 16 then (.to 5, []) else ({ p with params := parOne p.params ++ [0] }, []))
  else if 60 ≤ c ∧ c ≤ 63 ∧ p.params = [] ∧ p.priv = 0 then ({ p with priv := c }, [])
  else if 32 ≤ c ∧ c ≤ 47 then ({ p with st := 4, inter := c }, [])
  else lastP p c
/-- From 32 on, in SEscape and SInter. -/
def escP (p : Pa) (c : Int) : Pa × List Dn :=
  if 32 ≤ c ∧ c ≤ 47 then (if p.st = 2 then (.to 8, []) else ({ Pa.to 2 with inter := c }, []))
  else if p.st = 1 ∧ c = 91 then (.to 3, [])
  else if p.st = 1 ∧ c = 93 then (.to 6, [])
  else if p.st = 1 ∧ (c = 80 ∨ c = 88 ∨ c = 94 ∨ c = 95) then (.to 7, [])
  else if 48 ≤ c ∧ c ≤ 126 then (.to 0, [dEsc p.inter c])
  else if c = 127 then (p, [])
  else (.to 0, [])
def oscP (p : Pa) (c : Int) : Pa × List Dn :=
  if c = 7 then (.to 0, [dOsc p.osc]) else if 32 ≤ c ∧ p.osc.size < 64 then ({ p with osc := p.osc ++ byteB c }, []) else (p, [])
/-- A byte from 128 on, in SGround, where nothing is pending. -/
def highP (p : Pa) (c : Int) : Pa × List Dn :=
  if (firstG (byteB c)).e = 2 then ({ p with pend := byteB c }, []) else (p, [dPrint 65533])
/-- A byte, where nothing is pending. -/
def oneP (p : Pa) (c : Int) : Pa × List Dn :=
  if c = 24 ∨ c = 26 then (.to 0, if p.st = 6 ∨ p.st = 7 then [] else [dExec c])
  else if c = 27 then (.to 1, if p.st = 6 then [dOsc p.osc] else [])
  else if p.st = 6 then oscP p c
  else if p.st = 7 then (p, [])
  else if c < 32 then (p, [dExec c])
  else if p.st = 0 then (if 127 < c then highP p c else (p, if c < 127 then [dPrint c] else []))
  else if p.st = 1 ∨ p.st = 2 then escP p c
  else if p.st = 3 then csiP p c
  else if p.st = 4 then lastP p c
  else if p.st = 5 then (if 64 ≤ c ∧ c ≤ 126 then (.to 0, []) else (p, []))
  else if (48 ≤ c ∧ c ≤ 126) ∨ 127 < c then (.to 0, []) else (p, [])
/-- A byte. -/
def takeP (p : Pa) (c : Int) : Pa × List Dn :=
  if p.pend.size = 0 then oneP p c
  else
    if (firstG (p.pend ++ byteB c)).e = 2 then ({ p with pend := p.pend ++ byteB c }, [])
    else if (firstG (p.pend ++ byteB c)).e = 0 then ({ p with pend := nilB }, if (firstG (p.pend ++ byteB c)).r < 128 ∨ 159 < (firstG (p.pend ++ byteB c)).r then [dPrint (firstG (p.pend ++ byteB c)).r] else [])
    else if (firstG (p.pend ++ byteB c)).n.toNat < (p.pend ++ byteB c).size then ((oneP { p with pend := nilB } c).1, dPrint 65533 :: (oneP { p with pend := nilB } c).2)
    else ({ p with pend := nilB }, [dPrint 65533])
def feedP (p : Pa) : List Int → Pa × List Dn
  | [] => (p, [])
  | c :: l => ((feedP (takeP p c).1 l).1, (takeP p c).2 ++ (feedP (takeP p c).1 l).2)
def bytesP (s : ByteArray) : List Int := s.data.toList.map fun b => (b.toNat : Int)

theorem feed_append : ∀ (s t : List Int) (p : Pa), feedP p (s ++ t) = ((feedP (feedP p s).1 t).1, (feedP p s).2 ++ (feedP (feedP p s).1 t).2)
  | [], t, p => rfl
  | c :: s, t, p => by
    rw [List.cons_append, feedP, feed_append s t, feedP]
    simp only [List.append_assoc]
theorem bytesP_append (s t : ByteArray) : bytesP (s ++ t) = bytesP s ++ bytesP t := by
  unfold bytesP
  rw [← List.map_append]
  congr 1

/-- A sequence's parts may be. -/
def parR (p : Pa) : Prop := (∀ n ∈ p.params, 0 ≤ n ∧ n ≤ 9999) ∧ p.params.length ≤ 16 ∧ (p.priv = 0 ∨ (60 ≤ p.priv ∧ p.priv ≤ 63)) ∧ p.osc = nilB ∧ p.pend = nilB
def zeroR (p : Pa) : Prop := p.priv = 0 ∧ p.params = [] ∧ p.inter = 0 ∧ p.osc = nilB ∧ p.pend = nilB
/-- A parser may be. -/
def rightP (p : Pa) : Prop :=
  (p.st = 0 ∧ p.priv = 0 ∧ p.params = [] ∧ p.inter = 0 ∧ p.osc = nilB ∧ (firstG p.pend).e = 2) ∨
  ((p.st = 1 ∨ p.st = 5 ∨ p.st = 7 ∨ p.st = 8) ∧ zeroR p) ∨
  (p.st = 2 ∧ p.priv = 0 ∧ p.params = [] ∧ (32 ≤ p.inter ∧ p.inter ≤ 47) ∧ p.osc = nilB ∧ p.pend = nilB) ∨
  (p.st = 3 ∧ parR p ∧ p.inter = 0) ∨ (p.st = 4 ∧ parR p ∧ 32 ≤ p.inter ∧ p.inter ≤ 47) ∨
  (p.st = 6 ∧ p.priv = 0 ∧ p.params = [] ∧ p.inter = 0 ∧ p.osc.size ≤ 64 ∧ p.pend = nilB)

theorem nil_short : (firstG nilB).e = 2 := by decide +kernel
theorem right_to {s : Int} (h : s = 0 ∨ s = 1 ∨ s = 5 ∨ s = 7 ∨ s = 8 ∨ s = 3 ∨ s = 6) : rightP (.to s) := by
  unfold rightP
  rcases h with rfl | rfl | rfl | rfl | rfl | rfl | rfl
  · exact .inl ⟨rfl, rfl, rfl, rfl, rfl, nil_short⟩
  · exact .inr (.inl ⟨.inl rfl, rfl, rfl, rfl, rfl, rfl⟩)
  · exact .inr (.inl ⟨.inr (.inl rfl), rfl, rfl, rfl, rfl, rfl⟩)
  · exact .inr (.inl ⟨.inr (.inr (.inl rfl)), rfl, rfl, rfl, rfl, rfl⟩)
  · exact .inr (.inl ⟨.inr (.inr (.inr rfl)), rfl, rfl, rfl, rfl, rfl⟩)
  · exact .inr (.inr (.inr (.inl ⟨rfl, ⟨(fun n h => by cases h), Nat.zero_le _, .inl rfl, rfl, rfl⟩, rfl⟩)))
  · exact .inr (.inr (.inr (.inr (.inr ⟨rfl, rfl, rfl, rfl, Nat.zero_le _, rfl⟩))))
theorem byteB_size (c : Int) : (byteB c).size = 1 := rfl
theorem parOne_ok {l : List Int} (h : ∀ n ∈ l, 0 ≤ n ∧ n ≤ 9999) (hl : l.length ≤ 16) : (∀ n ∈ parOne l, 0 ≤ n ∧ n ≤ 9999) ∧ (parOne l).length ≤ 16 ∧ parOne l ≠ [] := by
  unfold parOne
  split
  · simp
  · rename_i hn; exact ⟨h, hl, hn⟩
theorem parDigit_ok {l : List Int} {d : Int} (h : ∀ n ∈ l, 0 ≤ n ∧ n ≤ 9999) (hl : l.length ≤ 16) (hn : l ≠ []) (hd : 0 ≤ d ∧ d ≤ 9) : (∀ n ∈ parDigit l d, 0 ≤ n ∧ n ≤ 9999) ∧ (parDigit l d).length ≤ 16 := by
  have hpos : 0 < l.length := List.length_pos_iff.2 hn
  have hlast : 0 ≤ l.getLastD 0 := by
    rw [List.getLastD_eq_getLast?, List.getLast?_eq_some_getLast hn]
    exact (h _ (List.getLast_mem hn)).1
  unfold parDigit
  refine ⟨fun n hm => ?_, by simp; omega⟩
  rw [List.mem_append, List.mem_singleton] at hm
  rcases hm with hm | rfl
  · exact h n ((List.dropLast_sublist l).subset hm)
  · split <;> omega
theorem right_last {p : Pa} {c : Int} (h : rightP p) : rightP (lastP p c).1 := by
  unfold lastP
  split
  · exact right_to (.inl rfl)
  · split
    · exact h
    · exact right_to (.inr (.inr (.inl rfl)))
theorem right_csi {p : Pa} {c : Int} (h : p.st = 3 ∧ parR p ∧ p.inter = 0) : rightP (csiP p c).1 := by
  have hr : rightP p := .inr (.inr (.inr (.inl h)))
  obtain ⟨h1, ⟨p1, p2, p3, p4, p5⟩, h3⟩ := h
  obtain ⟨o1, o2, o3⟩ := parOne_ok p1 p2
  unfold csiP
  split
  · rename_i hc
    obtain ⟨q1, q2⟩ := parDigit_ok o1 o2 o3 (d := c - 48) (by omega)
    exact .inr (.inr (.inr (.inl ⟨h1, ⟨q1, q2, p3, p4, p5⟩, h3⟩)))
  · split
    · split
      · exact right_to (.inr (.inr (.inl rfl)))
      · rename_i hl
        refine .inr (.inr (.inr (.inl ⟨h1, ⟨fun n hm => ?_, ?_, p3, p4, p5⟩, h3⟩)))
        · rw [List.mem_append, List.mem_singleton] at hm
          rcases hm with hm | rfl
          · exact o1 n hm
          · omega
        · show (parOne p.params ++ [0]).length ≤ 16
          rw [List.length_append, List.length_singleton]
          omega
    · split
      · rename_i hc
        exact .inr (.inr (.inr (.inl ⟨h1, ⟨p1, p2, .inr ⟨hc.1, hc.2.1⟩, p4, p5⟩, h3⟩)))
      · split
        · rename_i hc
          exact .inr (.inr (.inr (.inr (.inl ⟨rfl, ⟨p1, p2, p3, p4, p5⟩, hc.1, hc.2⟩))))
        · exact right_last hr
theorem right_esc {p : Pa} {c : Int} (h : rightP p) : rightP (escP p c).1 := by
  unfold escP
  split
  · rename_i hc
    split
    · exact right_to (by omega)
    · exact .inr (.inr (.inl ⟨rfl, rfl, rfl, hc, rfl, rfl⟩))
  · split
    · exact right_to (by omega)
    · split
      · exact right_to (by omega)
      · split
        · exact right_to (by omega)
        · split
          · exact right_to (by omega)
          · split
            · exact h
            · exact right_to (by omega)
theorem right_osc {p : Pa} {c : Int} (h : p.st = 6 ∧ p.priv = 0 ∧ p.params = [] ∧ p.inter = 0 ∧ p.osc.size ≤ 64 ∧ p.pend = nilB) : rightP (oscP p c).1 := by
  have hr : rightP p := .inr (.inr (.inr (.inr (.inr h))))
  obtain ⟨h1, h2, h3, h4, h5, h6⟩ := h
  unfold oscP
  split
  · exact right_to (.inl rfl)
  · split
    · rename_i hc
      refine .inr (.inr (.inr (.inr (.inr ⟨h1, h2, h3, h4, ?_, h6⟩))))
      show (p.osc ++ byteB c).size ≤ 64
      rw [size_append', byteB_size]
      omega
    · exact hr
theorem right_one {p : Pa} {c : Int} (h : rightP p) : rightP (oneP p c).1 := by
  unfold oneP
  by_cases c1 : c = 24 ∨ c = 26
  · rw [if_pos c1]; exact right_to (.inl rfl)
  rw [if_neg c1]
  by_cases c2 : c = 27
  · rw [if_pos c2]; exact right_to (.inr (.inl rfl))
  rw [if_neg c2]
  by_cases h6 : p.st = 6
  · rw [if_pos h6]
    refine right_osc ?_
    rcases h with h | h | h | h | h | h
    · have := h.1; omega
    · have := h.1; omega
    · have := h.1; omega
    · have := h.1; omega
    · have := h.1; omega
    · exact h
  rw [if_neg h6]
  by_cases h7 : p.st = 7
  · rw [if_pos h7]; exact h
  rw [if_neg h7]
  by_cases c3 : c < 32
  · rw [if_pos c3]; exact h
  rw [if_neg c3]
  by_cases h0 : p.st = 0
  · rw [if_pos h0]
    by_cases c4 : 127 < c
    · rw [if_pos c4]
      unfold highP
      by_cases he : (firstG (byteB c)).e = 2
      · rw [if_pos he]
        rcases h with h | h | h | h | h | h
        · exact .inl ⟨h.1, h.2.1, h.2.2.1, h.2.2.2.1, h.2.2.2.2.1, he⟩
        · have := h.1; omega
        · have := h.1; omega
        · have := h.1; omega
        · have := h.1; omega
        · have := h.1; omega
      · rw [if_neg he]; exact h
    · rw [if_neg c4]; exact h
  rw [if_neg h0]
  by_cases h1 : p.st = 1 ∨ p.st = 2
  · rw [if_pos h1]; exact right_esc h
  rw [if_neg h1]
  by_cases h3 : p.st = 3
  · rw [if_pos h3]
    refine right_csi ?_
    rcases h with h | h | h | h | h | h
    · have := h.1; omega
    · have := h.1; omega
    · have := h.1; omega
    · exact h
    · have := h.1; omega
    · have := h.1; omega
  rw [if_neg h3]
  by_cases h4 : p.st = 4
  · rw [if_pos h4]; exact right_last h
  rw [if_neg h4]
  by_cases h5 : p.st = 5
  · rw [if_pos h5]
    by_cases c5 : 64 ≤ c ∧ c ≤ 126
    · rw [if_pos c5]; exact right_to (.inl rfl)
    · rw [if_neg c5]; exact h
  rw [if_neg h5]
  by_cases c6 : (48 ≤ c ∧ c ≤ 126) ∨ 127 < c
  · rw [if_pos c6]; exact right_to (.inl rfl)
  · rw [if_neg c6]; exact h
/-- Only in SGround is anything pending. -/
theorem pend_ground {p : Pa} (h : rightP p) (hp : p.pend.size ≠ 0) : p.st = 0 ∧ p.priv = 0 ∧ p.params = [] ∧ p.inter = 0 ∧ p.osc = nilB ∧ (firstG p.pend).e = 2 := by
  have hn : p.pend ≠ nilB := fun e => hp (by rw [e]; rfl)
  rcases h with h | h | h | h | h | h
  · exact h
  · exact absurd h.2.2.2.2.2 hn
  · exact absurd h.2.2.2.2.2 hn
  · exact absurd h.2.1.2.2.2.2 hn
  · exact absurd h.2.1.2.2.2.2 hn
  · exact absurd h.2.2.2.2.2 hn
theorem right_take {p : Pa} {c : Int} (h : rightP p) : rightP (takeP p c).1 := by
  unfold takeP
  split
  · exact right_one h
  · rename_i hp
    have hg := pend_ground h hp
    have hz : rightP { p with pend := nilB } := .inl ⟨hg.1, hg.2.1, hg.2.2.1, hg.2.2.2.1, hg.2.2.2.2.1, nil_short⟩
    split
    · rename_i he
      exact .inl ⟨hg.1, hg.2.1, hg.2.2.1, hg.2.2.2.1, hg.2.2.2.2.1, he⟩
    · split
      · exact hz
      · split
        · exact right_one hz
        · exact hz
theorem right_feed : ∀ (s : List Int) (p : Pa), rightP p → rightP (feedP p s).1
  | [], _, h => h
  | _ :: s, _, h => right_feed s _ (right_take h)
end Go.Proofs.YtpcpdbofbbpglaaDoor
