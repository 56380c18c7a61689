/- What every text of these stands on: bytes of a text by their places, and small words. -/
/- Layer 4, plain: looks, what a number asks of a look, what a row of numbers makes of it, what asks for a look. -/
/- Layer 4, plain: cells. -/
/- The package utf, its small functions: which numbers are letters, and what a first byte tells. -/
/- Layer 4: cells compared. -/
/- The reference of layer 4, walked: in, Look. -/
import Derived.Test.YteebbmmgbjpihaaDoorRows
import Derived.WalkKit
import Derived.WalkSpells
import Derived.WalkLawsBesides
import Derived.Deep.QuietTactic
import Derived.BigQuiet
namespace Go.Proofs.YteebbmmgbjpihaaDoor
open Go.RowKit

theorem hid {p : Prop} (h : p) : Hid p := h
theorem ret_bool {a b : Bool} (h : a = b) : Ending.returned (.bool a) = .returned (.bool b) := by rw [h]
theorem ret_int {k : IntKind} {a b : Int} (h : a = b) : Ending.returned (.int k a) = .returned (.int k b) := by rw [h]
theorem ret_str {a b : ByteArray} (h : a = b) : Ending.returned (.string a) = .returned (.string b) := by rw [h]
theorem ret_two {k k' : IntKind} {a b a' b' : Int} (h : a = a') (h' : b = b') : Ending.returned (.tuple #[.int k a, .int k' b]) = .returned (.tuple #[.int k a', .int k' b']) := by rw [h, h']

def byteAt (s : ByteArray) (n : Nat) : Int := if h : n < s.size then (s[n].toNat : Int) else 0
theorem byteAt_eq {s : ByteArray} {n : Nat} (h : n < s.size) : (s[n].toNat : Int) = byteAt s n := by simp [byteAt, h]
theorem byteAt_bd (s : ByteArray) (n : Nat) : 0 ≤ byteAt s n ∧ byteAt s n ≤ 255 := by
  unfold byteAt
  split
  · have := UInt8.toNat_lt s[n]; omega
  · omega
theorem size_extract' (s : ByteArray) (a b : Nat) : (s.extract a b).size = min b s.size - a := by simp [ByteArray.size_extract]
theorem byteAt_extract (s : ByteArray) (a b i : Nat) (h : i < min b s.size - a) : byteAt (s.extract a b) i = byteAt s (a + i) := by
  have h1 : i < (s.extract a b).size := by rw [size_extract']; exact h
  have h2 : a + i < s.size := by omega
  rw [← byteAt_eq h1, ← byteAt_eq h2]
  simp [ByteArray.getElem_extract]
theorem byteAt_left (s t : ByteArray) (i : Nat) (h : i < s.size) : byteAt (s ++ t) i = byteAt s i := by
  have h1 : i < (s ++ t).size := by simp; omega
  rw [← byteAt_eq h1, ← byteAt_eq h]
  simp [ByteArray.getElem_append_left h]
theorem byteAt_right (s t : ByteArray) (i : Nat) (h : i < t.size) : byteAt (s ++ t) (s.size + i) = byteAt t i := by
  have h1 : s.size + i < (s ++ t).size := by simp; omega
  rw [← byteAt_eq h1, ← byteAt_eq h]
  rw [ByteArray.getElem_append_right (by omega)]
  simp
theorem bytes_ext {s t : ByteArray} (h : s.size = t.size) (hb : ∀ i, i < s.size → byteAt s i = byteAt t i) : s = t := by
  apply ByteArray.ext_getElem h
  intro i h1 h2
  have := hb i h1
  rw [← byteAt_eq h1, ← byteAt_eq h2] at this
  exact UInt8.toNat_inj.1 (by omega)
theorem size_append' (a b : ByteArray) : (a ++ b).size = a.size + b.size := ByteArray.size_append
theorem if_iff {p q : Prop} [Decidable p] [Decidable q] {α : Type} {a b : α} (h : p ↔ q) : (if p then a else b) = if q then a else b := by
  by_cases hp : p
  · rw [if_pos hp, if_pos (h.1 hp)]
  · rw [if_neg hp, if_neg (fun hq => hp (h.2 hq))]
theorem nil_app (b : ByteArray) : (⟨#[]⟩ ++ b : ByteArray) = b := ByteArray.empty_append
theorem app_nil (b : ByteArray) : (b ++ ⟨#[]⟩ : ByteArray) = b := ByteArray.append_empty
theorem extract_append_left {a b : ByteArray} {n : Nat} (hn : n ≤ a.size) : (a ++ b).extract n (a ++ b).size = a.extract n a.size ++ b := by
  apply bytes_ext
  · simp; omega
  · intro i hi
    simp at hi
    rw [byteAt_extract _ _ _ _ (by simp; omega)]
    by_cases h : n + i < a.size
    · rw [byteAt_left _ _ _ h, byteAt_left _ _ _ (by rw [size_extract']; omega), byteAt_extract _ _ _ _ (by omega)]
    · have e1 : n + i = a.size + (n + i - a.size) := by omega
      have e2 : i = (a.extract n a.size).size + (n + i - a.size) := by rw [size_extract']; omega
      rw [e1, byteAt_right _ _ _ (by omega)]
      conv => rhs; rw [e2]
      rw [byteAt_right _ _ _ (by omega)]
def strLen : Value → Nat | .string b => b.size | _ => 0
theorem empty_yes {s : ByteArray} (h : s.size = 0) : s = ⟨#[]⟩ := by
  apply ByteArray.ext
  exact Array.eq_empty_of_size_eq_zero h
theorem empty_no {s : ByteArray} (h : ¬ s.size = 0) : s.toList.isEmpty = false := by
  rw [ByteArray.toList_eq]
  have : s.data.toList.length = s.size := by simp
  cases hq : s.data.toList with
  | nil => rw [hq] at this; simp at this; omega
  | cons a l => rfl
theorem quiet_same {P : Program} {f : FuncId} {args : Array Value} {w : World} {n : Nat} {v : Value}
    (h : Calls P f args (w.drewN n) fun e w' => e = .returned v ∧ w.drewN n = w') : Calls P f args (w.drewN n) fun e w'' => e = .returned v ∧ ∃ m, w'' = w.drewN m :=
  h.mono fun _ _ ⟨he, hm⟩ => ⟨he, n, hm.symm⟩
theorem below_drew (w : World) (n : Nat) : Below w.heap.size w (w.drewN n) := ⟨rfl, rfl, rfl, Nat.le_refl _, fun _ _ => rfl⟩
theorem bcell {W w1 : World} (hb : Below W.heap.size W w1) : (∀ b o, b < W.heap.size → w1.cell? ⟨b, o, none⟩ = W.cell? ⟨b, o, none⟩) ∧ (∀ b o, b < W.heap.size → w1.frozen? ⟨b, o, none⟩ = W.frozen? ⟨b, o, none⟩) :=
  ⟨fun b o h => hb.cell (p := ⟨b, o, none⟩) h, fun b o h => hb.frozen (p := ⟨b, o, none⟩) h⟩
theorem below_alloc (w : World) (o : Obj) : Below w.heap.size w (w.alloc o) := (Below.refl _ _).alloc (Nat.le_refl _) _
/-- Behind a new block. -/
theorem Below.behind {w w' : World} {o : Obj} (hb : Below (w.alloc o).heap.size (w.alloc o) w') : Below w.heap.size w w' := (below_alloc w o).trans (hb.mono (by simp))
/-- A contract told from an earlier world on. -/
theorem from_ {P : Program} {f : FuncId} {args : Array Value} {w W : World} {R : Ending → Prop} (h : Calls P f args W fun e w' => R e ∧ Below W.heap.size W w') (hb : Below w.heap.size w W) :
    Calls P f args W fun e w' => R e ∧ Below w.heap.size w w' := h.mono fun _ _ ⟨he, hb'⟩ => ⟨he, hb.trans (hb'.mono hb.size)⟩
end Go.Proofs.YteebbmmgbjpihaaDoor

namespace Go.Proofs.YteebbmmgbjpihaaDoor
open Go.RowKit

structure At where
  fg : Int
  bg : Int
  fl : Int

def At.agg (a : At) : Value := .agg #[.int .i64 a.fg, .int .i64 a.bg, .int .i64 a.fl]
def At.cells (a : At) : Array Value := #[.int .i64 a.fg, .int .i64 a.bg, .int .i64 a.fl]
def inI (n a b : Int) : Bool := decide (a ≤ n ∧ n ≤ b)
theorem inI_t {n a b : Int} (h : a ≤ n ∧ n ≤ b) : inI n a b = true := decide_eq_true h
theorem inI_f {n a b : Int} (h : ¬ (a ≤ n ∧ n ≤ b)) : inI n a b = false := decide_eq_false h
theorem inI_iff {n a b : Int} : inI n a b = true ↔ a ≤ n ∧ n ≤ b := decide_eq_true_iff
theorem inI_no {n a b : Int} : inI n a b = false ↔ ¬ (a ≤ n ∧ n ≤ b) := decide_eq_false_iff_not
def lookB (a : At) : Bool := inI a.fg 0 256 && inI a.bg 0 256 && inI a.fl 0 255
theorem look_iff {a : At} : lookB a = true ↔ (0 ≤ a.fg ∧ a.fg ≤ 256) ∧ (0 ≤ a.bg ∧ a.bg ≤ 256) ∧ (0 ≤ a.fl ∧ a.fl ≤ 255) := by
  unfold lookB
  rw [Bool.and_eq_true, Bool.and_eq_true, inI_iff, inI_iff, inI_iff, and_assoc]
/-- The flag that a number sets. -/
def flagG (n : Int) : Int := if n = 1 then 1 else if n = 2 then 2 else if n = 3 then 4 else if n = 4 then 8 else if n = 5 then 16 else if n = 7 then 32 else if n = 8 then 64 else if n = 9 then 128 else 0
/-- The flags that a number clears. -/
def clrG (n : Int) : Int := if n = 22 then 3 else if n = 23 then 4 else if n = 24 then 8 else if n = 25 then 16 else if n = 27 then 32 else if n = 28 then 64 else if n = 29 then 128 else 0
theorem flagG_no {n : Int} (h : ¬ (1 ≤ n ∧ n ≤ 9)) : flagG n = 0 := by
  unfold flagG
  repeat rw [if_neg (by omega)]
theorem clrG_no {n : Int} (h : ¬ (22 ≤ n ∧ n ≤ 29)) : clrG n = 0 := by
  unfold clrG
  repeat rw [if_neg (by omega)]
theorem flagG_mem (n : Int) : flagG n = 1 ∨ flagG n = 2 ∨ flagG n = 4 ∨ flagG n = 8 ∨ flagG n = 16 ∨ flagG n = 32 ∨ flagG n = 64 ∨ flagG n = 128 ∨ flagG n = 0 := by
  unfold flagG
  repeat' split
  all_goals simp
theorem clrG_mem (n : Int) : clrG n = 3 ∨ clrG n = 4 ∨ clrG n = 8 ∨ clrG n = 16 ∨ clrG n = 32 ∨ clrG n = 64 ∨ clrG n = 128 ∨ clrG n = 0 := by
  unfold clrG
  repeat' split
  all_goals simp
theorem flagG_bd (n : Int) : 0 ≤ flagG n ∧ flagG n ≤ 128 := by have := flagG_mem n; omega
theorem clrG_bd (n : Int) : 0 ≤ clrG n ∧ clrG n ≤ 128 := by have := clrG_mem n; omega
/-- Flags without some, bit by bit. -/
def woN (f s : Int) : Nat → Int
  | 0 => 0
  | k + 1 => woN f s k + if f / 2 ^ k % 2 = 1 ∧ s / 2 ^ k % 2 = 0 then 2 ^ k else 0
def woG (f s : Int) : Int := woN f s 8
theorem woN_bd (f s : Int) : ∀ k, 0 ≤ woN f s k ∧ woN f s k < 2 ^ k
  | 0 => by simp [woN]
  | k + 1 => by
    have := woN_bd f s k
    have e : (2 : Int) ^ (k + 1) = 2 ^ k * 2 := Int.pow_succ 2 k
    simp only [woN]
    rw [e]
    split <;> omega
theorem woG_bd (f s : Int) : 0 ≤ woG f s ∧ woG f s ≤ 255 := by
  have := woN_bd f s 8
  unfold woG
  omega
/-- A look behind a number that is not 38 or 48. -/
def oneG (a : At) (n : Int) : At :=
  if n = 0 then ⟨0, 0, 0⟩
  else ⟨if inI n 30 37 = true then n - 29 else if n = 39 then 0 else if inI n 90 97 = true then n - 81 else a.fg,
    if inI n 40 47 = true then n - 39 else if n = 49 then 0 else if inI n 100 107 = true then n - 91 else a.bg,
    woG (woG a.fl (flagG n) + flagG n) (clrG n)⟩
/-- A look behind what is asked. -/
def chgG (a : At) : List Int → At
  | [] => a
  | n :: r =>
    if n = 38 ∨ n = 48 then
      match r with
      | f :: v :: q => if f = 5 ∧ 0 ≤ v ∧ v ≤ 255 then chgG (if n = 38 then ⟨v + 1, a.bg, a.fl⟩ else ⟨a.fg, v + 1, a.fl⟩) q else a
      | _ => a
    else chgG (oneG a n) r
def changeG (a : At) (l : List Int) : At := if l = [] then ⟨0, 0, 0⟩ else chgG a l
/-- What asks for a look. -/
def askN (f : Int) : Nat → List Int
  | 0 => [0]
  | k + 1 => askN f k ++ if 0 < flagG (k + 1) ∧ f / flagG (k + 1) % 2 = 1 then [(k + 1 : Int)] else []
def askG (a : At) : List Int := askN a.fl 9 ++ (if 0 < a.fg then [38, 5, a.fg - 1] else []) ++ if 0 < a.bg then [48, 5, a.bg - 1] else []
theorem askN_length (f : Int) : ∀ k, (askN f k).length ≤ k + 1
  | 0 => by simp [askN]
  | k + 1 => by
    have := askN_length f k
    simp only [askN, List.length_append]
    split <;> simp <;> omega
theorem askG_length (a : At) : (askG a).length ≤ 16 := by
  have := askN_length a.fl 9
  unfold askG
  rw [List.length_append, List.length_append]
  split <;> split <;> simp <;> omega
theorem oneG_look {a : At} (h : lookB a = true) (n : Int) : lookB (oneG a n) = true := by
  rw [look_iff] at *
  unfold oneG
  split
  · simp
  · have := woG_bd (woG a.fl (flagG n) + flagG n) (clrG n)
    refine ⟨?_, ?_, this⟩
    · dsimp only
      by_cases h1 : inI n 30 37 = true
      · rw [if_pos h1]; rw [inI_iff] at h1; omega
      · rw [if_neg h1]
        by_cases h2 : n = 39
        · rw [if_pos h2]; omega
        · rw [if_neg h2]
          by_cases h3 : inI n 90 97 = true
          · rw [if_pos h3]; rw [inI_iff] at h3; omega
          · rw [if_neg h3]; omega
    · dsimp only
      by_cases h1 : inI n 40 47 = true
      · rw [if_pos h1]; rw [inI_iff] at h1; omega
      · rw [if_neg h1]
        by_cases h2 : n = 49
        · rw [if_pos h2]; omega
        · rw [if_neg h2]
          by_cases h3 : inI n 100 107 = true
          · rw [if_pos h3]; rw [inI_iff] at h3; omega
          · rw [if_neg h3]; omega
theorem chgG_look : ∀ (k : Nat) (l : List Int) (a : At), l.length ≤ k → lookB a = true → lookB (chgG a l) = true
  | _, [], a, _, h => by unfold chgG; exact h
  | k + 1, n :: r, a, hk, h => by
    unfold chgG
    simp only [List.length_cons] at hk
    split
    · split
      · split
        · rename_i h1
          refine chgG_look k _ _ (by simp only [List.length_cons] at hk; omega) ?_
          rw [look_iff] at *
          split <;> (simp only; omega)
        · exact h
      · exact h
    · exact chgG_look k r _ (by omega) (oneG_look h n)
theorem changeG_look {a : At} (h : lookB a = true) (l : List Int) : lookB (changeG a l) = true := by
  unfold changeG
  split
  · rfl
  · exact chgG_look _ l a (Nat.le_refl _) h
theorem chgG_nil {a : At} {l : List Int} {k : Nat} (h : l.length ≤ k) : chgG a (l.drop k) = a := by
  rw [List.drop_eq_nil_of_le h]
  unfold chgG
  rfl
theorem drop_one {l : List Int} {k : Nat} {n : Int} (h : l[k]? = some n) : l.drop k = n :: l.drop (k + 1) := by
  obtain ⟨hk, e⟩ := List.getElem?_eq_some_iff.1 h
  rw [List.drop_eq_getElem_cons hk, e]
theorem chgG_one {a : At} {l : List Int} {k : Nat} {n : Int} (h : l[k]? = some n) (h1 : ¬ n = 38) (h2 : ¬ n = 48) : chgG a (l.drop k) = chgG (oneG a n) (l.drop (k + 1)) := by
  rw [drop_one h]
  conv => lhs; unfold chgG
  rw [if_neg (by omega)]
theorem chgG_short {a : At} {l : List Int} {k : Nat} {n : Int} (h : l[k]? = some n) (h1 : n = 38 ∨ n = 48) (h2 : l.length ≤ k + 2) : chgG a (l.drop k) = a := by
  rw [drop_one h]
  conv => lhs; unfold chgG
  rw [if_pos h1]
  split
  · rename_i f v q e
    have := congrArg List.length e
    simp at this
    omega
  · rfl
theorem chgG_bad {a : At} {l : List Int} {k : Nat} {n f v : Int} (h : l[k]? = some n) (h1 : n = 38 ∨ n = 48) (hf : l[k + 1]? = some f) (hv : l[k + 2]? = some v) (h2 : ¬ (f = 5 ∧ 0 ≤ v ∧ v ≤ 255)) : chgG a (l.drop k) = a := by
  rw [drop_one h, drop_one hf, drop_one hv]
  conv => lhs; unfold chgG
  rw [if_pos h1]
  dsimp only
  rw [if_neg h2]
theorem chgG_good {a : At} {l : List Int} {k : Nat} {n f v : Int} (h : l[k]? = some n) (h1 : n = 38 ∨ n = 48) (hf : l[k + 1]? = some f) (hv : l[k + 2]? = some v) (h2 : f = 5 ∧ 0 ≤ v ∧ v ≤ 255) :
    chgG a (l.drop k) = chgG (if n = 38 then ⟨v + 1, a.bg, a.fl⟩ else ⟨a.fg, v + 1, a.fl⟩) (l.drop (k + 3)) := by
  rw [drop_one h, drop_one hf, drop_one hv]
  conv => lhs; unfold chgG
  rw [if_pos h1]
  dsimp only
  rw [if_pos h2]
end Go.Proofs.YteebbmmgbjpihaaDoor

namespace Go.Proofs.YteebbmmgbjpihaaDoor
open Go.RowKit

structure Ce where
  tx : ByteArray
  wd : Int
  fg : Int
  bg : Int
  fl : Int
def Ce.cells (c : Ce) : Array Value := #[.string c.tx, .int .i64 c.wd, .int .i64 c.fg, .int .i64 c.bg, .int .i64 c.fl]
def Ce.agg (c : Ce) : Value := .agg c.cells
def Ce.at (c : Ce) : At := ⟨c.fg, c.bg, c.fl⟩
def Ce.zero : Ce := ⟨⟨#[]⟩, 0, 0, 0, 0⟩

end Go.Proofs.YteebbmmgbjpihaaDoor

namespace Go.Proofs.YteebbmmgbjpihaaDoor
open Go.RowKit

def withinB (r a b : Int) : Bool := decide (a ≤ r ∧ r ≤ b)

set_option maxHeartbeats 400000 in
theorem within_any (r a b c : Int) (w : World) :
    Calls Tryd.prog 96 #[.int .i32 r, .agg #[.int .i32 a, .int .i32 b, .int .i32 c]] w fun e w' => e = .returned (.bool (withinB r a b)) ∧ Below w.heap.size w w' := by
  by_cases h1 : a ≤ r
  · by_cases h2 : r ≤ b
    all_goals
      go_enter Tryd.func96, Tryd.ntmps96
      go_wp2
      go_ret
      refine ⟨ret_bool ?_, ?_⟩
      · simp [withinB, h1, h2]
      · exact (Below.refl _ _).alloc (Nat.le_refl _) _
  · go_enter Tryd.func96, Tryd.ntmps96
    go_wp2
    go_ret
    refine ⟨ret_bool ?_, ?_⟩
    · simp [withinB]; omega
    · exact (Below.refl _ _).alloc (Nat.le_refl _) _

def lett : Array Value := #[.int .i32 0, .int .i32 127, .int .i32 1, .int .i32 128, .int .i32 2047, .int .i32 2, .int .i32 2048, .int .i32 55295, .int .i32 3, .int .i32 57344, .int .i32 65535, .int .i32 3, .int .i32 65536, .int .i32 1114111, .int .i32 4]

theorem step5 {P : Nat → Prop} {k : Nat} (h : ∀ j < k, P j) (hk : P k) : ∀ j < k + 1, P j := fun j hj => by
  by_cases e : j = k
  · subst e; exact hk
  · exact h j (by omega)

/-- The variable of the letters' ranges holds what its text lays. -/
def Tab (w : World) : Prop := ∃ t, w.heap[4]? = some (.cells #[.int .i32 0, .int .i32 127, .int .i32 1, .int .i32 128, .int .i32 2047, .int .i32 2, .int .i32 2048, .int .i32 55295, .int .i32 3, .int .i32 57344, .int .i32 65535, .int .i32 3, .int .i32 65536, .int .i32 1114111, .int .i32 4] t (0, 0))

theorem Tab.lt {w : World} (h : Tab w) : 4 < w.heap.size := by
  obtain ⟨t, h⟩ := h
  exact (Array.getElem?_eq_some_iff.1 h).1

theorem Tab.below {w w' : World} (h : Tab w) (hb : Below w.heap.size w w') : Tab w' := by
  have hl := h.lt
  obtain ⟨t, h⟩ := h
  exact ⟨t, (hb.block _ hl).trans h⟩

def letterB (r : Int) : Bool := decide ((0 ≤ r ∧ r ≤ 55295) ∨ (57344 ≤ r ∧ r ≤ 1114111))
def lo5 (k : Nat) : Int := [0, 128, 2048, 57344, 65536].getD k 0
def hi5 (k : Nat) : Int := [127, 2047, 55295, 65535, 1114111].getD k 0
def sz5 (k : Nat) : Int := [1, 2, 3, 3, 4].getD k 0

theorem letter_yes (r : Int) (k : Nat) (hk : k < 5) (h : withinB r (lo5 k) (hi5 k) = true) : letterB r = true := by
  unfold withinB at h
  unfold letterB
  have hk5 : k = 0 ∨ k = 1 ∨ k = 2 ∨ k = 3 ∨ k = 4 := by omega
  simp only [decide_eq_true_eq] at *
  rcases hk5 with rfl | rfl | rfl | rfl | rfl <;> simp [lo5, hi5] at h <;> omega

theorem letter_no (r : Int) (h : ∀ j < 5, withinB r (lo5 j) (hi5 j) = false) : letterB r = false := by
  have h0 := h 0 (by omega)
  have h1 := h 1 (by omega)
  have h2 := h 2 (by omega)
  have h3 := h 3 (by omega)
  have h4 := h 4 (by omega)
  unfold withinB at *
  unfold letterB
  simp only [decide_eq_false_iff_not] at *
  simp [lo5, hi5] at *
  omega

theorem ix (k : Nat) (hk : k < 5) (w : World) : (Instr.index 140 (.agg #[.int .i32 0, .int .i32 127, .int .i32 1, .int .i32 128, .int .i32 2047, .int .i32 2, .int .i32 2048, .int .i32 55295, .int .i32 3, .int .i32 57344, .int .i32 65535, .int .i32 3, .int .i32 65536, .int .i32 1114111, .int .i32 4]) (.int .i64 (k : Int))).run Tryd.prog w = .ok (.agg #[.int .i32 (lo5 k), .int .i32 (hi5 k), .int .i32 (sz5 k)]) w := by
  have hk5 : k = 0 ∨ k = 1 ∨ k = 2 ∨ k = 3 ∨ k = 4 := by omega
  rcases hk5 with rfl | rfl | rfl | rfl | rfl <;> (show _ = _; kernel_rfl)

set_option maxHeartbeats 400000 in
theorem letter_any (r : Int) (w : World) (hT : Tab w) :
    Calls Tryd.prog 95 #[.int .i32 r] w fun e w' => e = .returned (.bool (letterB r)) ∧ Below w.heap.size w w' := by
  obtain ⟨tt, hg⟩ := hT
  go_enter Tryd.func95, Tryd.ntmps95
  go_wp2_with (refine wpList_load_row rfl 140 _ rfl 4 rfl tt _ (0, 0) _ hg Tryd.underlying140 rfl (by kernel_rfl) ?_)
  go_loopw [6] (fun i wr => ∃ k : Nat, k ≤ 5 ∧ i = .int .i64 k ∧ (∀ j < k, withinB r (lo5 j) (hi5 j) = false) ∧ Below w.heap.size w wr) (fun i _ => 5 - (intOf i).toNat)
  case atStart => exact ⟨0, by omega, rfl, fun j h => absurd h (by omega), Below.refl _ _⟩
  case round =>
    obtain ⟨k, hk, rfl, hno, hb⟩ := hrel
    have hsz := hb.size
    by_cases hlt : k < 5
    · have hix := ix k hlt
      have HN : Hid (∀ j < k, withinB r (lo5 j) (hi5 j) = false) := hno
      clear hno
      by_cases hw : withinB r (lo5 k) (hi5 k) = true
      · have hl := letter_yes r k hlt hw
        go_wp2_with (go_at_call 96; refine (within_any _ _ _ _ _).mono ?_; rintro e w' ⟨rfl, hb1⟩)
        go_ret
        exact ⟨ret_bool hl.symm, (hb.alloc hsz _).trans (hb1.mono (by simp; omega))⟩
      · have hw : withinB r (lo5 k) (hi5 k) = false := by simpa using hw
        go_wp2_with (go_at_call 96; refine (within_any _ _ _ _ _).mono ?_; rintro e w' ⟨rfl, hb1⟩)
        go_roundw
        case rel => exact ⟨k + 1, by omega, by go_num, step5 HN.out hw, (hb.alloc hsz _).trans (hb1.mono (by simp; omega))⟩
        case measure => simp [intOf]; omega
    · have hl := letter_no r (fun j hj => hno j (by omega))
      clear hno
      go_wp2
      go_ret
      exact ⟨ret_bool hl.symm, hb⟩

def leadR (b : Int) : Int := if b < 128 then b else if b < 192 then 0 else if b < 224 then b - 192 else if b < 240 then b - 224 else if b < 248 then b - 240 else 0
def leadN (b : Int) : Int := if b < 128 then 1 else if b < 192 then 0 else if b < 224 then 2 else if b < 240 then 3 else if b < 248 then 4 else 0

set_option maxHeartbeats 400000 in
theorem lead_any (b : Int) (h0 : 0 ≤ b) (h1 : b ≤ 255) (w : World) :
    Calls Tryd.prog 93 #[.int .u8 b] w fun e w' => e = .returned (.tuple #[.int .i32 (leadR b), .int .i64 (leadN b)]) ∧ w = w' := by
  have hc : b < 128 ∨ (128 ≤ b ∧ b < 192) ∨ (192 ≤ b ∧ b < 224) ∨ (224 ≤ b ∧ b < 240) ∨ (240 ≤ b ∧ b < 248) ∨ 248 ≤ b := by omega
  rcases hc with h | ⟨h, h'⟩ | ⟨h, h'⟩ | ⟨h, h'⟩ | ⟨h, h'⟩ | h
  all_goals
    go_enter Tryd.func93, Tryd.ntmps93
    go_wp2
    go_ret2
    exact ⟨ret_two (by unfold leadR; repeat (first | rw [if_pos (by omega)] | rw [if_neg (by omega)])) (by unfold leadN; repeat (first | rw [if_pos (by omega)] | rw [if_neg (by omega)])), rfl⟩

def begK (bits size : Int) (left k : Nat) : Bool := decide (sz5 k = size ∧ lo5 k / 2 ^ (6 * left) ≤ bits ∧ bits ≤ hi5 k / 2 ^ (6 * left))
theorem begK_no1 {bits size : Int} {left k : Nat} (h : ¬ sz5 k = size) : begK bits size left k = false := by simp [begK, h]
theorem begK_no2 {bits size : Int} {left k : Nat} (h : ¬ lo5 k / 2 ^ (6 * left) ≤ bits) : begK bits size left k = false := by simp [begK, h]
theorem begK_no3 {bits size : Int} {left k : Nat} (h : hi5 k / 2 ^ (6 * left) < bits) : begK bits size left k = false := by
  unfold begK
  rw [decide_eq_false_iff_not]
  exact fun ⟨_, _, h3⟩ => absurd h3 (by omega)
theorem sz5_bd (k : Nat) (hk : k < 5) : 1 ≤ sz5 k ∧ sz5 k ≤ 4 := by
  have hk5 : k = 0 ∨ k = 1 ∨ k = 2 ∨ k = 3 ∨ k = 4 := by omega
  rcases hk5 with rfl | rfl | rfl | rfl | rfl <;> decide

def beginsB (bits size : Int) (left : Nat) : Bool := begK bits size left 0 || begK bits size left 1 || begK bits size left 2 || begK bits size left 3 || begK bits size left 4

theorem begins_yes (bits size : Int) (left k : Nat) (hk : k < 5) (h : begK bits size left k = true) : beginsB bits size left = true := by
  have hk5 : k = 0 ∨ k = 1 ∨ k = 2 ∨ k = 3 ∨ k = 4 := by omega
  rcases hk5 with rfl | rfl | rfl | rfl | rfl <;> simp [beginsB, h]
theorem begins_no (bits size : Int) (left : Nat) (h : ∀ j < 5, begK bits size left j = false) : beginsB bits size left = false := by
  simp [beginsB, h]

set_option maxHeartbeats 400000 in
theorem begins_any (bits size : Int) (left : Nat) (hleft : left ≤ 3) (w : World) (hT : Tab w) :
    Calls Tryd.prog 94 #[.int .i32 bits, .int .i64 size, .int .i64 (left : Int)] w fun e w' => e = .returned (.bool (beginsB bits size left)) ∧ Below w.heap.size w w' := by
  obtain ⟨tt, hg⟩ := hT
  go_enter Tryd.func94, Tryd.ntmps94
  go_wp2_with (refine wpList_load_row rfl 140 _ rfl 4 rfl tt _ (0, 0) _ hg Tryd.underlying140 rfl (by kernel_rfl) ?_)
  go_loopw [10] (fun i wr => ∃ k : Nat, k ≤ 5 ∧ i = .int .i64 k ∧ (∀ j < k, begK bits size left j = false) ∧ Below w.heap.size w wr) (fun i _ => 5 - (intOf i).toNat)
  case atStart => exact ⟨0, by omega, rfl, fun j h => absurd h (by omega), Below.refl _ _⟩
  case round =>
    obtain ⟨k, hk, rfl, hno, hb⟩ := hrel
    have hsz := hb.size
    by_cases hlt : k < 5
    · have hix := ix k hlt
      have HN : Hid (∀ j < k, begK bits size left j = false) := hno
      clear hno
      obtain ⟨hs1, hs2⟩ := sz5_bd k hlt
      go_wp2
      · have hl := begins_yes bits size left k hlt (decide_eq_true ⟨by assumption, by assumption, by assumption⟩)
        go_ret
        exact ⟨ret_bool hl.symm, hb.alloc hsz _⟩
      all_goals
        have hw : begK bits size left k = false := by first | exact begK_no1 (by assumption) | exact begK_no2 (by assumption) | exact begK_no3 (by assumption)
        go_roundw
        case rel => exact ⟨k + 1, by omega, by go_num, step5 HN.out hw, hb.alloc hsz _⟩
        case measure => simp [intOf]; omega
    · have hl := begins_no bits size left (fun j hj => hno j (by omega))
      clear hno
      go_wp2
      go_ret
      exact ⟨ret_bool hl.symm, hb⟩
end Go.Proofs.YteebbmmgbjpihaaDoor

namespace Go.Proofs.YteebbmmgbjpihaaDoor
open Go.RowKit

theorem run_eqA9 (a b c : Int) (W : World) :
    (Op.equalIn 9999 42 (.agg #[.int .i64 a, .int .i64 b, .int .i64 c]) (.agg #[.int .i64 a, .int .i64 b, .int .i64 c])).run Tryd.prog W = .ok true W := by
  have ht : Tryd.prog.underlying 42 = some (.struct (Tryd.prog.fieldsOf 42)) := by unfold Program.fieldsOf; rw [Tryd.underlying42]
  have hp : Tryd.prog.stoodInHeld 42 = false := by kernel_rfl
  rw [run_equalIn_struct W 9998 _ _ _ ht hp]
  unfold Program.fieldsOf
  rw [Tryd.underlying42]
  have u1 := Tryd.underlying3
  have p1 : ∀ W, (part 3 #[.int .i64 a, .int .i64 b, .int .i64 c] 0).run Tryd.prog W = .ok (.int .i64 a) W := fun W => by kernel_rfl
  have p2 : ∀ W, (part 3 #[.int .i64 a, .int .i64 b, .int .i64 c] 1).run Tryd.prog W = .ok (.int .i64 b) W := fun W => by kernel_rfl
  have p3 : ∀ W, (part 3 #[.int .i64 a, .int .i64 b, .int .i64 c] 2).run Tryd.prog W = .ok (.int .i64 c) W := fun W => by kernel_rfl
  have q : ∀ x W, (Op.equalIn 9998 3 (.int .i64 x) (.int .i64 x)).run Tryd.prog W = .ok (x == x) W := fun x W => run_equalIn_int W 9997 _ _ _ x x u1
  simp only [Op.eqFields]
  simp [Sem.run_bind, p1, p2, p3, q, Result.andThen_ok, Sem.run_ite]
theorem run_eqC (t : ByteArray) (v a b c : Int) (W : World) :
    (Op.equalIn 10000 44 (.agg #[.string t, .int .i64 v, .int .i64 a, .int .i64 b, .int .i64 c]) (.agg #[.string t, .int .i64 v, .int .i64 a, .int .i64 b, .int .i64 c])).run Tryd.prog W = .ok true W := by
  have ht : Tryd.prog.underlying 44 = some (.struct (Tryd.prog.fieldsOf 44)) := by unfold Program.fieldsOf; rw [Tryd.underlying44]
  have hp : Tryd.prog.stoodInHeld 44 = false := by kernel_rfl
  rw [run_equalIn_struct W 9999 _ _ _ ht hp]
  unfold Program.fieldsOf
  rw [Tryd.underlying44]
  have u1 := Tryd.underlying3
  have u2 := Tryd.underlying9
  have p1 : ∀ W, (part 9 #[.string t, .int .i64 v, .int .i64 a, .int .i64 b, .int .i64 c] 0).run Tryd.prog W = .ok (.string t) W := fun W => by kernel_rfl
  have p2 : ∀ W, (part 3 #[.string t, .int .i64 v, .int .i64 a, .int .i64 b, .int .i64 c] 1).run Tryd.prog W = .ok (.int .i64 v) W := fun W => by kernel_rfl
  have p3 : ∀ W, (part 42 #[.string t, .int .i64 v, .int .i64 a, .int .i64 b, .int .i64 c] 2).run Tryd.prog W = .ok (.agg #[.int .i64 a, .int .i64 b, .int .i64 c]) W := fun W => by kernel_rfl
  have q1 : ∀ W, (Op.equalIn 9999 9 (.string t) (.string t)).run Tryd.prog W = .ok (t.toList == t.toList) W := fun W => run_equalIn_string W 9998 _ t t u2
  have q2 : ∀ x W, (Op.equalIn 9999 3 (.int .i64 x) (.int .i64 x)).run Tryd.prog W = .ok (x == x) W := fun x W => run_equalIn_int W 9998 _ _ _ x x u1
  have q3 := run_eqA9 a b c
  simp only [Op.eqFields]
  simp [Sem.run_bind, p1, p2, p3, q1, q2, q3, Result.andThen_ok, Sem.run_ite]
theorem run_eqlC (t : ByteArray) (v a b c : Int) (W : World) : (binOp .eql 44 (.agg #[.string t, .int .i64 v, .int .i64 a, .int .i64 b, .int .i64 c]) (.agg #[.string t, .int .i64 v, .int .i64 a, .int .i64 b, .int .i64 c])).run Tryd.prog W = .ok (.bool true) W := by
  rw [run_eql_struct, run_eqC]; rfl
theorem run_neqC (t : ByteArray) (v a b c : Int) (W : World) : (binOp .neq 44 (.agg #[.string t, .int .i64 v, .int .i64 a, .int .i64 b, .int .i64 c]) (.agg #[.string t, .int .i64 v, .int .i64 a, .int .i64 b, .int .i64 c])).run Tryd.prog W = .ok (.bool false) W := by
  rw [run_neq_struct, run_eqC]; rfl

end Go.Proofs.YteebbmmgbjpihaaDoor

namespace Go.Proofs.YteebbmmgbjpihaaDoor
open Go.RowKit

set_option maxHeartbeats 400000 in
theorem rIn_any (n a b : Int) (w : World) :
    Calls Tryd.prog 55 #[.int .i64 n, .int .i64 a, .int .i64 b] w fun e w' => e = .returned (.bool (inI n a b)) ∧ w = w' := by
  by_cases h1 : a ≤ n
  · by_cases h2 : n ≤ b
    all_goals
      go_enter Tryd.func55, Tryd.ntmps55
      go_wp2
      go_ret
      exact ⟨ret_bool (by simp [inI]; omega), rfl⟩
  · go_enter Tryd.func55, Tryd.ntmps55
    go_wp2
    go_ret
    exact ⟨ret_bool (by simp [inI]; omega), rfl⟩

set_option maxHeartbeats 400000 in
theorem rLook_any (a : At) (w : World) :
    Calls Tryd.prog 46 #[a.agg] w fun e w' => e = .returned (.bool (lookB a)) ∧ Below w.heap.size w w' := by
  obtain ⟨fg, bg, fl⟩ := a
  have h1 := rIn_any fg 0 256
  have h2 := rIn_any bg 0 256
  have h3 := rIn_any fl 0 255
  have HR : Hid (lookB ⟨fg, bg, fl⟩ = (inI fg 0 256 && inI bg 0 256 && inI fl 0 255)) := rfl
  generalize inI fg 0 256 = x at *
  generalize inI bg 0 256 = y at *
  generalize inI fl 0 255 = z at *
  unfold At.agg
  cases x <;> cases y
  all_goals
    go_enter Tryd.func46, Tryd.ntmps46
    go_wp2_with (first | (go_at_call 55; (with_reducible refine (h1 _).mono ?_); rintro e w' ⟨rfl, rfl⟩) | (go_at_call 55; (with_reducible refine (h2 _).mono ?_); rintro e w' ⟨rfl, rfl⟩) | (go_at_call 55; (with_reducible refine (h3 _).mono ?_); rintro e w' ⟨rfl, rfl⟩))
    go_ret
    exact ⟨ret_bool (by rw [HR.out]; simp), below_alloc _ _⟩

end Go.Proofs.YteebbmmgbjpihaaDoor
