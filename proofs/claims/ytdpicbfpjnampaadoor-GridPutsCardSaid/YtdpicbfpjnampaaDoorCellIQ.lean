/- Layer 4, plain: looks, what a number asks of a look, what a row of numbers makes of it, what asks for a look. -/
/- Layer 4, plain: cells. -/
/- The reference of layer 4, walked: in, Look. -/
import Derived.Test.YtdpicbfpjnampaaDoorCellEqQ
namespace Go.Proofs.YtdpicbfpjnampaaDoor
open Go.RowKit

structure At where
  fg : Int
  bg : Int
  fl : Int

def At.agg (a : At) : Value := .agg #[.int .i64 a.fg, .int .i64 a.bg, .int .i64 a.fl]
def At.cells (a : At) : Array Value := #[.int .i64 a.fg, .int .i64 a.bg, .int .i64 a.fl]
def inI (n a b : Int) : Bool := decide (a ≤ n ∧ n ≤ b)
theorem inI_t {n a b : Int} (h : a ≤ n ∧ n ≤ b) : inI n a b = true := decide_eq_true h
theorem inI_f {n a b : Int} (h : ¬ (a ≤ n ∧ n ≤ b)) : inI n a b = false := decide_eq_false h
theorem inI_iff {n a b : Int} : inI n a b = true ↔ a ≤ n ∧ n ≤ b := decide_eq_true_iff
theorem inI_no {n a b : Int} : inI n a b = false ↔ ¬ (a ≤ n ∧ n ≤ b) := decide_eq_false_iff_not
def lookB (a : At) : Bool := inI a.fg 0 256 && inI a.bg 0 256 && inI a.fl 0 255
theorem look_iff {a : At} : lookB a = true ↔ (0 ≤ a.fg ∧ a.fg ≤ 256) ∧ (0 ≤ a.bg ∧ a.bg ≤ 256) ∧ (0 ≤ a.fl ∧ a.fl ≤ 255) := by
  unfold lookB
  rw [Bool.and_eq_true, Bool.and_eq_true, inI_iff, inI_iff, inI_iff, and_assoc]
/-- The flag that a number sets. -/
def flagG (n : Int) : Int := if n = 1 then 1 else if n = 2 then 2 else if n = 3 then 4 else if n = 4 then 8 else if n = 5 then 16 else if n = 7 then 32 else if n = 8 then 64 else if n = 9 then 128 else 0
/-- The flags that a number clears. -/
def clrG (n : Int) : Int := if n = 22 then 3 else if n = 23 then 4 else if n = 24 then 8 else if n = 25 then 16 else if n = 27 then 32 else if n = 28 then 64 else if n = 29 then 128 else 0
theorem flagG_no {n : Int} (h : ¬ (1 ≤ n ∧ n ≤ 9)) : flagG n = 0 := by
  unfold flagG
  repeat rw [if_neg (by omega)]
theorem clrG_no {n : Int} (h : ¬ (22 ≤ n ∧ n ≤ 29)) : clrG n = 0 := by
  unfold clrG
  repeat rw [if_neg (by omega)]
theorem flagG_mem (n : Int) : flagG n = 1 ∨ flagG n = 2 ∨ flagG n = 4 ∨ flagG n = 8 ∨ flagG n = 16 ∨ flagG n = 32 ∨ flagG n = 64 ∨ flagG n = 128 ∨ flagG n = 0 := by
  unfold flagG
  repeat' split
  all_goals simp
theorem clrG_mem (n : Int) : clrG n = 3 ∨ clrG n = 4 ∨ clrG n = 8 ∨ clrG n = 16 ∨ clrG n = 32 ∨ clrG n = 64 ∨ clrG n = 128 ∨ clrG n = 0 := by
  unfold clrG
  repeat' split
  all_goals simp
theorem flagG_bd (n : Int) : 0 ≤ flagG n ∧ flagG n ≤ 128 := by have := flagG_mem n; omega
theorem clrG_bd (n : Int) : 0 ≤ clrG n ∧ clrG n ≤ 128 := by have := clrG_mem n; omega
/-- Flags without some, bit by bit. -/
def woN (f s : Int) : Nat → Int
  | 0 => 0
  | k + 1 => woN f s k + if f / 2 ^ k % 2 = 1 ∧ s / 2 ^ k % 2 = 0 then 2 ^ k else 0
def woG (f s : Int) : Int := woN f s 8
theorem woN_bd (f s : Int) : ∀ k, 0 ≤ woN f s k ∧ woN f s k < 2 ^ k
  | 0 => by simp [woN]
  | k + 1 => by
    have := woN_bd f s k
    have e : (2 : Int) ^ (k + 1) = 2 ^ k * 2 := Int.pow_succ 2 k
    simp only [woN]
    rw [e]
    split <;> omega
theorem woG_bd (f s : Int) : 0 ≤ woG f s ∧ woG f s ≤ 255 := by
  have := woN_bd f s 8
  unfold woG
  omega
/-- A look behind a number that is not 38 or 48. -/
def oneG (a : At) (n : Int) : At :=
  if n = 0 then ⟨0, 0, 0⟩
  else ⟨if inI n 30 37 = true then n - 29 else if n = 39 then 0 else if inI n 90 97 = true then n - 81 else a.fg,
    if inI n 40 47 = true then n - 39 else if n = 49 then 0 else if inI n 100 107 = true then n - 91 else a.bg,
    woG (woG a.fl (flagG n) + flagG n) (clrG n)⟩
/-- A look behind what is asked. -/
def chgG (a : At) : List Int → At
  | [] => a
  | n :: r =>
    if n = 38 ∨ n = 48 then
      match r with
      | f :: v :: q => if f = 5 ∧ 0 ≤ v ∧ v ≤ 255 then chgG (if n = 38 then ⟨v + 1, a.bg, a.fl⟩ else ⟨a.fg, v + 1, a.fl⟩) q else a
      | _ => a
    else chgG (oneG a n) r
def changeG (a : At) (l : List Int) : At := if l = [] then ⟨0, 0, 0⟩ else chgG a l
/-- What asks for a look. -/
def askN (f : Int) : Nat → List Int
  | 0 => [0]
  | k + 1 => askN f k ++ if 0 < flagG (k + 1) ∧ f / flagG (k + 1) % 2 = 1 then [(k + 1 : Int)] else []
def askG (a : At) : List Int := askN a.fl 9 ++ (if 0 < a.fg then [38, 5, a.fg - 1] else []) ++ if 0 < a.bg then [48, 5, a.bg - 1] else []
theorem askN_length (f : Int) : ∀ k, (askN f k).length ≤ k + 1
  | 0 => by simp [askN]
  | k + 1 => by
    have := askN_length f k
    simp only [askN, List.length_append]
    split <;> simp <;> omega
theorem askG_length (a : At) : (askG a).length ≤ 16 := by
  have := askN_length a.fl 9
  unfold askG
  rw [List.length_append, List.length_append]
  split <;> split <;> simp <;> omega
theorem oneG_look {a : At} (h : lookB a = true) (n : Int) : lookB (oneG a n) = true := by
  rw [look_iff] at *
  unfold oneG
  split
  · simp
  · have := woG_bd (woG a.fl (flagG n) + flagG n) (clrG n)
    refine ⟨?_, ?_, this⟩
    · dsimp only
      by_cases h1 : inI n 30 37 = true
      · rw [if_pos h1]; rw [inI_iff] at h1; omega
      · rw [if_neg h1]
        by_cases h2 : n = 39
        · rw [if_pos h2]; omega
        · rw [if_neg h2]
          by_cases h3 : inI n 90 97 = true
          · rw [if_pos h3]; rw [inI_iff] at h3; omega
          · rw [if_neg h3]; omega
    · dsimp only
      by_cases h1 : inI n 40 47 = true
      · rw [if_pos h1]; rw [inI_iff] at h1; omega
      · rw [if_neg h1]
        by_cases h2 : n = 49
        · rw [if_pos h2]; omega
        · rw [if_neg h2]
          by_cases h3 : inI n 100 107 = true
          · rw [if_pos h3]; rw [inI_iff] at h3; omega
          · rw [if_neg h3]; omega
theorem chgG_look : ∀ (k : Nat) (l : List Int) (a : At), l.length ≤ k → lookB a = true → lookB (chgG a l) = true
  | _, [], a, _, h => by unfold chgG; exact h
  | k + 1, n :: r, a, hk, h => by
    unfold chgG
    simp only [List.length_cons] at hk
    split
    · split
      · split
        · rename_i h1
          refine chgG_look k _ _ (by simp only [List.length_cons] at hk; omega) ?_
          rw [look_iff] at *
          split <;> (simp only; omega)
        · exact h
      · exact h
    · exact chgG_look k r _ (by omega) (oneG_look h n)
theorem changeG_look {a : At} (h : lookB a = true) (l : List Int) : lookB (changeG a l) = true := by
  unfold changeG
  split
  · rfl
  · exact chgG_look _ l a (Nat.le_refl _) h
theorem chgG_nil {a : At} {l : List Int} {k : Nat} (h : l.length ≤ k) : chgG a (l.drop k) = a := by
  rw [List.drop_eq_nil_of_le h]
  unfold chgG
  rfl
theorem drop_one {l : List Int} {k : Nat} {n : Int} (h : l[k]? = some n) : l.drop k = n :: l.drop (k + 1) := by
  obtain ⟨hk, e⟩ := List.getElem?_eq_some_iff.1 h
  rw [List.drop_eq_getElem_cons hk, e]
theorem chgG_one {a : At} {l : List Int} {k : Nat} {n : Int} (h : l[k]? = some n) (h1 : ¬ n = 38) (h2 : ¬ n = 48) : chgG a (l.drop k) = chgG (oneG a n) (l.drop (k + 1)) := by
  rw [drop_one h]
  conv => lhs; unfold chgG
  rw [if_neg (by omega)]
theorem chgG_short {a : At} {l : List Int} {k : Nat} {n : Int} (h : l[k]? = some n) (h1 : n = 38 ∨ n = 48) (h2 : l.length ≤ k + 2) : chgG a (l.drop k) = a := by
  rw [drop_one h]
  conv => lhs; unfold chgG
  rw [if_pos h1]
  split
  · rename_i f v q e
    have := congrArg List.length e
    simp at this
    omega
  · rfl
theorem chgG_bad {a : At} {l : List Int} {k : Nat} {n f v : Int} (h : l[k]? = some n) (h1 : n = 38 ∨ n = 48) (hf : l[k + 1]? = some f) (hv : l[k + 2]? = some v) (h2 : ¬ (f = 5 ∧ 0 ≤ v ∧ v ≤ 255)) : chgG a (l.drop k) = a := by
  rw [drop_one h, drop_one hf, drop_one hv]
  conv => lhs; unfold chgG
  rw [if_pos h1]
  dsimp only
  rw [if_neg h2]
theorem chgG_good {a : At} {l : List Int} {k : Nat} {n f v : Int} (h : l[k]? = some n) (h1 : n = 38 ∨ n = 48) (hf : l[k + 1]? = some f) (hv : l[k + 2]? = some v) (h2 : f = 5 ∧ 0 ≤ v ∧ v ≤ 255) :
    chgG a (l.drop k) = chgG (if n = 38 then ⟨v + 1, a.bg, a.fl⟩ else ⟨a.fg, v + 1, a.fl⟩) (l.drop (k + 3)) := by
  rw [drop_one h, drop_one hf, drop_one hv]
  conv => lhs; unfold chgG
  rw [if_pos h1]
  dsimp only
  rw [if_pos h2]
end Go.Proofs.YtdpicbfpjnampaaDoor

namespace Go.Proofs.YtdpicbfpjnampaaDoor
open Go.RowKit

structure Ce where
  tx : ByteArray
  wd : Int
  fg : Int
  bg : Int
  fl : Int
def Ce.cells (c : Ce) : Array Value := #[.string c.tx, .int .i64 c.wd, .int .i64 c.fg, .int .i64 c.bg, .int .i64 c.fl]
def Ce.agg (c : Ce) : Value := .agg c.cells
def Ce.at (c : Ce) : At := ⟨c.fg, c.bg, c.fl⟩
def Ce.zero : Ce := ⟨⟨#[]⟩, 0, 0, 0, 0⟩

end Go.Proofs.YtdpicbfpjnampaaDoor

namespace Go.Proofs.YtdpicbfpjnampaaDoor
open Go.RowKit

set_option maxHeartbeats 400000 in
theorem rIn_any (n a b : Int) (w : World) :
    Calls Tryd.prog 54 #[.int .i64 n, .int .i64 a, .int .i64 b] w fun e w' => e = .returned (.bool (inI n a b)) ∧ w = w' := by
  by_cases h1 : a ≤ n
  · by_cases h2 : n ≤ b
    all_goals
      go_enter Tryd.func54, Tryd.ntmps54
      go_wp2
      go_ret
      exact ⟨ret_bool (by simp [inI]; omega), rfl⟩
  · go_enter Tryd.func54, Tryd.ntmps54
    go_wp2
    go_ret
    exact ⟨ret_bool (by simp [inI]; omega), rfl⟩

set_option maxHeartbeats 400000 in
theorem rLook_any (a : At) (w : World) :
    Calls Tryd.prog 13 #[a.agg] w fun e w' => e = .returned (.bool (lookB a)) ∧ Below w.heap.size w w' := by
  obtain ⟨fg, bg, fl⟩ := a
  have h1 := rIn_any fg 0 256
  have h2 := rIn_any bg 0 256
  have h3 := rIn_any fl 0 255
  have HR : Hid (lookB ⟨fg, bg, fl⟩ = (inI fg 0 256 && inI bg 0 256 && inI fl 0 255)) := rfl
  generalize inI fg 0 256 = x at *
  generalize inI bg 0 256 = y at *
  generalize inI fl 0 255 = z at *
  unfold At.agg
  cases x <;> cases y
  all_goals
    go_enter Tryd.func13, Tryd.ntmps13
    go_wp2_with (first | (go_at_call 54; (with_reducible refine (h1 _).mono ?_); rintro e w' ⟨rfl, rfl⟩) | (go_at_call 54; (with_reducible refine (h2 _).mono ?_); rintro e w' ⟨rfl, rfl⟩) | (go_at_call 54; (with_reducible refine (h3 _).mono ?_); rintro e w' ⟨rfl, rfl⟩))
    go_ret
    exact ⟨ret_bool (by rw [HR.out]; simp), below_alloc _ _⟩

end Go.Proofs.YtdpicbfpjnampaaDoor
