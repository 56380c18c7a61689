/- What every text of these stands on: bytes of a text by their places, and small words. -/
import Derived.Test.YtglfolbimafcaaaRows
import Derived.WalkKit
import Derived.WalkSpells
import Derived.WalkLawsBesides
import Derived.Deep.QuietTactic
import Derived.BigQuiet
namespace Go.Proofs.Ytglfolbimafcaaa
open Go.RowKit

theorem hid {p : Prop} (h : p) : Hid p := h
theorem ret_bool {a b : Bool} (h : a = b) : Ending.returned (.bool a) = .returned (.bool b) := by rw [h]
theorem ret_int {k : IntKind} {a b : Int} (h : a = b) : Ending.returned (.int k a) = .returned (.int k b) := by rw [h]
theorem ret_str {a b : ByteArray} (h : a = b) : Ending.returned (.string a) = .returned (.string b) := by rw [h]
theorem ret_two {k k' : IntKind} {a b a' b' : Int} (h : a = a') (h' : b = b') : Ending.returned (.tuple #[.int k a, .int k' b]) = .returned (.tuple #[.int k a', .int k' b']) := by rw [h, h']

def byteAt (s : ByteArray) (n : Nat) : Int := if h : n < s.size then (s[n].toNat : Int) else 0
theorem byteAt_eq {s : ByteArray} {n : Nat} (h : n < s.size) : (s[n].toNat : Int) = byteAt s n := by simp [byteAt, h]
theorem byteAt_bd (s : ByteArray) (n : Nat) : 0 ≤ byteAt s n ∧ byteAt s n ≤ 255 := by
  unfold byteAt
  split
  · have := UInt8.toNat_lt s[n]; omega
  · omega
theorem size_extract' (s : ByteArray) (a b : Nat) : (s.extract a b).size = min b s.size - a := by simp [ByteArray.size_extract]
theorem byteAt_extract (s : ByteArray) (a b i : Nat) (h : i < min b s.size - a) : byteAt (s.extract a b) i = byteAt s (a + i) := by
  have h1 : i < (s.extract a b).size := by rw [size_extract']; exact h
  have h2 : a + i < s.size := by omega
  rw [← byteAt_eq h1, ← byteAt_eq h2]
  simp [ByteArray.getElem_extract]
theorem byteAt_left (s t : ByteArray) (i : Nat) (h : i < s.size) : byteAt (s ++ t) i = byteAt s i := by
  have h1 : i < (s ++ t).size := by simp; omega
  rw [← byteAt_eq h1, ← byteAt_eq h]
  simp [ByteArray.getElem_append_left h]
theorem byteAt_right (s t : ByteArray) (i : Nat) (h : i < t.size) : byteAt (s ++ t) (s.size + i) = byteAt t i := by
  have h1 : s.size + i < (s ++ t).size := by simp; omega
  rw [← byteAt_eq h1, ← byteAt_eq h]
  rw [ByteArray.getElem_append_right (by omega)]
  simp
theorem bytes_ext {s t : ByteArray} (h : s.size = t.size) (hb : ∀ i, i < s.size → byteAt s i = byteAt t i) : s = t := by
  apply ByteArray.ext_getElem h
  intro i h1 h2
  have := hb i h1
  rw [← byteAt_eq h1, ← byteAt_eq h2] at this
  exact UInt8.toNat_inj.1 (by omega)
theorem size_append' (a b : ByteArray) : (a ++ b).size = a.size + b.size := ByteArray.size_append
theorem if_iff {p q : Prop} [Decidable p] [Decidable q] {α : Type} {a b : α} (h : p ↔ q) : (if p then a else b) = if q then a else b := by
  by_cases hp : p
  · rw [if_pos hp, if_pos (h.1 hp)]
  · rw [if_neg hp, if_neg (fun hq => hp (h.2 hq))]
theorem nil_app (b : ByteArray) : (⟨#[]⟩ ++ b : ByteArray) = b := ByteArray.empty_append
theorem app_nil (b : ByteArray) : (b ++ ⟨#[]⟩ : ByteArray) = b := ByteArray.append_empty
theorem extract_append_left {a b : ByteArray} {n : Nat} (hn : n ≤ a.size) : (a ++ b).extract n (a ++ b).size = a.extract n a.size ++ b := by
  apply bytes_ext
  · simp; omega
  · intro i hi
    simp at hi
    rw [byteAt_extract _ _ _ _ (by simp; omega)]
    by_cases h : n + i < a.size
    · rw [byteAt_left _ _ _ h, byteAt_left _ _ _ (by rw [size_extract']; omega), byteAt_extract _ _ _ _ (by omega)]
    · have e1 : n + i = a.size + (n + i - a.size) := by omega
      have e2 : i = (a.extract n a.size).size + (n + i - a.size) := by rw [size_extract']; omega
      rw [e1, byteAt_right _ _ _ (by omega)]
      conv => rhs; rw [e2]
      rw [byteAt_right _ _ _ (by omega)]
def strLen : Value → Nat | .string b => b.size | _ => 0
theorem empty_yes {s : ByteArray} (h : s.size = 0) : s = ⟨#[]⟩ := by
  apply ByteArray.ext
  exact Array.eq_empty_of_size_eq_zero h
theorem empty_no {s : ByteArray} (h : ¬ s.size = 0) : s.toList.isEmpty = false := by
  rw [ByteArray.toList_eq]
  have : s.data.toList.length = s.size := by simp
  cases hq : s.data.toList with
  | nil => rw [hq] at this; simp at this; omega
  | cons a l => rfl
theorem quiet_same {P : Program} {f : FuncId} {args : Array Value} {w : World} {n : Nat} {v : Value}
    (h : Calls P f args (w.drewN n) fun e w' => e = .returned v ∧ w.drewN n = w') : Calls P f args (w.drewN n) fun e w'' => e = .returned v ∧ ∃ m, w'' = w.drewN m :=
  h.mono fun _ _ ⟨he, hm⟩ => ⟨he, n, hm.symm⟩
theorem below_drew (w : World) (n : Nat) : Below w.heap.size w (w.drewN n) := ⟨rfl, rfl, rfl, Nat.le_refl _, fun _ _ => rfl⟩
theorem bcell {W w1 : World} (hb : Below W.heap.size W w1) : (∀ b o, b < W.heap.size → w1.cell? ⟨b, o, none⟩ = W.cell? ⟨b, o, none⟩) ∧ (∀ b o, b < W.heap.size → w1.frozen? ⟨b, o, none⟩ = W.frozen? ⟨b, o, none⟩) :=
  ⟨fun b o h => hb.cell (p := ⟨b, o, none⟩) h, fun b o h => hb.frozen (p := ⟨b, o, none⟩) h⟩
theorem below_alloc (w : World) (o : Obj) : Below w.heap.size w (w.alloc o) := (Below.refl _ _).alloc (Nat.le_refl _) _
/-- Behind a new block. -/
theorem Below.behind {w w' : World} {o : Obj} (hb : Below (w.alloc o).heap.size (w.alloc o) w') : Below w.heap.size w w' := (below_alloc w o).trans (hb.mono (by simp))
/-- A contract told from an earlier world on. -/
theorem from_ {P : Program} {f : FuncId} {args : Array Value} {w W : World} {R : Ending → Prop} (h : Calls P f args W fun e w' => R e ∧ Below W.heap.size W w') (hb : Below w.heap.size w W) :
    Calls P f args W fun e w' => R e ∧ Below w.heap.size w w' := h.mono fun _ _ ⟨he, hb'⟩ => ⟨he, hb.trans (hb'.mono hb.size)⟩
end Go.Proofs.Ytglfolbimafcaaa
