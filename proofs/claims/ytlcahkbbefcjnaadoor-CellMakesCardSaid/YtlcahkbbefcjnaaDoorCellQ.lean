/- Layer 4, the package: what one number of a row asks of a look. -/
import Derived.Test.YtlcahkbbefcjnaaDoorCellP
import Derived.Test.YtlcahkbbefcjnaaDoorIRow
import Derived.Deep.DeepCutAuto
import Derived.Maps.AppendAt
import Derived.OwnWalk
namespace Go.Proofs.YtlcahkbbefcjnaaDoor
open Go.RowKit

theorem or_all : ∀ f ∈ List.range 256, ∀ s ∈ [1, 2, 4, 8, 16, 32, 64, 128, 0], bits .or .i64 (f : Int) s = woG f s + s := by decide +kernel
theorem or_lt : ∀ f ∈ List.range 256, ∀ s ∈ [(1 : Int), 2, 4, 8, 16, 32, 64, 128, 0], woG f s + s < 256 := by decide +kernel
theorem not_all : ∀ f ∈ List.range 256, ∀ s ∈ [3, 4, 8, 16, 32, 64, 128, 0], bits .andNot .i64 (f : Int) s = woG f s := by decide +kernel
theorem or_is {f n : Int} (h : 0 ≤ f ∧ f ≤ 255) : bits .or .i64 f (flagG n) = woG f (flagG n) + flagG n := by
  have h1 := or_all f.toNat (by simp; omega) (flagG n) (by have := flagG_mem n; simp; omega)
  rw [Int.toNat_of_nonneg h.1] at h1
  exact h1
theorem or_bd {f n : Int} (h : 0 ≤ f ∧ f ≤ 255) : 0 ≤ woG f (flagG n) + flagG n ∧ woG f (flagG n) + flagG n ≤ 255 := by
  have h1 := or_lt f.toNat (by simp; omega) (flagG n) (by have := flagG_mem n; simp; omega)
  rw [Int.toNat_of_nonneg h.1] at h1
  have h2 := woG_bd f (flagG n)
  have h3 := flagG_bd n
  omega
theorem not_is {f n : Int} (h : 0 ≤ f ∧ f ≤ 255) : bits .andNot .i64 f (clrG n) = woG f (clrG n) := by
  have h1 := not_all f.toNat (by simp; omega) (clrG n) (by have := clrG_mem n; simp; omega)
  rw [Int.toNat_of_nonneg h.1] at h1
  exact h1

/-- A colour behind a number, of one of two rows. -/
def rowG (x n row bright : Int) : Int := if row ≤ n ∧ n < row + 8 then 1 + n - row else if bright ≤ n ∧ n < bright + 8 then 9 + n - bright else if n = row + 9 then 0 else x
theorem oneG_rows {a : At} {n : Int} (h : n ≠ 0) : oneG a n = ⟨rowG a.fg n 30 90, rowG a.bg n 40 100, woG (woG a.fl (flagG n) + flagG n) (clrG n)⟩ := by
  unfold oneG rowG inI
  simp only [decide_eq_true_eq]
  rw [if_neg h]
  congr 1
  all_goals
    repeat' split
    all_goals omega

theorem set_self {cs : Array Value} {i : Nat} {u : Value} (h : cs[i]? = some u) : cs.setIfInBounds i u = cs := by
  apply Array.ext_getElem?
  intro j
  rw [Array.getElem?_setIfInBounds]
  split
  · rename_i e; subst e
    rw [h]
    have := (Array.getElem?_eq_some_iff.1 h).1
    rw [if_pos this]
  · rfl

/-- Nothing that was there has turned, but this block. -/
def But (b : Nat) (W W' : World) : Prop := W.grownBy W' (some b)
theorem But.refl (b : Nat) (W : World) : But b W W := World.grownBy.refl W _
theorem But.trans {b : Nat} {W W1 W2 : World} (h : But b W W1) (h2 : But b W1 W2) : But b W W2 := World.grownBy.trans h h2
theorem But.drew {b : Nat} {W W1 : World} (h : But b W W1) : But b W W1.drew := ⟨h.os, h.tape, h.output, h.size, h.block⟩
theorem But.of_below {b : Nat} {W W1 : World} (h : Below W.heap.size W W1) : But b W W1 := ⟨h.os, h.tape, h.output, h.size, fun k hk _ => h.block k hk⟩
theorem But.set {b i : Nat} {W W1 : World} (h : But b W W1) (u : Value) : But b W (W1.setCell ⟨b, i, none⟩ u) :=
  h.trans ⟨rfl, rfl, rfl, by simp [World.setCell], fun k _ hk => Below.heap_setCell _ _ _ _ (fun e => hk (by rw [e]))⟩
theorem But.below {b : Nat} {W W1 : World} (h : But b W W1) (hb : b ≤ W.heap.size) : Below b W W1 := (Below.refl b W).grown h hb (fun k hk => by cases hk; exact Nat.le_refl _)
theorem Box.but {W W' : World} {b c : Nat} {t : TypeId} {cs : Array Value} (h : Box W c t cs) (hb : But b W W') (hne : c ≠ b) : Box W' c t cs := h.grown hb (by simpa using hne)

def RowPost (W : World) (b i : Nat) (t : TypeId) (cs : Array Value) (v : Int) (w' : World) : Prop := Box w' b t (cs.setIfInBounds i (.int .i64 v)) ∧ But b W w'
set_option maxHeartbeats 400000 in
theorem askRow_any (b i : Nat) (t : TypeId) (cs : Array Value) (x n row bright : Int) (W : World) (hrb : (row = 30 ∧ bright = 90) ∨ (row = 40 ∧ bright = 100)) (hbox : Box W b t cs) (hx : cs[i]? = some (.int .i64 x)) :
    Calls Tryd.prog 54 #[.pointer (some ⟨b, i, none⟩), .int .i64 n, .int .i64 row, .int .i64 bright] W fun e w' => e = .returned (.tuple #[]) ∧ RowPost W b i t cs (rowG x n row bright) w' := by
  have hc : W.cell? ⟨b, i, none⟩ = some (.int .i64 x) := (hbox.cell i).trans hx
  have hf := hbox.free i
  have HS := hid (set_self hx)
  have HB := hid hbox
  clear hbox hx
  rcases hrb with ⟨rfl, rfl⟩ | ⟨rfl, rfl⟩
  · have hcs : n < 30 ∨ (30 ≤ n ∧ n < 38) ∨ n = 38 ∨ n = 39 ∨ (40 ≤ n ∧ n < 90) ∨ (90 ≤ n ∧ n < 98) ∨ 98 ≤ n := by omega
    rcases hcs with h | ⟨h, h'⟩ | rfl | rfl | ⟨h, h'⟩ | ⟨h, h'⟩ | h
    · have HR : Hid (rowG x n 30 90 = x) := by unfold Hid rowG; rw [if_neg (by omega), if_neg (by omega), if_neg (by omega)]
      have hq : (n == 39) = false := by simp; omega
      go_enter Tryd.func54, Tryd.ntmps54
      go_wp2
      go_end0
      exact ⟨rfl, by rw [HR.out]; exact ⟨by rw [HS.out]; exact HB.out, But.refl _ _⟩⟩
    · have HR : Hid (rowG x n 30 90 = 1 + n - 30) := by unfold Hid rowG; rw [if_pos (by omega)]
      go_enter Tryd.func54, Tryd.ntmps54
      go_wp2
      go_end0
      exact ⟨rfl, by rw [HR.out]; exact ⟨HB.out.set _, (But.refl _ _).set _⟩⟩
    · have HR : Hid (rowG x 38 30 90 = x) := by unfold Hid rowG; rw [if_neg (by omega), if_neg (by omega), if_neg (by omega)]
      go_enter Tryd.func54, Tryd.ntmps54
      go_wp2
      go_end0
      exact ⟨rfl, by rw [HR.out]; exact ⟨by rw [HS.out]; exact HB.out, But.refl _ _⟩⟩
    · have HR : Hid (rowG x 39 30 90 = 0) := by unfold Hid rowG; rw [if_neg (by omega), if_neg (by omega), if_pos (by omega)]
      go_enter Tryd.func54, Tryd.ntmps54
      go_wp2
      go_end0
      exact ⟨rfl, by rw [HR.out]; exact ⟨HB.out.set _, (But.refl _ _).set _⟩⟩
    · have HR : Hid (rowG x n 30 90 = x) := by unfold Hid rowG; rw [if_neg (by omega), if_neg (by omega), if_neg (by omega)]
      have hq : (n == 39) = false := by simp; omega
      go_enter Tryd.func54, Tryd.ntmps54
      go_wp2
      go_end0
      exact ⟨rfl, by rw [HR.out]; exact ⟨by rw [HS.out]; exact HB.out, But.refl _ _⟩⟩
    · have HR : Hid (rowG x n 30 90 = 9 + n - 90) := by unfold Hid rowG; rw [if_neg (by omega), if_pos (by omega)]
      go_enter Tryd.func54, Tryd.ntmps54
      go_wp2
      go_end0
      exact ⟨rfl, by rw [HR.out]; exact ⟨HB.out.set _, (But.refl _ _).set _⟩⟩
    · have HR : Hid (rowG x n 30 90 = x) := by unfold Hid rowG; rw [if_neg (by omega), if_neg (by omega), if_neg (by omega)]
      have hq : (n == 39) = false := by simp; omega
      go_enter Tryd.func54, Tryd.ntmps54
      go_wp2
      go_end0
      exact ⟨rfl, by rw [HR.out]; exact ⟨by rw [HS.out]; exact HB.out, But.refl _ _⟩⟩
  · have hcs : n < 40 ∨ (40 ≤ n ∧ n < 48) ∨ n = 48 ∨ n = 49 ∨ (50 ≤ n ∧ n < 100) ∨ (100 ≤ n ∧ n < 108) ∨ 108 ≤ n := by omega
    rcases hcs with h | ⟨h, h'⟩ | rfl | rfl | ⟨h, h'⟩ | ⟨h, h'⟩ | h
    · have HR : Hid (rowG x n 40 100 = x) := by unfold Hid rowG; rw [if_neg (by omega), if_neg (by omega), if_neg (by omega)]
      have hq : (n == 49) = false := by simp; omega
      go_enter Tryd.func54, Tryd.ntmps54
      go_wp2
      go_end0
      exact ⟨rfl, by rw [HR.out]; exact ⟨by rw [HS.out]; exact HB.out, But.refl _ _⟩⟩
    · have HR : Hid (rowG x n 40 100 = 1 + n - 40) := by unfold Hid rowG; rw [if_pos (by omega)]
      go_enter Tryd.func54, Tryd.ntmps54
      go_wp2
      go_end0
      exact ⟨rfl, by rw [HR.out]; exact ⟨HB.out.set _, (But.refl _ _).set _⟩⟩
    · have HR : Hid (rowG x 48 40 100 = x) := by unfold Hid rowG; rw [if_neg (by omega), if_neg (by omega), if_neg (by omega)]
      go_enter Tryd.func54, Tryd.ntmps54
      go_wp2
      go_end0
      exact ⟨rfl, by rw [HR.out]; exact ⟨by rw [HS.out]; exact HB.out, But.refl _ _⟩⟩
    · have HR : Hid (rowG x 49 40 100 = 0) := by unfold Hid rowG; rw [if_neg (by omega), if_neg (by omega), if_pos (by omega)]
      go_enter Tryd.func54, Tryd.ntmps54
      go_wp2
      go_end0
      exact ⟨rfl, by rw [HR.out]; exact ⟨HB.out.set _, (But.refl _ _).set _⟩⟩
    · have HR : Hid (rowG x n 40 100 = x) := by unfold Hid rowG; rw [if_neg (by omega), if_neg (by omega), if_neg (by omega)]
      have hq : (n == 49) = false := by simp; omega
      go_enter Tryd.func54, Tryd.ntmps54
      go_wp2
      go_end0
      exact ⟨rfl, by rw [HR.out]; exact ⟨by rw [HS.out]; exact HB.out, But.refl _ _⟩⟩
    · have HR : Hid (rowG x n 40 100 = 9 + n - 100) := by unfold Hid rowG; rw [if_neg (by omega), if_pos (by omega)]
      go_enter Tryd.func54, Tryd.ntmps54
      go_wp2
      go_end0
      exact ⟨rfl, by rw [HR.out]; exact ⟨HB.out.set _, (But.refl _ _).set _⟩⟩
    · have HR : Hid (rowG x n 40 100 = x) := by unfold Hid rowG; rw [if_neg (by omega), if_neg (by omega), if_neg (by omega)]
      have hq : (n == 49) = false := by simp; omega
      go_enter Tryd.func54, Tryd.ntmps54
      go_wp2
      go_end0
      exact ⟨rfl, by rw [HR.out]; exact ⟨by rw [HS.out]; exact HB.out, But.refl _ _⟩⟩

/-- What askNumber does: how many are taken, and the colour. -/
def numG (x : Int) (l : List Int) : Int × Int :=
  match l with
  | _ :: f :: v :: _ => if f = 5 ∧ 0 ≤ v ∧ v ≤ 255 then (3, v + 1) else ((l.length : Int), x)
  | _ => ((l.length : Int), x)
theorem numG_short {x : Int} {l : List Int} (h : l.length < 3) : numG x l = ((l.length : Int), x) := by
  unfold numG
  split
  · simp at h; omega
  · rfl
theorem numG_long {x n f v : Int} {q : List Int} : numG x (n :: f :: v :: q) = if f = 5 ∧ 0 ≤ v ∧ v ≤ 255 then (3, v + 1) else (((n :: f :: v :: q).length : Int), x) := rfl

set_option maxHeartbeats 400000 in
theorem askNumber_any (b i : Nat) (t : TypeId) (cs : Array Value) (x : Int) (v : Value) (l : List Int) (W : World) (hbox : Box W b t cs) (hx : cs[i]? = some (.int .i64 x)) (hr : IRow W v l) (hm : l.length ≤ 1000000) :
    Calls Tryd.prog 51 #[.pointer (some ⟨b, i, none⟩), v] W fun e w' => e = .returned (.int .i64 (numG x l).1) ∧ RowPost W b i t cs (numG x l).2 w' := by
  have hc : W.cell? ⟨b, i, none⟩ = some (.int .i64 x) := (hbox.cell i).trans hx
  have hf := hbox.free i
  have HS := hid (set_self hx)
  have HB := hid hbox
  obtain ⟨A, c, rfl, hA⟩ := hr
  clear hbox hx
  by_cases h3 : l.length < 3
  · rw [numG_short h3]
    have h3' : (l.length : Int) < 3 := by omega
    clear hA
    generalize l.length = m at *
    go_enter Tryd.func51, Tryd.ntmps51
    go_wp2
    go_ret
    exact ⟨rfl, by rw [HS.out]; exact HB.out, But.refl _ _⟩
  · obtain ⟨n, f, u, q, rfl⟩ : ∃ n f u q, l = n :: f :: u :: q := by
      match l, h3 with
      | n :: f :: u :: q, _ => exact ⟨n, f, u, q, rfl⟩
      | [], h => exact absurd (by simp) h
      | [_], h => exact absurd (by simp) h
      | [_, _], h => exact absurd (by simp) h
    obtain ⟨ad, rfl, had, hcell⟩ := hA (by simp)
    have x1 : W.cell? ⟨ad.block, ad.off + 1, none⟩ = some (.int .i64 f) := hcell 1 f rfl
    have x2 : W.cell? ⟨ad.block, ad.off + 2, none⟩ = some (.int .i64 u) := hcell 2 u rfl
    rw [numG_long]
    clear hcell hA
    have hm3 : 3 ≤ (n :: f :: u :: q).length := by simp
    generalize (n :: f :: u :: q).length = m at *
    have h3' : ¬ (m : Int) < 3 := by omega
    have p1 : 1 < m := by omega
    have p2 : 2 < m := by omega
    have p3 : (1 : Int) < m := by omega
    have p4 : (2 : Int) < m := by omega
    clear h3 hm3
    by_cases h5 : f = 5
    · subst h5
      have hcs : (0 ≤ u ∧ u ≤ 255) ∨ u < 0 ∨ (0 ≤ u ∧ 255 < u) := by omega
      rcases hcs with ⟨h, h'⟩ | h | ⟨h, h'⟩
      · rw [if_pos ⟨rfl, h, h'⟩]
        go_enter Tryd.func51, Tryd.ntmps51
        go_wp2
        go_ret
        exact ⟨rfl, by rw [Int.add_comm]; exact HB.out.set _, (But.refl _ _).set _⟩
      · rw [if_neg (by omega)]
        go_enter Tryd.func51, Tryd.ntmps51
        go_wp2
        go_ret
        exact ⟨rfl, by rw [HS.out]; exact HB.out, But.refl _ _⟩
      · rw [if_neg (by omega)]
        go_enter Tryd.func51, Tryd.ntmps51
        go_wp2
        go_ret
        exact ⟨rfl, by rw [HS.out]; exact HB.out, But.refl _ _⟩
    · rw [if_neg (fun h => h5 h.1)]
      have h5' : (f != 5) = true := by simp [h5]
      clear h5
      go_enter Tryd.func51, Tryd.ntmps51
      go_wp2
      go_ret
      exact ⟨rfl, by rw [HS.out]; exact HB.out, But.refl _ _⟩
end Go.Proofs.YtlcahkbbefcjnaaDoor
