/- Layer 6, the package: lines appended to a slice without room; lines cut. -/
import Derived.Test.YtkejoknphnkhnaaDoorGridLaQ
import Derived.Deep.AppendSrc
import Derived.StillTailTactics
namespace Go.Proofs.YtkejoknphnkhnaaDoor
open Go.RowKit

theorem LR.flat {W : World} {A : Option Addr} {k c : Nat} {l : List (Ln × Value)} (h : LR W (.slice A k c) l) (hl : l.length = k) : (l = [] ∨ ∃ a, A = some a ∧ ∀ j u, (lflat l)[j]? = some u → W.cell? (a.add j) = some u) := by
  obtain ⟨A', c', e, _, hc⟩ := h
  cases e
  by_cases hn : l = []
  · exact .inl hn
  · obtain ⟨g, o, rfl, _, hc⟩ := hc hn
    refine .inr ⟨_, rfl, fun j u hu => ?_⟩
    obtain ⟨e, h1, h2⟩ := lflat_inv l j u hu
    rw [addr_add]
    have := hc (j / 2) e h1
    rcases h2 with ⟨h3, rfl⟩ | ⟨h3, rfl⟩
    · have := this.1
      rwa [show o + j / 2 * 2 = o + j by omega] at this
    · have := this.2
      rwa [show o + j / 2 * 2 + 1 = o + j by omega] at this
set_option maxRecDepth 100000 in
theorem run_append_ln_grow (w : World) (A : Option Addr) (k cap : Nat) (vx : Value) (l m : List (Ln × Value)) (hl : LR w (.slice A k cap) l) (hk : l.length = k) (hx : LR w vx m) (hm : CesOf w m) (hroom : cap < k + m.length) (hkc : k ≤ cap) (hb : k + m.length ≤ 1000000) :
    ∃ v' w', (∀ ty, (Builtin.append_ #[22, 22] ty #[.slice A k cap, vx]).run Tryd.prog w = .ok v' w') ∧ OwnL w' w.heap.size v' (l ++ m) ∧ Below w.heap.size w w' := by
  obtain ⟨i0, hi, hz0, hz1, hz2⟩ := info_parts ln_info
  obtain ⟨B, cx, rfl⟩ := hx.spell
  have hmne : m ≠ [] := by intro e; rw [e] at hroom; simp at hroom; omega
  obtain ⟨a, rfl, hcells⟩ : ∃ a, B = some a ∧ ∀ j u, (lflat m)[j]? = some u → w.cell? (a.add j) = some u := by
    rcases hx.flat rfl with h | h
    · exact absurd h hmne
    · exact h
  have hold : (Builtin.firstCells i0.size k (.slice A k cap)).run Tryd.prog w.drew = .ok (lflat l).toArray w.drew := by
    rw [hz1]
    rcases hl.flat hk with h | ⟨b, rfl, hc⟩
    · subst h
      simp at hk
      subst hk
      cases A with
      | none => exact run_firstCells_none w.drew 2 0 0 cap
      | some b => exact run_firstCells_some w.drew 2 0 b 0 cap [] (by simp) (by simp)
    · exact run_firstCells_some w.drew 2 k b k cap (lflat l) (by rw [lflat_length, hk]) (fun j u hu => hc j u hu)
  have hsrc : Src Tryd.prog i0.size 22 (.slice (some a) m.length cx) m.length (lflat m) w := by
    rw [hz1]
    exact Src.ofSlice w Tryd.underlying22 a m.length cx (lflat m) (lflat_length m) hcells (cesOf_one hm)
  refine ⟨_, _, fun ty => run_append_grow_src w _ _ ty _ i0 _ Tryd.underlying22 hi hz0 A k cap (lflat l) hold _ m.length (lflat m) hsrc hroom (by omega) (by rw [hz2]; exact growslice_fits hroom (by omega)), ?_, ?_⟩
  · have hge := grownCap_ge w (k + m.length) cap 61
    have hcm : grownCap w (k + m.length) cap 61 ≤ maxLen := grownCap_le_maxLen w (k + m.length) cap 61 (by unfold maxLen; omega)
    have hfl : (lflat l ++ lflat m).length = (k + m.length) * 2 := by rw [List.length_append, lflat_length, lflat_length, hk]; omega
    unfold OwnL
    rw [List.length_append, hk, lflat_append]
    refine ⟨hfl, .inr ⟨w.heap.size, _, _, rfl, Nat.le_refl _, heap_alloc_new w.drew _, hge, hcm, ?_, ?_⟩⟩
    · rw [Array.size_append, size_zeroCells, List.size_toArray, hfl, show (Value.agg #[Value.slice none 0 0, Value.bool false]).cells.size = 2 from rfl, ← Nat.add_mul]
      congr 1
      omega
    · rw [Array.toList_append, List.toList_toArray, ← hfl]
      exact List.take_left
  · exact (Below.refl _ _).drew.alloc (Nat.le_refl _) _
theorem run_append_ln_zero (w : World) (ty : TypeId) (A B : Option Addr) (k cap n c : Nat) (hn : n = 0) (hk : k ≤ cap) : (Builtin.append_ #[22, 22] ty #[.slice A k cap, .slice B n c]).run Tryd.prog w = .ok (.slice A k cap) w := by
  subst hn
  obtain ⟨i0, hi, hz0, hz1, hz2⟩ := info_parts ln_info
  have ht := Tryd.underlying22
  have hl : ∀ (x : Addr), (loadCells x 0).run Tryd.prog w = .ok #[] w := fun x => by simpa using run_loadCells_list (P := Tryd.prog) w x [] (by simp)
  cases A <;> cases B <;> simp [Builtin.append_, run_underlying ht, typeInfo, hi, Builtin.lenOf, Builtin.firstCells, hk, storeCells, hl]
end Go.Proofs.YtkejoknphnkhnaaDoor
