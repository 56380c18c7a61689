/- Layer 3: rows of texts compared, appended; the known key. -/
import Derived.Test.YtlcahkbbefcjnaaDoorKeysE
import Derived.Laws.AppendOwnNone
import Derived.BigQuiet
namespace Go.Proofs.YtlcahkbbefcjnaaDoor
open Go.RowKit

/-- A slice that reads as these texts. -/
def SRow (W : World) (v : Value) (l : List ByteArray) : Prop := ∃ A c, v = .slice A l.length c ∧ (l ≠ [] → ∃ g, A = some ⟨g, 0, none⟩ ∧ g < W.heap.size ∧ ∀ j x, l[j]? = some x → W.cell? ⟨g, j, none⟩ = some (.string x))
theorem OwnS.srow {W : World} {base : Nat} {v : Value} {l : List ByteArray} (h : OwnS W base v l) : SRow W v l := h.any

/-- One row of texts of one's own appended to another. -/
theorem wpList_append_two {ops : Array Oper} {rest : List Oper} {o : Oper} {a : Act} {w : World} {Q : Exit → Act → World → Prop} (hgd : o.guard = none) (s x : Operand)
    (ho : o.op = .call { callee := .builtin .append, args := #[s, x], argTypes := #[23, 23] }) (base base2 : Nat) (v u : Value) (L M : List ByteArray) (hs : a.eval s = v) (hown : OwnS w base v L)
    (hx : a.eval x = u) (hown2 : OwnS w base2 u M) (hb : L.length + M.length ≤ 1000000) (hbase : base ≤ w.heap.size)
    (h : ∀ v' w', OwnS w' base v' (L ++ M) → w.grownBy w' v.ownBlock → wpList Tryd.prog ops Q rest (a.put o.dst v') w') : wpList Tryd.prog ops Q (o :: rest) a w := by
  by_cases hM : M = []
  · subst hM
    have h2 : w.ownsRow base2 9 1 u 0 [] := hown2
    rcases h2.2 with ⟨rfl, _⟩ | ⟨g, cap, cur, rfl, _⟩
    · obtain ⟨i0, hi, _, _, _⟩ := info_parts str_info
      refine wpList_append_own_none hgd s x 23 ho base 9 i0 1 Tryd.underlying23 hi v L.length (strs L) hs hown hx ?_
      exact h v w (by rw [List.append_nil]; exact hown) (World.grownBy.refl w _)
    · exact wpList_append_strs hgd s x ho base v L hs hown [] ⟨g, 0, none⟩ 0 cap hx rfl (fun j u hu => by simp [strs] at hu) (by simp at hb ⊢; omega) hbase h
  · obtain ⟨g, c, rfl, _, hc⟩ := hown2.row hM
    refine wpList_append_strs hgd s x ho base v L hs hown M ⟨g, 0, none⟩ M.length c hx rfl (fun j u hu => ?_) hb hbase h
    unfold strs at hu
    rw [List.getElem?_map] at hu
    cases hq : M[j]? with
    | none => rw [hq] at hu; cases hu
    | some y =>
      rw [hq] at hu
      have hadd : (⟨g, 0, none⟩ : Addr).add j = ⟨g, j, none⟩ := by unfold Addr.add; split <;> simp_all
      rw [hadd, hc j y hq]
      exact hu

set_option maxHeartbeats 1000000 in
theorem ssame_eq (v1 v2 : Value) (l : List ByteArray) (w : World) (h1 : SRow w v1 l) (h2 : SRow w v2 l) (n1 : l.length ≤ 1000000) :
    Calls Tryd.prog 7 #[v1, v2] w fun e w' => e = .returned (.bool true) ∧ Below w.heap.size w w' := by
  obtain ⟨A1, c1, rfl, hA1⟩ := h1
  obtain ⟨A2, c2, rfl, hA2⟩ := h2
  obtain ⟨m, hm⟩ : ∃ m, l.length = m := ⟨_, rfl⟩
  rw [hm] at n1 ⊢
  have HM := hid hm
  clear hm
  go_enter Tryd.func7, Tryd.ntmps7
  go_wp2
  go_loopw [13] (fun i wr => ∃ k : Nat, k ≤ m ∧ i = .int .i64 k ∧ Below w.heap.size w wr) (fun i _ => m - (intOf i).toNat)
  case atStart => exact ⟨0, by omega, rfl, Below.refl _ _⟩
  case round =>
    obtain ⟨k, hk, rfl, hb⟩ := hrel
    by_cases hlt : k < m
    · have k1 : k < l.length := by rw [HM.out]; exact hlt
      obtain ⟨g1, rfl, hg1, hc1⟩ := hA1 (by intro e; subst e; simp at k1)
      obtain ⟨g2, rfl, hg2, hc2⟩ := hA2 (by intro e; subst e; simp at k1)
      have hx := List.getElem?_eq_getElem k1
      generalize l[k] = x at *
      have p1 := (hb.cell (p := ⟨g1, k, none⟩) hg1).trans (hc1 _ _ hx)
      have q1 := (hb.cell (p := ⟨g2, k, none⟩) hg2).trans (hc2 _ _ hx)
      have hki : (k : Int) < m := by omega
      clear hc1 hc2 hA1 hA2 hx k1
      go_wp2
      go_quiet (fail)
      go_wp2
      go_roundw
      case rel => exact ⟨k + 1, by omega, by go_num, hb.trans ((below_drew _ _).mono hb.size)⟩
      case measure => simp [intOf]; omega
    · have hkm : k = m := by omega
      subst hkm
      clear hA1 hA2
      go_wp2
      go_ret
      exact ⟨rfl, hb⟩

theorem alive_dec : decG ⟨#[27, 91, 65, 120]⟩ false = ([⟨#[85, 112]⟩, ⟨#[120]⟩], ⟨#[]⟩) := by decide +kernel

set_option maxRecDepth 100000 in
set_option maxHeartbeats 1000000 in
theorem alive3_any (w : World) (hT : Tab w) (hW : TabW w) :
    Calls Tryd.prog 8 #[] w fun e w' => e = .returned (.bool true) ∧ Below w.heap.size w w' := by
  have h := decode_any ⟨#[27, 91, 65, 120]⟩ false w (by decide) hT hW
  rw [alive_dec] at h
  go_enter Tryd.func8, Tryd.ntmps8
  go_upto_region 2 with (go_at_call 6; refine h.mono ?_; rintro e w2 ⟨⟨v, rfl, hown⟩, hb⟩; obtain ⟨g, c, rfl, hg, hc⟩ := hown.row (by simp))
  have c0 := hc 0 _ rfl
  have c1 := hc 1 _ rfl
  clear hc hown h
  go_wp2
  go_ret
  exact ⟨rfl, hb⟩
end Go.Proofs.YtlcahkbbefcjnaaDoor
