/- Layer 6, the package: a half that lacks its other one. -/
import Derived.Test.YtokefclleoaagaaDoorGridR
namespace Go.Proofs.YtokefclleoaagaaDoor
open Go.RowKit

set_option maxRecDepth 100000 in
set_option maxHeartbeats 1000000 in
theorem cut_any (v : Value) (l : List Ce) (i : Nat) (w : World) (h : CeRow w v l) (hi : i < l.length) (hn : l.length ≤ 1000000) :
    Calls Tryd.prog 62 #[v, .int .i64 i] w fun e w' => e = .returned (.bool (halfB l i)) ∧ w = w' := by
  obtain ⟨A, c, rfl, _, hA⟩ := h
  obtain ⟨g, o, rfl, hg, hc⟩ := hA (by intro e; subst e; simp at hi)
  have hx := List.getElem?_eq_getElem hi
  have hH : halfB l i = (match l[i]? with
    | none => false
    | some c => if c.wd = 2 then (match l[i + 1]? with | none => true | some d => decide (d.wd ≠ 0)) else if c.wd = 0 then (if i = 0 then true else match l[i - 1]? with | none => false | some d => decide (d.wd ≠ 2)) else false) := rfl
  rw [hx] at hH
  simp only at hH
  generalize l[i] = x at *
  have c1 : w.cell? ⟨g, o + i * 5 + 1, none⟩ = some (.int .i64 x.wd) := hc i x hx 1 _ rfl
  have hii : (i : Int) < l.length := by omega
  by_cases h2 : x.wd = 2
  · rw [if_pos h2] at hH
    rw [h2] at c1
    by_cases hl : i + 1 = l.length
    · rw [List.getElem?_eq_none (by omega)] at hH
      simp only at hH
      have HH := hid hH
      have hle : ((i : Int) + 1 == (l.length : Int)) = true := by rw [beq_iff_eq]; omega
      generalize l.length = m at *
      clear hH hA hc hx h2 hl
      go_enter Tryd.func62, Tryd.ntmps62
      go_wp2
      go_ret
      exact ⟨ret_bool (by rw [HH.out]), rfl⟩
    · have hi1 : i + 1 < l.length := by omega
      have hy := List.getElem?_eq_getElem hi1
      rw [hy] at hH
      simp only at hH
      generalize l[i + 1] = y at *
      have d1 : w.cell? ⟨g, o + (i + 1) * 5 + 1, none⟩ = some (.int .i64 y.wd) := hc (i + 1) y hy 1 _ rfl
      have hle : ((i : Int) + 1 == (l.length : Int)) = false := by rw [beq_eq_false_iff_ne]; omega
      have hii1 : (i : Int) + 1 < l.length := by omega
      generalize y.wd = yw at *
      generalize l.length = m at *
      clear hA hc hx hy h2 hl
      by_cases h0 : yw = 0
      · subst h0
        have HH := hid hH
        clear hH
        go_enter Tryd.func62, Tryd.ntmps62
        go_wp2
        go_ret
        exact ⟨ret_bool (by rw [HH.out]; simp), rfl⟩
      · have HH := hid (hH.trans (decide_eq_true h0))
        have q : (yw != 0) = true := by simp [h0]
        clear hH h0
        go_enter Tryd.func62, Tryd.ntmps62
        go_wp2
        go_ret
        exact ⟨ret_bool (by rw [HH.out]), rfl⟩
  · rw [if_neg h2] at hH
    have q2 : (x.wd == 2) = false := by simp [h2]
    by_cases h0 : x.wd = 0
    · rw [if_pos h0] at hH
      rw [h0] at c1
      by_cases hz : i = 0
      · subst hz
        rw [if_pos rfl] at hH
        have HH := hid hH
        generalize l.length = m at *
        clear hH hA hc hx h2 h0 q2
        simp only [Nat.zero_mul, Nat.add_zero] at c1
        go_enter Tryd.func62, Tryd.ntmps62
        go_wp2
        go_ret
        exact ⟨ret_bool (by rw [HH.out]), rfl⟩
      · rw [if_neg hz] at hH
        obtain ⟨k, rfl⟩ : ∃ k, i = k + 1 := ⟨i - 1, by omega⟩
        have hk : k < l.length := by omega
        have hy := List.getElem?_eq_getElem hk
        rw [show k + 1 - 1 = k by omega, hy] at hH
        simp only at hH
        generalize l[k] = y at *
        have d1 : w.cell? ⟨g, o + k * 5 + 1, none⟩ = some (.int .i64 y.wd) := hc k y hy 1 _ rfl
        have hii1 : (k : Int) < l.length := by omega
        have hkz : ((k : Int) + 1 == 0) = false := by rw [beq_eq_false_iff_ne]; omega
        generalize y.wd = yw at *
        generalize l.length = m at *
        clear hA hc hx hy h2 h0 q2 hz
        by_cases h3 : yw = 2
        · subst h3
          have HH := hid hH
          clear hH
          go_enter Tryd.func62, Tryd.ntmps62
          go_wp2
          go_ret
          exact ⟨ret_bool (by rw [HH.out]; simp), rfl⟩
        · have HH := hid (hH.trans (decide_eq_true h3))
          have q : (yw != 2) = true := by simp [h3]
          clear hH h3
          go_enter Tryd.func62, Tryd.ntmps62
          go_wp2
          go_ret
          exact ⟨ret_bool (by rw [HH.out]), rfl⟩
    · rw [if_neg h0] at hH
      have HH := hid hH
      have q0 : (x.wd == 0) = false := by simp [h0]
      generalize x.wd = xw at *
      generalize l.length = m at *
      clear hH hA hc hx h2 h0
      go_enter Tryd.func62, Tryd.ntmps62
      go_wp2
      go_ret
      exact ⟨ret_bool (by rw [HH.out]), rfl⟩
end Go.Proofs.YtokefclleoaagaaDoor
