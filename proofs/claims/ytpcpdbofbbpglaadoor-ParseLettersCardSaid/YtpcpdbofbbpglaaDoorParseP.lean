/- Layer 5, the package: which parsers may be. -/
import Derived.Test.YtpcpdbofbbpglaaDoorParseO
namespace Go.Proofs.YtpcpdbofbbpglaaDoor
open Go.RowKit

def betB (n : Int) : Bool := decide (32 ≤ n ∧ n ≤ 47)
def privB (n : Int) : Bool := decide (n = 0 ∨ (60 ≤ n ∧ n ≤ 63))
def parsB (l : List Int) : Bool := decide ((∀ n ∈ l, 0 ≤ n ∧ n ≤ 9999) ∧ l.length ≤ 16)
def bareB (p : Pa) : Bool := decide (p.priv = 0 ∧ p.params = [] ∧ p.inter = 0 ∧ p.osc.size = 0 ∧ p.pend.size = 0)
set_option maxHeartbeats 400000 in
theorem between_any (n : Int) (w : World) : Calls Tryd.prog 20 #[.int .i64 n] w fun e w' => e = .returned (.bool (betB n)) ∧ w = w' := by
  have hc : n < 32 ∨ (32 ≤ n ∧ n < 48) ∨ 48 ≤ n := by omega
  rcases hc with h | ⟨h1, h2⟩ | h
  all_goals
    go_enter Tryd.func20, Tryd.ntmps20
    go_wp2
    go_ret
    exact ⟨ret_bool (by unfold betB; symm; first | (rw [decide_eq_true_eq]; omega) | (rw [decide_eq_false_iff_not]; omega) | exact decide_eq_decide.2 (by omega)), rfl⟩
set_option maxHeartbeats 400000 in
theorem private_any (n : Int) (w : World) : Calls Tryd.prog 21 #[.int .i64 n] w fun e w' => e = .returned (.bool (privB n)) ∧ w = w' := by
  have hc : n = 0 ∨ (n < 60 ∧ n ≠ 0) ∨ (60 ≤ n ∧ n < 64) ∨ 64 ≤ n := by omega
  rcases hc with rfl | ⟨h1, h2⟩ | ⟨h1, h2⟩ | h
  · go_enter Tryd.func21, Tryd.ntmps21
    go_wp2
    go_ret
    exact ⟨ret_bool (by decide), rfl⟩
  all_goals
    have q : (n == 0) = false := by simp; omega
    go_enter Tryd.func21, Tryd.ntmps21
    go_wp2
    go_ret
    exact ⟨ret_bool (by unfold privB; symm; first | (rw [decide_eq_true_eq]; omega) | (rw [decide_eq_false_iff_not]; omega) | exact decide_eq_decide.2 (by omega)), rfl⟩

theorem pars_no {l : List Int} {k : Nat} {x : Int} (h : l[k]? = some x) (hx : x < 0 ∨ 9999 < x) : parsB l = false := by
  unfold parsB
  rw [decide_eq_false_iff_not]
  rintro ⟨h1, _⟩
  have := h1 x (List.mem_of_getElem? h)
  omega
set_option maxRecDepth 100000 in
set_option maxHeartbeats 1000000 in
theorem pars_any (v : Value) (l : List Int) (w : World) (h1 : IRow w v l) (n1 : l.length ≤ 1000000) :
    Calls Tryd.prog 22 #[v] w fun e w' => e = .returned (.bool (parsB l)) ∧ w = w' := by
  obtain ⟨A1, c1, rfl, hA1⟩ := h1
  obtain ⟨m, hm⟩ : ∃ m, l.length = m := ⟨_, rfl⟩
  rw [hm]
  rw [hm] at n1
  have HM := hid hm
  have HA := hid hA1
  clear hm hA1
  go_enter Tryd.func22, Tryd.ntmps22
  go_wp2
  go_loop [7] (fun i => ∃ k : Nat, k ≤ m ∧ i = .int .i64 k ∧ (∀ j x, j < k → l[j]? = some x → 0 ≤ x ∧ x ≤ 9999)) (fun i => m - (intOf i).toNat)
  case atStart => exact ⟨0, by omega, rfl, fun j x h => absurd h (by omega)⟩
  case round =>
    obtain ⟨k, hk, rfl, hall⟩ := hrel
    have HL := hid hall
    clear hall
    by_cases hlt : k < m
    · have hk1 : k < l.length := by rw [HM.out]; exact hlt
      obtain ⟨ad, rfl, _, hc⟩ := HA.out (by intro e; rw [e] at hk1; simp at hk1)
      have hx := List.getElem?_eq_getElem hk1
      obtain ⟨x, hxx⟩ : ∃ x, l[k] = x := ⟨_, rfl⟩
      rw [hxx] at hx
      have hcell := hc k x hx
      have HX := hid hx
      clear hc hx hxx hk1
      have hki : (k : Int) < m := by omega
      have hcs : x < 0 ∨ 9999 < x ∨ (0 ≤ x ∧ x ≤ 9999) := by omega
      rcases hcs with g | g | ⟨g1, g2⟩
      · have hno := pars_no HX.out (.inl g)
        have HN := hid hno
        clear hno
        go_wp2
        go_ret
        exact ⟨ret_bool (by rw [HN.out]), rfl⟩
      · have hno := pars_no HX.out (.inr g)
        have HN := hid hno
        clear hno
        have g0 : 0 ≤ x := by omega
        go_wp2
        go_ret
        exact ⟨ret_bool (by rw [HN.out]), rfl⟩
      · go_wp2
        go_round
        case rel =>
          refine ⟨k + 1, by omega, by go_num, fun j y hj hy => ?_⟩
          by_cases e : j = k
          · subst e
            rw [HX.out] at hy
            cases hy
            exact ⟨g1, g2⟩
          · exact HL.out j y (by omega) hy
        case measure => simp [intOf]; omega
    · have hkm : k = m := by omega
      subst hkm
      have hall : ∀ n ∈ l, 0 ≤ n ∧ n ≤ 9999 := by
        intro n hn
        obtain ⟨j, hj, e⟩ := List.mem_iff_getElem.1 hn
        exact HL.out j n (by rw [← HM.out]; exact hj) (by rw [List.getElem?_eq_getElem hj, e])
      by_cases h16 : k ≤ 16
      · have HP : Hid (parsB l = true) := by unfold Hid parsB; rw [decide_eq_true_eq]; exact ⟨hall, by rw [HM.out]; exact h16⟩
        clear hall
        have hi16 : (k : Int) ≤ 16 := by omega
        go_wp2
        go_ret
        exact ⟨ret_bool (by rw [HP.out]), rfl⟩
      · have HP : Hid (parsB l = false) := by unfold Hid parsB; rw [decide_eq_false_iff_not]; rintro ⟨_, h⟩; rw [HM.out] at h; exact h16 h
        clear hall
        have hi16 : ¬ (k : Int) ≤ 16 := by omega
        go_wp2
        go_ret
        exact ⟨ret_bool (by rw [HP.out]), rfl⟩

theorem six_cells {W : World} {t : TypeId} {p q r s u v : Value} {b : Nat} (h : Box W b t #[p, q, r, s, u, v]) :
    (W.frozen? ⟨b, 0, none⟩ = false ∧ W.frozen? ⟨b, 1, none⟩ = false ∧ W.frozen? ⟨b, 2, none⟩ = false ∧ W.frozen? ⟨b, 3, none⟩ = false ∧ W.frozen? ⟨b, 4, none⟩ = false ∧ W.frozen? ⟨b, 5, none⟩ = false) :=
  ⟨h.free 0, h.free 1, h.free 2, h.free 3, h.free 4, h.free 5⟩
set_option maxRecDepth 100000 in
set_option maxHeartbeats 2000000 in
theorem bare_any (p : Pa) (A : Option Addr) (c : Nat) (w : World) :
    Calls Tryd.prog 23 #[.agg (p.cells (.slice A p.params.length c))] w fun e w' => e = .returned (.bool (bareB p)) ∧ Below w.heap.size w w' := by
  obtain ⟨p1, p2, p3, p4, p5, p6⟩ := p
  have hb : bareB ⟨p1, p2, p3, p4, p5, p6⟩ = (decide (p2 = 0) && (decide (p3.length = 0) && (decide (p4 = 0) && (decide (p5.size = 0) && decide (p6.size = 0))))) := by
    unfold bareB
    rw [Bool.eq_iff_iff]
    simp
  rw [hb]
  unfold Pa.cells
  simp only
  generalize p3.length = m at *
  clear hb
  by_cases e2 : p2 = 0
  · subst e2
    by_cases e3 : m = 0
    · subst e3
      by_cases e4 : p4 = 0
      · subst e4
        by_cases e5 : p5.size = 0
        · obtain rfl := empty_yes e5
          by_cases e6 : p6.size = 0
          · obtain rfl := empty_yes e6
            go_enter Tryd.func23, Tryd.ntmps23
            go_wp2
            go_ret
            exact ⟨ret_bool (by decide), below_alloc _ _⟩
          · have q := empty_no e6
            have HD : Hid (decide (p6.size = 0) = false) := hid (decide_eq_false e6)
            clear e6
            go_enter Tryd.func23, Tryd.ntmps23
            go_wp2
            go_ret
            exact ⟨ret_bool (by rw [HD.out]; rfl), below_alloc _ _⟩
        · have q := empty_no e5
          have HD : Hid (decide (p5.size = 0) = false) := hid (decide_eq_false e5)
          clear e5
          go_enter Tryd.func23, Tryd.ntmps23
          go_wp2
          go_ret
          exact ⟨ret_bool (by rw [HD.out]; rfl), below_alloc _ _⟩
      · have q : (p4 == 0) = false := by simp; omega
        have HD : Hid (decide (p4 = 0) = false) := hid (decide_eq_false e4)
        clear e4
        go_enter Tryd.func23, Tryd.ntmps23
        go_wp2
        go_ret
        exact ⟨ret_bool (by rw [HD.out]; rfl), below_alloc _ _⟩
    · have q : ((m : Int) == 0) = false := by simp; omega
      have HD : Hid (decide (m = 0) = false) := hid (decide_eq_false e3)
      clear e3
      go_enter Tryd.func23, Tryd.ntmps23
      go_wp2
      go_ret
      exact ⟨ret_bool (by rw [HD.out]; rfl), below_alloc _ _⟩
  · have q : (p2 == 0) = false := by simp; omega
    have HD : Hid (decide (p2 = 0) = false) := hid (decide_eq_false e2)
    clear e2
    go_enter Tryd.func23, Tryd.ntmps23
    go_wp2
    go_ret
    exact ⟨ret_bool (by rw [HD.out]; rfl), below_alloc _ _⟩
end Go.Proofs.YtpcpdbofbbpglaaDoor
