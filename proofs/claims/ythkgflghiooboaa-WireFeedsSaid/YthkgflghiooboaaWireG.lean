/- The reference's Same: two rows of frames. -/
import Derived.Test.YthkgflghiooboaaWireF
import Derived.Laws.StructEq
namespace Go.Proofs.Ythkgflghiooboaa
open Go.RowKit

/-- A slice that reads as these frames. -/
def FRow (W : World) (v : Value) (l : List Fr) : Prop :=
  ∃ A c, v = .slice A l.length c ∧ (l ≠ [] → ∃ g, A = some ⟨g, 0, none⟩ ∧ g < W.heap.size ∧ ∀ j u, (flat l)[j]? = some u → W.cell? ⟨g, j, none⟩ = some u)
theorem FRow.of_own {W : World} {base : Nat} {e : TypeId} {v : Value} {l : List Fr} (h : W.ownsRow base e 2 v l.length (flat l)) : FRow W v l := by
  cases l with
  | nil =>
    rcases h.2 with ⟨rfl, _⟩ | ⟨g, cap, cur, rfl, _⟩
    · exact ⟨none, 0, rfl, fun h => absurd rfl h⟩
    · exact ⟨_, _, rfl, fun h => absurd rfl h⟩
  | cons a l =>
    obtain ⟨g, cap, rfl, _, hl, _, hc⟩ := row_form h (by simp)
    exact ⟨_, _, rfl, fun _ => ⟨g, rfl, hl, hc⟩⟩
theorem FRow.below {W W' : World} {v : Value} {l : List Fr} (h : FRow W v l) (hb : Below W.heap.size W W') : FRow W' v l := by
  obtain ⟨A, c, rfl, hl⟩ := h
  refine ⟨A, c, rfl, fun hn => ?_⟩
  obtain ⟨g, hA, hg, hc⟩ := hl hn
  exact ⟨g, hA, Nat.lt_of_lt_of_le hg hb.size, fun j u hu => (hb.cell (p := ⟨g, j, none⟩) hg).trans (hc j u hu)⟩

theorem flat_at : ∀ (l : List Fr) (k : Nat) (h : k < l.length), (flat l)[k * 2]? = some (.int .i64 l[k].tag) ∧ (flat l)[k * 2 + 1]? = some (.string l[k].text)
  | f :: l, 0, _ => ⟨rfl, rfl⟩
  | f :: l, k + 1, h => by
    have := flat_at l k (by simpa using h)
    have e : (k + 1) * 2 = k * 2 + 1 + 1 := by omega
    rw [e]
    simp only [flat, List.getElem?_cons_succ, List.getElem_cons_succ]
    exact this

instance : DecidableEq Fr := fun a b => by
  cases a; cases b
  simp only [Fr.mk.injEq]
  infer_instance

theorem beq_str (s t : ByteArray) : (s.toList == t.toList) = decide (s = t) := by
  rw [ByteArray.toList_eq, ByteArray.toList_eq, Bool.eq_iff_iff]
  simp only [beq_iff_eq, decide_eq_true_eq]
  exact ⟨fun h => ByteArray.ext (Array.toList_inj.1 h), fun h => by rw [h]⟩

theorem run_eqF (a b : Int) (s t : ByteArray) (W : World) :
    (Op.equalIn 10000 23 (.agg #[.int .i64 a, .string s]) (.agg #[.int .i64 b, .string t])).run Try.prog W = .ok (decide (a = b) && decide (s = t)) W := by
  have ht : Try.prog.underlying 23 = some (.struct (Try.prog.fieldsOf 23)) := by unfold Program.fieldsOf; rw [Try.underlying23]
  have hp : Try.prog.stoodInHeld 23 = false := by kernel_rfl
  rw [run_equalIn_struct W 9999 _ _ _ ht hp]
  unfold Program.fieldsOf
  rw [Try.underlying23]
  have u1 := Try.underlying3
  have u2 := Try.underlying9
  have p1 : ∀ W, (part 3 #[.int .i64 a, .string s] 0).run Try.prog W = .ok (.int .i64 a) W := fun W => by kernel_rfl
  have p2 : ∀ W, (part 9 #[.int .i64 a, .string s] 1).run Try.prog W = .ok (.string s) W := fun W => by kernel_rfl
  have p3 : ∀ W, (part 3 #[.int .i64 b, .string t] 0).run Try.prog W = .ok (.int .i64 b) W := fun W => by kernel_rfl
  have p4 : ∀ W, (part 9 #[.int .i64 b, .string t] 1).run Try.prog W = .ok (.string t) W := fun W => by kernel_rfl
  have q1 : ∀ W, (Op.equalIn 9999 3 (.int .i64 a) (.int .i64 b)).run Try.prog W = .ok (a == b) W := fun W => run_equalIn_int W 9998 _ _ _ a b u1
  have q2 : ∀ W, (Op.equalIn 9999 9 (.string s) (.string t)).run Try.prog W = .ok (s.toList == t.toList) W := fun W => run_equalIn_string W 9998 _ s t u2
  simp only [Op.eqFields]
  by_cases h : a = b
  · subst h
    by_cases h : s = t
    · subst h
      simp [Sem.run_bind, p1, p2, q1, q2, Result.andThen_ok, Sem.run_ite]
    · simp [Sem.run_bind, p1, p2, p3, p4, q1, q2, Result.andThen_ok, beq_str, Sem.run_ite, h]
  · simp [Sem.run_bind, p1, p2, p3, p4, q1, q2, Result.andThen_ok, beq_str, Sem.run_ite, h]
theorem run_eqD (a b : Bool) (s t : ByteArray) (W : World) :
    (Op.equalIn 10000 25 (.agg #[.string s, .bool a]) (.agg #[.string t, .bool b])).run Try.prog W = .ok (decide (s = t) && (a == b)) W := by
  have ht : Try.prog.underlying 25 = some (.struct (Try.prog.fieldsOf 25)) := by unfold Program.fieldsOf; rw [Try.underlying25]
  have hp : Try.prog.stoodInHeld 25 = false := by kernel_rfl
  rw [run_equalIn_struct W 9999 _ _ _ ht hp]
  unfold Program.fieldsOf
  rw [Try.underlying25]
  have u1 := Try.underlying4
  have u2 := Try.underlying9
  have p1 : ∀ W, (part 4 #[.string s, .bool a] 1).run Try.prog W = .ok (.bool a) W := fun W => by kernel_rfl
  have p2 : ∀ W, (part 9 #[.string s, .bool a] 0).run Try.prog W = .ok (.string s) W := fun W => by kernel_rfl
  have p3 : ∀ W, (part 4 #[.string t, .bool b] 1).run Try.prog W = .ok (.bool b) W := fun W => by kernel_rfl
  have p4 : ∀ W, (part 9 #[.string t, .bool b] 0).run Try.prog W = .ok (.string t) W := fun W => by kernel_rfl
  have q1 : ∀ W, (Op.equalIn 9999 4 (.bool a) (.bool b)).run Try.prog W = .ok (a == b) W := fun W => run_equalIn_bool' W 9998 _ a b u1
  have q2 : ∀ W, (Op.equalIn 9999 9 (.string s) (.string t)).run Try.prog W = .ok (s.toList == t.toList) W := fun W => run_equalIn_string W 9998 _ s t u2
  simp only [Op.eqFields]
  by_cases h : s = t
  · subst h
    cases a <;> cases b <;> simp [Sem.run_bind, p1, p2, p3, p4, q1, q2, Result.andThen_ok, Sem.run_ite]
  · simp [Sem.run_bind, p1, p2, p3, p4, q1, q2, Result.andThen_ok, beq_str, Sem.run_ite, h]
theorem run_neF (a b : Int) (s t : ByteArray) (W : World) : (binOp .neq 23 (.agg #[.int .i64 a, .string s]) (.agg #[.int .i64 b, .string t])).run Try.prog W = .ok (.bool (!(decide (a = b) && decide (s = t)))) W := by
  rw [run_neq_struct, run_eqF]; rfl
theorem run_neD (a b : Bool) (s t : ByteArray) (W : World) : (binOp .neq 25 (.agg #[.string s, .bool a]) (.agg #[.string t, .bool b])).run Try.prog W = .ok (.bool (!(decide (s = t) && (a == b)))) W := by
  rw [run_neq_struct, run_eqD]; rfl
theorem run_eqlD (a b : Bool) (s t : ByteArray) (W : World) : (binOp .eql 25 (.agg #[.string s, .bool a]) (.agg #[.string t, .bool b])).run Try.prog W = .ok (.bool (decide (s = t) && (a == b))) W := by
  rw [run_eql_struct, run_eqD]; rfl

theorem lists_ne {l1 l2 : List Fr} {k : Nat} {x y : Fr} (h1 : l1[k]? = some x) (h2 : l2[k]? = some y) (hn : ¬ x = y) : decide (l1 = l2) = false := by
  rw [decide_eq_false_iff_not]
  rintro rfl
  rw [h1] at h2
  exact hn (Option.some.inj h2)

set_option maxHeartbeats 1000000 in
theorem same_any (v1 v2 : Value) (l1 l2 : List Fr) (w : World) (h1 : FRow w v1 l1) (h2 : FRow w v2 l2) (n1 : l1.length ≤ 1000000000) (n2 : l2.length ≤ 1000000000) :
    Calls Try.prog 13 #[v1, v2] w fun e w' => e = .returned (.bool (decide (l1 = l2))) ∧ Below w.heap.size w w' := by
  obtain ⟨A1, c1, rfl, hA1⟩ := h1
  obtain ⟨A2, c2, rfl, hA2⟩ := h2
  by_cases hl : l1.length = l2.length
  · obtain ⟨m, hm⟩ : ∃ m, l1.length = m := ⟨_, rfl⟩
    have hm2 := hl.symm.trans hm
    rw [hm, hm2]
    rw [hm] at n1
    clear hl n2
    go_enter Try.func13, Try.ntmps13
    have HM1 := hid hm
    have HM2 := hid hm2
    clear hm hm2
    go_wp2
    go_loopw [13] (fun i wr => ∃ k : Nat, k ≤ m ∧ i = .int .i64 k ∧ (∀ j, j < k → l1[j]? = l2[j]?) ∧ Below w.heap.size w wr) (fun i _ => m - (intOf i).toNat)
    case atStart => exact ⟨0, by omega, rfl, fun j h => absurd h (by omega), Below.refl _ _⟩
    case round =>
      obtain ⟨k, hk, rfl, heq, hb⟩ := hrel
      have HEQ := hid heq
      clear heq
      by_cases hlt : k < m
      · have k1 : k < l1.length := by rw [HM1.out]; exact hlt
        have k2 : k < l2.length := by rw [HM2.out]; exact hlt
        obtain ⟨g1, rfl, hg1, hc1⟩ := hA1 (by intro e; subst e; simp at k1)
        obtain ⟨g2, rfl, hg2, hc2⟩ := hA2 (by intro e; subst e; simp at k2)
        obtain ⟨p1, p2⟩ := flat_at l1 k k1
        obtain ⟨q1, q2⟩ := flat_at l2 k k2
        have p1 := (hb.cell (p := ⟨g1, k * 2, none⟩) hg1).trans (hc1 _ _ p1)
        have p2 := (hb.cell (p := ⟨g1, k * 2 + 1, none⟩) hg1).trans (hc1 _ _ p2)
        have q1 := (hb.cell (p := ⟨g2, k * 2, none⟩) hg2).trans (hc2 _ _ q1)
        have q2 := (hb.cell (p := ⟨g2, k * 2 + 1, none⟩) hg2).trans (hc2 _ _ q2)
        have L1 : Hid (l1[k]? = some l1[k]) := hid (List.getElem?_eq_getElem k1)
        have L2 : Hid (l2[k]? = some l2[k]) := hid (List.getElem?_eq_getElem k2)
        generalize l1[k] = x at *
        generalize l2[k] = y at *
        clear hc1 hc2 hA1 hA2
        have hki : (k : Int) < m := by omega
        have hk0 : (0 : Int) ≤ k := by omega
        obtain ⟨xt, xs⟩ := x
        obtain ⟨yt, ys⟩ := y
        have hne := run_neF xt yt xs ys
        by_cases hxy : xt = yt ∧ xs = ys
        · obtain ⟨rfl, rfl⟩ := hxy
          have hd : (!(decide (xt = xt) && decide (xs = xs))) = false := by simp
          rw [hd] at hne
          clear hd
          go_wp2
          go_quiet (fail)
          go_wp2
          go_roundw
          case rel => exact ⟨k + 1, by omega, by go_num, fun j hj => by
            by_cases e : j = k
            · subst e; rw [L1.out, L2.out]
            · exact HEQ.out j (by omega), hb.trans ((below_drew _ _).mono hb.size)⟩
          case measure => simp [intOf]; omega
        · have hd : (!(decide (xt = yt) && decide (xs = ys))) = true := by
            rw [← Bool.decide_and]; simp [hxy]
          rw [hd] at hne
          have HR := hid (lists_ne L1.out L2.out (fun e => hxy (by injection e with e1 e2; exact ⟨e1, e2⟩)))
          clear hd hxy
          go_wp2
          go_quiet (fail)
          go_wp2
          go_ret
          exact ⟨ret_bool HR.out.symm, hb.trans ((below_drew _ _).mono hb.size)⟩
      · have HR : Hid (decide (l1 = l2) = true) := by
          unfold Hid
          rw [decide_eq_true_eq]
          apply List.ext_getElem?
          intro j
          by_cases hj : j < k
          · exact HEQ.out j hj
          · rw [List.getElem?_eq_none (by rw [HM1.out]; omega), List.getElem?_eq_none (by rw [HM2.out]; omega)]
        clear hA1 hA2
        go_wp2
        go_ret
        exact ⟨ret_bool HR.out.symm, hb⟩
  · have HR : Hid (decide (l1 = l2) = false) := by
      unfold Hid
      rw [decide_eq_false_iff_not]
      rintro rfl
      exact hl rfl
    have hne : ((l1.length : Int) == (l2.length : Int)) = false := by simpa using (by omega : ¬ (l1.length : Int) = l2.length)
    have hne' : ((l1.length : Int) != (l2.length : Int)) = true := by simp; omega
    clear hA1 hA2 hl
    go_enter Try.func13, Try.ntmps13
    go_wp2
    go_ret
    exact ⟨ret_bool HR.out.symm, Below.refl _ _⟩
theorem alive_from {w0 w : World} (hb : Below w0.heap.size w0 w) :
    Calls Try.prog 14 #[] w fun e w' => e = .returned (.bool true) ∧ Below w0.heap.size w0 w' := from_ (R := fun e => e = .returned (.bool true)) (alive_any w) hb

/-- A frame's box. -/
theorem blk2 {W : World} {R : Nat} {t : TypeId} {a b : Value} (h : W.heap[R]? = some (.cells #[a, b] t (0, 0))) :
    (W.cell? ⟨R, 0, none⟩ = some a ∧ W.cell? ⟨R, 1, none⟩ = some b) ∧ (W.frozen? ⟨R, 0, none⟩ = false ∧ W.frozen? ⟨R, 1, none⟩ = false) :=
  ⟨⟨cell_of_row _ _ 0 _ _ _ h, cell_of_row _ _ 1 _ _ _ h⟩, by simp [World.frozen?, h], by simp [World.frozen?, h]⟩

theorem row_of {W : World} {base : Nat} {e : TypeId} {size : Nat} {v : Value} {k : Nat} {xs : List Value} (h : W.ownsRow base e size v k xs) : ∃ A c, v = .slice A k c := by
  rcases h.2 with ⟨rfl, h0⟩ | ⟨g, cap, cur, rfl, _⟩
  · exact ⟨_, _, by rw [h0]⟩
  · exact ⟨_, _, rfl⟩

end Go.Proofs.Ythkgflghiooboaa
