/- Layer 4: looks compared; the known look. -/
import Derived.Test.YtlcahkbbefcjnaaDoorCellV
import Derived.Test.YtlcahkbbefcjnaaDoorInts
namespace Go.Proofs.YtlcahkbbefcjnaaDoor
open Go.RowKit

theorem run_eqA (a b c d e f : Int) (W : World) :
    (Op.equalIn 10000 30 (.agg #[.int .i64 a, .int .i64 b, .int .i64 c]) (.agg #[.int .i64 d, .int .i64 e, .int .i64 f])).run Tryd.prog W = .ok (decide (a = d ∧ b = e ∧ c = f)) W := by
  have ht : Tryd.prog.underlying 30 = some (.struct (Tryd.prog.fieldsOf 30)) := by unfold Program.fieldsOf; rw [Tryd.underlying30]
  have hp : Tryd.prog.stoodInHeld 30 = false := by kernel_rfl
  rw [run_equalIn_struct W 9999 _ _ _ ht hp]
  unfold Program.fieldsOf
  rw [Tryd.underlying30]
  have u1 := Tryd.underlying3
  have p1 : ∀ W, (part 3 #[.int .i64 a, .int .i64 b, .int .i64 c] 0).run Tryd.prog W = .ok (.int .i64 a) W := fun W => by kernel_rfl
  have p2 : ∀ W, (part 3 #[.int .i64 a, .int .i64 b, .int .i64 c] 1).run Tryd.prog W = .ok (.int .i64 b) W := fun W => by kernel_rfl
  have p3 : ∀ W, (part 3 #[.int .i64 a, .int .i64 b, .int .i64 c] 2).run Tryd.prog W = .ok (.int .i64 c) W := fun W => by kernel_rfl
  have p4 : ∀ W, (part 3 #[.int .i64 d, .int .i64 e, .int .i64 f] 0).run Tryd.prog W = .ok (.int .i64 d) W := fun W => by kernel_rfl
  have p5 : ∀ W, (part 3 #[.int .i64 d, .int .i64 e, .int .i64 f] 1).run Tryd.prog W = .ok (.int .i64 e) W := fun W => by kernel_rfl
  have p6 : ∀ W, (part 3 #[.int .i64 d, .int .i64 e, .int .i64 f] 2).run Tryd.prog W = .ok (.int .i64 f) W := fun W => by kernel_rfl
  have q : ∀ x y W, (Op.equalIn 9999 3 (.int .i64 x) (.int .i64 y)).run Tryd.prog W = .ok (x == y) W := fun x y W => run_equalIn_int W 9998 _ _ _ x y u1
  simp only [Op.eqFields]
  by_cases h1 : a = d
  · subst h1
    by_cases h2 : b = e
    · subst h2
      by_cases h3 : c = f
      · subst h3
        simp [Sem.run_bind, p1, p2, p3, q, Result.andThen_ok, Sem.run_ite]
      · simp [Sem.run_bind, p1, p2, p3, p4, p5, p6, q, Result.andThen_ok, Sem.run_ite, h3]
    · simp [Sem.run_bind, p1, p2, p3, p4, p5, p6, q, Result.andThen_ok, Sem.run_ite, h2]
  · simp [Sem.run_bind, p1, p2, p3, p4, p5, p6, q, Result.andThen_ok, Sem.run_ite, h1]
theorem run_eqlA (a b c d e f : Int) (W : World) : (binOp .eql 30 (.agg #[.int .i64 a, .int .i64 b, .int .i64 c]) (.agg #[.int .i64 d, .int .i64 e, .int .i64 f])).run Tryd.prog W = .ok (.bool (decide (a = d ∧ b = e ∧ c = f))) W := by
  rw [run_eql_struct, run_eqA]; rfl

theorem IRow.lit (W : World) (l : List Int) (g : Nat) (hg : Box W g 3 (ints l).toArray) : IRow W (.slice (some ⟨g, 0, none⟩) l.length l.length) l :=
  ⟨_, _, rfl, fun _ => ⟨_, rfl, hg.lt, fun j x hx => lit_at hg j _ (by unfold ints; rw [List.getElem?_map, hx]; rfl)⟩⟩

theorem change_alive : changeG ⟨0, 0, 1⟩ [22, 31] = ⟨2, 0, 0⟩ := by
  unfold changeG
  rw [if_neg (by simp)]
  have e1 : chgG ⟨0, 0, 1⟩ [22, 31] = chgG (oneG ⟨0, 0, 1⟩ 22) [31] := chgG_one (l := [22, 31]) (k := 0) rfl (by omega) (by omega)
  have e2 : chgG (oneG ⟨0, 0, 1⟩ 22) [31] = chgG (oneG (oneG ⟨0, 0, 1⟩ 22) 31) [] := chgG_one (l := [31]) (k := 0) rfl (by omega) (by omega)
  have e3 : ∀ a, chgG a [] = a := fun a => by unfold chgG; rfl
  rw [e1, e2, e3]
  rfl

set_option maxRecDepth 100000 in
set_option maxHeartbeats 1000000 in
theorem alive4_any (w : World) :
    Calls Tryd.prog 16 #[] w fun e w' => e = .returned (.bool true) ∧ Below w.heap.size w w' := by
  have hbx := Box.new w 3 #[.int .i64 22, .int .i64 31]
  have hr := IRow.lit (w.alloc (.cells #[.int .i64 22, .int .i64 31] 3)) [22, 31] w.heap.size hbx
  have hch := change_yes ⟨0, 0, 1⟩ (some ⟨w.heap.size, 0, none⟩) 2 2 [22, 31] (w.alloc (.cells #[.int .i64 22, .int .i64 31] 3)) rfl hr (Nat.le_refl _) (by decide) (by decide)
  rw [change_alive] at hch
  unfold TwoPost At.agg at hch
  have hlook := pLook_any ⟨2, 0, 0⟩
  have hl2 : lookB ⟨2, 0, 0⟩ = true := by rfl
  rw [hl2] at hlook
  unfold At.agg at hlook
  have heq := run_eqlA 2 0 0 2 0 0
  rw [decide_eq_true (by decide)] at heq
  clear hl2 hr hbx
  go_enter Tryd.func16, Tryd.ntmps16
  go_wp2_with (first | (go_at_call 28; refine hch.mono ?_; rintro e w2 ⟨rfl, hb⟩) | (go_at_call 24; refine (hlook _).mono ?_; rintro e w3 ⟨rfl, hb3⟩))
  go_ret
  have h2 := Below.behind hb
  have hz := h2.size
  refine ⟨rfl, Below.trans ?_ (hb3.mono (by simp; omega))⟩
  repeat (first | exact h2.alloc hz _ | refine Below.setCell ?_ (by simp; omega) _)
end Go.Proofs.YtlcahkbbefcjnaaDoor
