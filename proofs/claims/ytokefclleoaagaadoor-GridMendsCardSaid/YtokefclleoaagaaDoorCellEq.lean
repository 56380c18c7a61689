/- Layer 4: cells compared. -/
import Derived.Test.YtokefclleoaagaaDoorBase
namespace Go.Proofs.YtokefclleoaagaaDoor
open Go.RowKit

theorem run_eqA9 (a b c : Int) (W : World) :
    (Op.equalIn 9999 26 (.agg #[.int .i64 a, .int .i64 b, .int .i64 c]) (.agg #[.int .i64 a, .int .i64 b, .int .i64 c])).run Tryd.prog W = .ok true W := by
  have ht : Tryd.prog.underlying 26 = some (.struct (Tryd.prog.fieldsOf 26)) := by unfold Program.fieldsOf; rw [Tryd.underlying26]
  have hp : Tryd.prog.stoodInHeld 26 = false := by kernel_rfl
  rw [run_equalIn_struct W 9998 _ _ _ ht hp]
  unfold Program.fieldsOf
  rw [Tryd.underlying26]
  have u1 := Tryd.underlying3
  have p1 : ∀ W, (part 3 #[.int .i64 a, .int .i64 b, .int .i64 c] 0).run Tryd.prog W = .ok (.int .i64 a) W := fun W => by kernel_rfl
  have p2 : ∀ W, (part 3 #[.int .i64 a, .int .i64 b, .int .i64 c] 1).run Tryd.prog W = .ok (.int .i64 b) W := fun W => by kernel_rfl
  have p3 : ∀ W, (part 3 #[.int .i64 a, .int .i64 b, .int .i64 c] 2).run Tryd.prog W = .ok (.int .i64 c) W := fun W => by kernel_rfl
  have q : ∀ x W, (Op.equalIn 9998 3 (.int .i64 x) (.int .i64 x)).run Tryd.prog W = .ok (x == x) W := fun x W => run_equalIn_int W 9997 _ _ _ x x u1
  simp only [Op.eqFields]
  simp [Sem.run_bind, p1, p2, p3, q, Result.andThen_ok, Sem.run_ite]
theorem run_eqC (t : ByteArray) (v a b c : Int) (W : World) :
    (Op.equalIn 10000 28 (.agg #[.string t, .int .i64 v, .int .i64 a, .int .i64 b, .int .i64 c]) (.agg #[.string t, .int .i64 v, .int .i64 a, .int .i64 b, .int .i64 c])).run Tryd.prog W = .ok true W := by
  have ht : Tryd.prog.underlying 28 = some (.struct (Tryd.prog.fieldsOf 28)) := by unfold Program.fieldsOf; rw [Tryd.underlying28]
  have hp : Tryd.prog.stoodInHeld 28 = false := by kernel_rfl
  rw [run_equalIn_struct W 9999 _ _ _ ht hp]
  unfold Program.fieldsOf
  rw [Tryd.underlying28]
  have u1 := Tryd.underlying3
  have u2 := Tryd.underlying9
  have p1 : ∀ W, (part 9 #[.string t, .int .i64 v, .int .i64 a, .int .i64 b, .int .i64 c] 0).run Tryd.prog W = .ok (.string t) W := fun W => by kernel_rfl
  have p2 : ∀ W, (part 3 #[.string t, .int .i64 v, .int .i64 a, .int .i64 b, .int .i64 c] 1).run Tryd.prog W = .ok (.int .i64 v) W := fun W => by kernel_rfl
  have p3 : ∀ W, (part 26 #[.string t, .int .i64 v, .int .i64 a, .int .i64 b, .int .i64 c] 2).run Tryd.prog W = .ok (.agg #[.int .i64 a, .int .i64 b, .int .i64 c]) W := fun W => by kernel_rfl
  have q1 : ∀ W, (Op.equalIn 9999 9 (.string t) (.string t)).run Tryd.prog W = .ok (t.toList == t.toList) W := fun W => run_equalIn_string W 9998 _ t t u2
  have q2 : ∀ x W, (Op.equalIn 9999 3 (.int .i64 x) (.int .i64 x)).run Tryd.prog W = .ok (x == x) W := fun x W => run_equalIn_int W 9998 _ _ _ x x u1
  have q3 := run_eqA9 a b c
  simp only [Op.eqFields]
  simp [Sem.run_bind, p1, p2, p3, q1, q2, q3, Result.andThen_ok, Sem.run_ite]
theorem run_eqlC (t : ByteArray) (v a b c : Int) (W : World) : (binOp .eql 28 (.agg #[.string t, .int .i64 v, .int .i64 a, .int .i64 b, .int .i64 c]) (.agg #[.string t, .int .i64 v, .int .i64 a, .int .i64 b, .int .i64 c])).run Tryd.prog W = .ok (.bool true) W := by
  rw [run_eql_struct, run_eqC]; rfl
theorem run_neqC (t : ByteArray) (v a b c : Int) (W : World) : (binOp .neq 28 (.agg #[.string t, .int .i64 v, .int .i64 a, .int .i64 b, .int .i64 c]) (.agg #[.string t, .int .i64 v, .int .i64 a, .int .i64 b, .int .i64 c])).run Tryd.prog W = .ok (.bool false) W := by
  rw [run_neq_struct, run_eqC]; rfl

end Go.Proofs.YtokefclleoaagaaDoor
