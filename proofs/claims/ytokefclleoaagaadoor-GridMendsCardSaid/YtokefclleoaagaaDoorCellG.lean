/- Layer 4, the package: a letter's cell, a cell with a mark more, a blank one. -/
import Derived.Test.YtokefclleoaagaaDoorCellN
namespace Go.Proofs.YtokefclleoaagaaDoor
open Go.RowKit

def CePost (c : Ce) (n : Int) (e : Ending) : Prop := e = .returned (.tuple #[c.agg, .int .i64 n])

set_option maxRecDepth 100000 in
set_option maxHeartbeats 1000000 in
theorem blank_any (a : At) (w : World) :
    Calls Tryd.prog 65 #[a.agg] w fun e w' => e = .returned (Ce.agg ⟨⟨#[]⟩, 1, 0, a.bg, 0⟩) ∧ Below w.heap.size w w' := by
  obtain ⟨fg, bg, fl⟩ := a
  unfold At.agg
  go_enter Tryd.func65, Tryd.ntmps65
  go_wp2
  refine bodyPost_ret (v := Ce.agg ⟨⟨#[]⟩, 1, 0, bg, 0⟩) (by simp [results, Tryd.results65, go_sem, Ce.agg, Ce.cells]) rfl ⟨rfl, ?_⟩
  exact (below_alloc _ _).alloc (by simp) _
end Go.Proofs.YtokefclleoaagaaDoor
