/- Layer 11: the statements' alive; the law TreeApart. -/
import Derived.Test.YtgdndenjhnbkoaaTreeVQ
import Derived.Deep.DeepCutAuto
namespace Go.Proofs.Ytgdndenjhnbkoaa
open Go.RowKit

def twoT : Tr := .mk 1 0 0 [.mk 0 1 5 [], .mk 0 2 4 []]
theorem two_tr (W : World) (hb : Nat) (h : Box W hb 24 #[.int .i64 0, .int .i64 1, .int .i64 5, .slice none 0 0, .int .i64 0, .int .i64 2, .int .i64 4, .slice none 0 0]) : TrAt W twoT (.slice (some ⟨hb, 0, none⟩) 2 2) := by
  unfold twoT TrAt
  refine ⟨_, _, rfl, Nat.le_refl _, fun _ => ⟨hb, 0, rfl, ?_⟩⟩
  have leaf : ∀ (p s : Int), TrAt W (.mk 0 p s []) (.slice none 0 0) := fun p s => by
    unfold TrAt
    exact ⟨none, 0, rfl, Nat.le_refl _, fun h => absurd rfl h⟩
  unfold TrsAt
  refine ⟨⟨_, h.cell 0, h.cell 1, h.cell 2, h.cell 3, leaf 1 5⟩, ?_⟩
  unfold TrsAt
  refine ⟨⟨_, h.cell 4, h.cell 5, h.cell 6, h.cell 7, leaf 2 4⟩, ?_⟩
  unfold TrsAt
  trivial
theorem two_right : rightB twoT 10 5 = true := by decide +kernel
set_option maxRecDepth 100000 in
set_option maxHeartbeats 4000000 in
theorem alive11_any (W : World) : Calls Try.prog 6 #[] W fun e w' => e = .returned (.bool true) ∧ Below W.heap.size W w' := by
  have HS := hid (split_ten W)
  go_enter Try.func6, Try.ntmps6
  go_upto_region 2 with ((with_reducible refine HS.out.mono ?_); rintro e w1 ⟨hb, rfl, hbx, hb1⟩)
  have hba := below_alloc w1 (.cells #[.int .i64 1, .int .i64 0, .int .i64 0, .slice (some ⟨hb, 0, none⟩) 2 2] 24)
  have hb2 := hb1.trans (hba.mono hb1.size)
  have hbx2 := hbx.below hba hbx.lt
  have k2 := hbx2.cell 2
  have k6 := hbx2.cell 6
  have hR := hid (show Calls Try.prog 8 #[.agg #[.int .i64 1, .int .i64 0, .int .i64 0, .slice (some ⟨hb, 0, none⟩) 2 2], .int .i64 10, .int .i64 5] _ _ from right_any twoT _ 10 5 _ (two_tr _ hb hbx2) (by decide))
  rw [two_right] at hR
  have hne : ¬ hb = w1.heap.size := by have := hbx.lt; omega
  have HB2 := hid hb2
  clear hbx hba hb2 hb1 hbx2 HS
  go_wp2_with ((with_reducible refine hR.out.mono ?_); rintro e w3 ⟨rfl, hb3⟩)
  go_ret
  exact ⟨rfl, HB2.out.trans (hb3.mono HB2.out.size)⟩
end Go.Proofs.Ytgdndenjhnbkoaa
