/- Layer 12, the package: Lay; the law PresetFits. -/
import Derived.Test.YtglfolbimafcaaaPresetKQ
import Derived.Test.YtglfolbimafcaaaPresetGQ
import Derived.Test.YtglfolbimafcaaaTreeYQ
namespace Go.Proofs.Ytglfolbimafcaaa
open Go.RowKit

theorem lay_any (v : Value) (ps : List Int) (how w h : Int) (W : World) (hv : NRow W v ps) (hn : ps.length ≤ 1000) : Calls Try.prog 19 #[v, .int .i64 how, .int .i64 w, .int .i64 h] W (LayR W ps how w h) := by
  by_cases hm : mayP ps w h = true ∧ 1 ≤ how ∧ how ≤ 5
  · have hm0 := hm
    obtain ⟨h1, h2, h3⟩ := hm
    obtain ⟨⟨l1, l8⟩, ⟨w1, w80, g1, g50⟩, _, _⟩ := mayP_iff.1 h1
    obtain ⟨wn, rfl⟩ : ∃ wn : Nat, w = wn := ⟨w.toNat, by omega⟩
    obtain ⟨hn', rfl⟩ : ∃ hn' : Nat, h = hn' := ⟨h.toNat, by omega⟩
    have hR : ∀ (e : Ending) (w' : World), LayP W W.heap.size (layT ps how wn hn') e w' → LayR W ps how wn hn' e w' := fun e w' hp => .inr ⟨hm0, by rw [Int.toNat_natCast, Int.toNat_natCast]; exact hp⟩
    rcases (show how = 1 ∨ how = 2 ∨ how = 3 ∨ how = 4 ∨ how = 5 by omega) with rfl | rfl | rfl | rfl | rfl
    · exact (lay_yes1 v ps wn hn' W hv hn h1 _ fun X hX => row_any wn hn' v ps X (hv.below hX) l1 l8 (by omega) (by omega)).mono hR
    · exact (lay_yes2 v ps wn hn' W hv hn h1 _ fun X hX => pile_any wn hn' v ps X (hv.below hX) l1 l8 (by omega) (by omega)).mono hR
    · exact (lay_yes3 v ps wn hn' W hv hn h1 _ fun X hX => firstLeft_any wn hn' v ps X (hv.below hX) l1 l8 (by omega) (by omega) (by omega) (by omega)).mono hR
    · exact (lay_yes4 v ps wn hn' W hv hn h1 _ fun X hX => firstAbove_any wn hn' v ps X (hv.below hX) l1 l8 (by omega) (by omega) (by omega) (by omega)).mono hR
    · exact (lay_yes5 v ps wn hn' W hv hn h1 _ fun X hX => rows_any wn hn' v ps X (hv.below hX) l1 l8 (by omega) (by omega) (by omega) (by omega)).mono hR
  · exact lay_no v ps how w h W hv hn hm
end Go.Proofs.Ytglfolbimafcaaa
