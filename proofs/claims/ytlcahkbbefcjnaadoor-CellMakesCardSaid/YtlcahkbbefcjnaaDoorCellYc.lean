/- The law CellMakes, walked: all its ways. -/
import Derived.Test.YtlcahkbbefcjnaaDoorCellYb1
import Derived.Test.YtlcahkbbefcjnaaDoorCellYb2
import Derived.Test.YtlcahkbbefcjnaaDoorCellYb3
import Derived.Test.YtlcahkbbefcjnaaDoorCellYb4
namespace Go.Proofs.YtlcahkbbefcjnaaDoor
open Go.RowKit

theorem cmakes_any (c : Ce) (r : Int) (a : At) (w : World) (hs : c.tx.size ≤ maxLen) (hT : Tab w) (hW : TabW w) :
    Calls Tryd.prog 4 #[c.agg, .int .i32 r, a.agg] w fun e w' => e = .returned (.bool true) ∧ Below w.heap.size w w' := by
  by_cases h1 : 1 ≤ widthI r ∧ lookB a = true
  · exact cmakes_1 c r a w hs h1.1 h1.2 hT hW
  · have h7 : widthI r < 1 ∨ (1 ≤ widthI r ∧ lookB a = false) := by
      by_cases hv : widthI r < 1
      · exact .inl hv
      · refine .inr ⟨by omega, ?_⟩
        cases hl : lookB a
        · rfl
        · exact absurd ⟨by omega, hl⟩ h1
    by_cases h12 : rightB ⟨c.tx.extract 0 20, c.wd, c.fg, c.bg, c.fl⟩ = false ∨ (c.tx.extract 0 20).size = 0 ∨ widthI r ≠ 0
    · exact cmakes_2 c r a w hs h7 h12 hT hW
    · have hr : rightB ⟨c.tx.extract 0 20, c.wd, c.fg, c.bg, c.fl⟩ = true := by
        cases hb : rightB ⟨c.tx.extract 0 20, c.wd, c.fg, c.bg, c.fl⟩
        · exact absurd (.inl hb) h12
        · rfl
      have h0 : (c.tx.extract 0 20).size ≠ 0 := fun h => h12 (.inr (.inl h))
      have hv : widthI r = 0 := by
        by_cases h : widthI r = 0
        · exact h
        · exact absurd (.inr (.inr h)) h12
      by_cases hp : (partsG (c.tx.extract 0 20)).2 = 2
      · exact cmakes_3 c r a w hs hv hr h0 hp hT hW
      · exact cmakes_4 c r a w hs hv hr h0 hp hT hW
end Go.Proofs.YtlcahkbbefcjnaaDoor
