/- A row of cells, lines, a number, as arguments: a law of three; opened. -/
import Derived.Test.YtkejoknphnkhnaaDoorGridOpenLQ
import Derived.Test.YtkejoknphnkhnaaDoorFlowFdQ
namespace Go.Proofs.YtkejoknphnkhnaaDoor
open Go.ChangeShapes Go.WideShapes Go.ChangeAt Go.RowKit Go.Joins Go.Deep Go.WideMaps Go.WideElems

set_option maxRecDepth 100000 in
theorem open_crow {H : Type} {enc : TypeId × Value → H} {W : World} {r : Reach} {b0 base : Nat} {sp : Nat → Bool} {held : Bool} {v : Value} {d : DataW H} {p : List MemPlace} (hv : Value.okWide Tryd.prog W r b0 52 v) (h : DataW.Trod enc Tryd.prog W base sp held 52 v d p) :
    ∃ l, CeRow W v l ∧ l.length ≤ maxLen ∧ ∀ c ∈ l, c.tx.size ≤ maxLen := by
  obtain ⟨B, m, cp, rfl⟩ := okWide_slice Tryd.underlying52 hv
  obtain ⟨fuel, hf⟩ := h
  have hf' : DataW.trod enc Tryd.prog W base sp held fuel 52 [.slice B m cp] = some (d, p) := hf
  exact open_cells hf'
theorem folds_any (cols : Int) (vc v : Value) (cr : List Ce) (lv : List (Ln × Value)) (W : World) (hcr : CeRow W vc cr) (hcn : (cr.length : Int) ≤ 9223372036854775807) (hct : ∀ c ∈ cr, (c.tx.size : Int) ≤ 9223372036854775807) (hr : LR W v lv) (hc : CesOf W lv) (hn : (lv.length : Int) ≤ 9223372036854775807)
    (hl : ∀ e ∈ lv, (e.1.cs.length : Int) ≤ 9223372036854775807 ∧ ∀ c ∈ e.1.cs, (c.tx.size : Int) ≤ 9223372036854775807) (hT : Tab W) (hW : TabW W) :
    Calls Tryd.prog 5 #[vc, v, .int .i64 cols] W fun e w' => e = .returned (.bool true) ∧ Below W.heap.size W w' := by
  cases h : colsB cols
  · exact folds_no vc v cr lv W cols h hcr hcn hct hr hc hn hl hT hW
  · obtain ⟨C, rfl, h1, h2⟩ := colsB_nat h
    exact folds_yes vc v cr lv W C h1 h2 hcr hcn hct hr hc hn hl hT hW
end Go.Proofs.YtkejoknphnkhnaaDoor
