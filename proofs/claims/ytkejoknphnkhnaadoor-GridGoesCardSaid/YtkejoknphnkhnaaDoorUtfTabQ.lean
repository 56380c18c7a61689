/- What the row's list gives: the variable of the letters' ranges holds what its text lays. -/
import Derived.Test.YtkejoknphnkhnaaDoorLaidQ
import Derived.Test.YtkejoknphnkhnaaDoorCellIQ
namespace Go.Proofs.YtkejoknphnkhnaaDoor
open Go.ChangeShapes Go.WideShapes Go.ChangeAt Go.RowKit

theorem gLet : Tryd.prog.globalNamed "backseat/utf.letters" = some 1 := by kernel_rfl
theorem gLetType : (Tryd.prog.globals[1]?).map (·.type) = some 140 := by kernel_rfl
theorem cellsLet : Tryd.prog.cellsOf 140 = 5 * 3 := by kernel_rfl
theorem cellsRow : Tryd.prog.cellsOf 137 = 3 := by kernel_rfl
theorem cellsI32 : Tryd.prog.cellsOf 21 = 1 := by kernel_rfl

theorem tab_of {rest : List (String × DataW Unit)} {W : World} (h : laidMet Tryd.prog (("backseat/utf.letters", Rows.laid_backseat_utf_letters) :: rest) W) : Tab W := by
  obtain ⟨cs, fuel, p, hd, hblk⟩ := laid_block gLet gLetType h
  obtain ⟨h1, h2, h3⟩ := cells_of_rows (rows := [[0, 127, 1], [128, 2047, 2], [2048, 55295, 3], [57344, 65535, 3], [65536, 1114111, 4]]) Tryd.underlying140 Tryd.underlying137 Tryd.underlying21 cellsI32 cellsRow cellsLet hd
  have hcs := rows_flat (m := 3) ([[0, 127, 1], [128, 2047, 2], [2048, 55295, 3], [57344, 65535, 3], [65536, 1114111, 4]].map (List.map (Value.int .i32))) cs.toList (by rw [h1]; rfl) (fun j hj => by
    rw [h3 j hj]
    have hj5 : j < 5 := hj
    have hk5 : j = 0 ∨ j = 1 ∨ j = 2 ∨ j = 3 ∨ j = 4 := by omega
    rcases hk5 with rfl | rfl | rfl | rfl | rfl <;> rfl)
  obtain ⟨t, hb⟩ := hblk (by have : cs.toList.length = cs.size := by simp
                             omega)
  refine ⟨t, hb.trans ?_⟩
  have : cs = #[.int .i32 0, .int .i32 127, .int .i32 1, .int .i32 128, .int .i32 2047, .int .i32 2, .int .i32 2048, .int .i32 55295, .int .i32 3, .int .i32 57344, .int .i32 65535, .int .i32 3, .int .i32 65536, .int .i32 1114111, .int .i32 4] := by
    apply Array.toList_inj.1
    rw [hcs]; rfl
  rw [this]
end Go.Proofs.YtkejoknphnkhnaaDoor
