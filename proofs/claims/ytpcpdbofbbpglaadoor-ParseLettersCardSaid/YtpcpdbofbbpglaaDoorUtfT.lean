/- The document's own answer of layer 1: a letter's bytes. -/
import Derived.Test.YtpcpdbofbbpglaaDoorUtfI
namespace Go.Proofs.YtpcpdbofbbpglaaDoor
open Go.RowKit

theorem refText_any {r : Int} (hr : letterB r = true) (w : World) :
    Calls Tryd.prog 16 #[.int .i32 r] w fun e w' => e = .returned (.string (Utf8.encode r)) ∧ Below w.heap.size w w' := by
  have h := letter_iff.1 hr
  by_cases c : r < 128
  · exact refText_1 r (by omega) c w
  · exact refText_n r (by omega) (by omega) h w
end Go.Proofs.YtpcpdbofbbpglaaDoor
