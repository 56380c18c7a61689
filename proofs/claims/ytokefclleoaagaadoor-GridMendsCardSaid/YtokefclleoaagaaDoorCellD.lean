/- Layer 4, plain: cells. -/
import Derived.Test.YtokefclleoaagaaDoorCellM
namespace Go.Proofs.YtokefclleoaagaaDoor
open Go.RowKit

structure Ce where
  tx : ByteArray
  wd : Int
  fg : Int
  bg : Int
  fl : Int
def Ce.cells (c : Ce) : Array Value := #[.string c.tx, .int .i64 c.wd, .int .i64 c.fg, .int .i64 c.bg, .int .i64 c.fl]
def Ce.agg (c : Ce) : Value := .agg c.cells
def Ce.at (c : Ce) : At := ⟨c.fg, c.bg, c.fl⟩
def Ce.zero : Ce := ⟨⟨#[]⟩, 0, 0, 0, 0⟩

end Go.Proofs.YtokefclleoaagaaDoor
