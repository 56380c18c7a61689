/-
  NARROWER THAN 'FOR EVERY INPUT', by the rows' own cells (each row's printed sentence says how): FindLooks: laid · FindTakes: laid · FindBack: laid.
  DERIVED. THE GIVEN ROWS OF THIS SEAT. 3 by the template 'for every input the law returns true; each argument reads behind the call as it read before'; 0 by the template 'total and deterministic' (their statements: YteebbmmgbjpihaaDoorTotals.lean).
  GIVEN WITH THE SEED: the statements are not yours to turn. If you find one false, say at which input.
  Laid BY PROGRAM, IN A SANDBOX (cutbox-rows.mjs): the forced cells as the released guide's own fill.sh prints them over the translation fd63c916e8c1ed33… (all of the seat's roots in one cut). By AI agents, Wed Nov 11 2026. No macro, syntax, notation, axiom, sorry.
-/
import Derived.Test.YteebbmmgbjpihaaDoorChecked
import GoSem.PinnedTables
import GoSem.Claim
import GoSem.ClaimJoined
import GoSem.ClaimMapViews
import Derived.JoinedTies
import Derived.KernelRfl
namespace Go.Proofs.YteebbmmgbjpihaaDoor
/- THE CELL 'sum', in the pinned program and in every row, IS THE sha256 OF THE DUMP (.gsa) THAT YteebbmmgbjpihaaDoorProg.lean LOADS. Nothing in Lean hashes anything: it is a label: what it is worth is what the hold of that sum in a sandbox is worth. -/
noncomputable def Tryd.pinned : Pinned := { name := "yteebbmmgbjpihaadoor", sum := "fd63c916e8c1ed331e815c81576e701bd40de3c35a61ea4ab208913449b6887f", checked := Tryd.checked }
namespace Rows
def none {H : Type} : Left H := { results := [], args := [] }

/- WHAT THE LISTED PACKAGE-LEVEL VARIABLES READ AS WHEN THE CALL BEGINS. Each datum BY PROGRAM (the guide's laid-datum.mjs) off the statement by which the dump's own 'gosem.cut.vars' lays the variable. In a bare row this is a premise. The card (YteebbmmgbjpihaaDoorCards.lean) ties it to the program's text. -/
def laid_backseat_utf_letters {H : Type} : DataW H := .agg [.agg [.lit (.int .i32 0), .lit (.int .i32 127), .lit (.int .i32 1)], .agg [.lit (.int .i32 128), .lit (.int .i32 2047), .lit (.int .i32 2)], .agg [.lit (.int .i32 2048), .lit (.int .i32 55295), .lit (.int .i32 3)], .agg [.lit (.int .i32 57344), .lit (.int .i32 65535), .lit (.int .i32 3)], .agg [.lit (.int .i32 65536), .lit (.int .i32 1114111), .lit (.int .i32 4)]]
def laid_backseat_utf_widths {H : Type} : DataW H := .agg [.agg [.lit (.int .i32 0), .lit (.int .i32 31), .lit (.int .i32 (-1))], .agg [.lit (.int .i32 127), .lit (.int .i32 159), .lit (.int .i32 (-1))], .agg [.lit (.int .i32 768), .lit (.int .i32 879), .lit (.int .i32 0)], .agg [.lit (.int .i32 8203), .lit (.int .i32 8205), .lit (.int .i32 0)], .agg [.lit (.int .i32 65024), .lit (.int .i32 65039), .lit (.int .i32 0)], .agg [.lit (.int .i32 4352), .lit (.int .i32 4447), .lit (.int .i32 2)], .agg [.lit (.int .i32 12353), .lit (.int .i32 19903), .lit (.int .i32 2)], .agg [.lit (.int .i32 19968), .lit (.int .i32 40959), .lit (.int .i32 2)], .agg [.lit (.int .i32 44032), .lit (.int .i32 55203), .lit (.int .i32 2)], .agg [.lit (.int .i32 63744), .lit (.int .i32 64255), .lit (.int .i32 2)], .agg [.lit (.int .i32 65281), .lit (.int .i32 65376), .lit (.int .i32 2)], .agg [.lit (.int .i32 127744), .lit (.int .i32 129791), .lit (.int .i32 2)], .agg [.lit (.int .i32 131072), .lit (.int .i32 262141), .lit (.int .i32 2)]]
def laid_unicode_utf8_acceptRanges {H : Type} : DataW H := .agg [.agg [.lit (.int .u8 128), .lit (.int .u8 191)], .agg [.lit (.int .u8 160), .lit (.int .u8 191)], .agg [.lit (.int .u8 128), .lit (.int .u8 159)], .agg [.lit (.int .u8 144), .lit (.int .u8 191)], .agg [.lit (.int .u8 128), .lit (.int .u8 143)], .agg [.lit (.int .u8 0), .lit (.int .u8 0)], .agg [.lit (.int .u8 0), .lit (.int .u8 0)], .agg [.lit (.int .u8 0), .lit (.int .u8 0)], .agg [.lit (.int .u8 0), .lit (.int .u8 0)], .agg [.lit (.int .u8 0), .lit (.int .u8 0)], .agg [.lit (.int .u8 0), .lit (.int .u8 0)], .agg [.lit (.int .u8 0), .lit (.int .u8 0)], .agg [.lit (.int .u8 0), .lit (.int .u8 0)], .agg [.lit (.int .u8 0), .lit (.int .u8 0)], .agg [.lit (.int .u8 0), .lit (.int .u8 0)], .agg [.lit (.int .u8 0), .lit (.int .u8 0)]]
/-- One of Go's own tables, pinned by name: the form's constant. -/
def laid_unicode_utf8_first : DataW Unit := Go.Pinned.utf8First

/-- 'backseatlaw10.FindLooks': WHATEVER THE INPUT: true; the input reads as it did. -/
def findLooksSpec : ChangeSpec := { name := "findLooks", fn := fun _ => fun
  | [d1, d2, d3, d4, d5] => { results := [.lit (.bool true)], args := [d1, d2, d3, d4, d5] }
  | _ => none }
def findLooksRow : OpenClaim := { program := "yteebbmmgbjpihaadoor", sum := "fd63c916e8c1ed331e815c81576e701bd40de3c35a61ea4ab208913449b6887f", func := "backseat/backseatlaw10.FindLooks", spec := "findLooks", unfollowed := true, recurses := true, named := ["backseat/utf.letters", "backseat/utf.widths"], apart := false, laid := [("backseat/utf.letters", laid_backseat_utf_letters), ("backseat/utf.widths", laid_backseat_utf_widths)] }
def FindLooksSaid : Prop := findLooksRow.holds Tryd.pinned (OpenSpec.ofChange findLooksSpec)

/-- ITS FALSE NEIGHBOUR: 'it returns false'. Refute it at one input. -/
def findLooksWrong : ChangeSpec := { name := "findLooks", fn := fun _ => fun
  | [d1, d2, d3, d4, d5] => { results := [.lit (.bool false)], args := [d1, d2, d3, d4, d5] }
  | _ => none }
def FindLooksWrongFalsely : Prop := findLooksRow.holds Tryd.pinned (OpenSpec.ofChange findLooksWrong)

/-- 'backseatlaw10.FindTakes': WHATEVER THE INPUT: true; the input reads as it did. -/
def findTakesSpec : ChangeSpec := { name := "findTakes", fn := fun _ => fun
  | [d1, d2, d3, d4, d5, d6] => { results := [.lit (.bool true)], args := [d1, d2, d3, d4, d5, d6] }
  | _ => none }
def findTakesRow : OpenClaim := { program := "yteebbmmgbjpihaadoor", sum := "fd63c916e8c1ed331e815c81576e701bd40de3c35a61ea4ab208913449b6887f", func := "backseat/backseatlaw10.FindTakes", spec := "findTakes", inPlace := ["internal/abi.NoEscape", "internal/bytealg.IndexByteString", "internal/bytealg.IndexString", "internal/bytealg.MakeNoZero"], unfollowed := true, recurses := true, named := ["backseat/utf.letters", "backseat/utf.widths", "unicode/utf8.first", "unicode/utf8.acceptRanges", "internal/bytealg.MaxLen"], apart := false, laid := [("backseat/utf.letters", laid_backseat_utf_letters), ("backseat/utf.widths", laid_backseat_utf_widths), ("unicode/utf8.acceptRanges", laid_unicode_utf8_acceptRanges), ("unicode/utf8.first", laid_unicode_utf8_first)] }
def FindTakesSaid : Prop := findTakesRow.holds Tryd.pinned (OpenSpec.ofChange findTakesSpec)

/-- ITS FALSE NEIGHBOUR: 'it returns false'. Refute it at one input. -/
def findTakesWrong : ChangeSpec := { name := "findTakes", fn := fun _ => fun
  | [d1, d2, d3, d4, d5, d6] => { results := [.lit (.bool false)], args := [d1, d2, d3, d4, d5, d6] }
  | _ => none }
def FindTakesWrongFalsely : Prop := findTakesRow.holds Tryd.pinned (OpenSpec.ofChange findTakesWrong)

/-- 'backseatlaw10.FindBack': WHATEVER THE INPUT: true; the input reads as it did. -/
def findBackSpec : ChangeSpec := { name := "findBack", fn := fun _ => fun
  | [d1, d2, d3, d4] => { results := [.lit (.bool true)], args := [d1, d2, d3, d4] }
  | _ => none }
def findBackRow : OpenClaim := { program := "yteebbmmgbjpihaadoor", sum := "fd63c916e8c1ed331e815c81576e701bd40de3c35a61ea4ab208913449b6887f", func := "backseat/backseatlaw10.FindBack", spec := "findBack", unfollowed := true, recurses := true, named := ["backseat/utf.letters", "backseat/utf.widths"], apart := false, laid := [("backseat/utf.letters", laid_backseat_utf_letters), ("backseat/utf.widths", laid_backseat_utf_widths)] }
def FindBackSaid : Prop := findBackRow.holds Tryd.pinned (OpenSpec.ofChange findBackSpec)

/-- ITS FALSE NEIGHBOUR: 'it returns false'. Refute it at one input. -/
def findBackWrong : ChangeSpec := { name := "findBack", fn := fun _ => fun
  | [d1, d2, d3, d4] => { results := [.lit (.bool false)], args := [d1, d2, d3, d4] }
  | _ => none }
def FindBackWrongFalsely : Prop := findBackRow.holds Tryd.pinned (OpenSpec.ofChange findBackWrong)

/- THE SECOND FORM. 'bulk': how many values and letters a reading holds, each counted each time it is reached (what is shared counts as often as it is met; a slice's spare places count too). A statement '..UptoSaid' is the law's where the arguments, and the package variables that the reading takes, are together of bulk at most 1048576: NARROWER than '..Said'. Prove '..Said' where nothing that the law and all that it calls make is longer than what came in: it says more and counts as full. Else prove '..UptoSaid'. A law counts once. -/
mutual
def uptoBulk {H : Type} : DataW H → Nat
  | .lit (.string bytes) => bytes.length + 1
  | .lit _ => 1
  | .nil => 1
  | .ptr d => uptoBulk d + 1
  | .slice elems spare => uptoBulkAll elems + uptoBulkAll spare + 1
  | .agg parts => uptoBulkAll parts + 1
  | .iface _ d => uptoBulk d + 1
  | .map entries => uptoBulkEntries entries + 1
  | .held _ => 1
def uptoBulkAll {H : Type} : List (DataW H) → Nat
  | [] => 0
  | d :: r => uptoBulk d + uptoBulkAll r
def uptoBulkEntries {H : Type} : List (Lit × DataW H) → Nat
  | [] => 0
  | x :: r => uptoBulkEntry x + uptoBulkEntries r
def uptoBulkEntry {H : Type} : Lit × DataW H → Nat
  | (.string bytes, d) => bytes.length + uptoBulk d + 1
  | (_, d) => uptoBulk d + 1
 end
def uptoSmall : (H : Type) → List (DataW H) → Bool := fun _ ds => decide (uptoBulkAll ds ≤ 1048576)
def OpenSpec.upto (s : _root_.Go.ChangeSpec) : _root_.Go.OpenSpec := { _root_.Go.OpenSpec.ofChange s with cond := some uptoSmall }

/-- 'backseatlaw10.FindLooks', WHERE WHAT IT READS IS OF BULK AT MOST 1048576: true; the input reads as it did. -/
def findLooksUptoRow : OpenClaim := { program := "yteebbmmgbjpihaadoor", sum := "fd63c916e8c1ed331e815c81576e701bd40de3c35a61ea4ab208913449b6887f", func := "backseat/backseatlaw10.FindLooks", spec := "findLooks", unfollowed := true, recurses := true, named := ["backseat/utf.letters", "backseat/utf.widths"], apart := false, laid := [("backseat/utf.letters", laid_backseat_utf_letters), ("backseat/utf.widths", laid_backseat_utf_widths)], narrowed := true }
def FindLooksUptoSaid : Prop := findLooksUptoRow.holds Tryd.pinned (OpenSpec.upto findLooksSpec)

/-- 'backseatlaw10.FindTakes', WHERE WHAT IT READS IS OF BULK AT MOST 1048576: true; the input reads as it did. -/
def findTakesUptoRow : OpenClaim := { program := "yteebbmmgbjpihaadoor", sum := "fd63c916e8c1ed331e815c81576e701bd40de3c35a61ea4ab208913449b6887f", func := "backseat/backseatlaw10.FindTakes", spec := "findTakes", inPlace := ["internal/abi.NoEscape", "internal/bytealg.IndexByteString", "internal/bytealg.IndexString", "internal/bytealg.MakeNoZero"], unfollowed := true, recurses := true, named := ["backseat/utf.letters", "backseat/utf.widths", "unicode/utf8.first", "unicode/utf8.acceptRanges", "internal/bytealg.MaxLen"], apart := false, laid := [("backseat/utf.letters", laid_backseat_utf_letters), ("backseat/utf.widths", laid_backseat_utf_widths), ("unicode/utf8.acceptRanges", laid_unicode_utf8_acceptRanges), ("unicode/utf8.first", laid_unicode_utf8_first)], narrowed := true }
def FindTakesUptoSaid : Prop := findTakesUptoRow.holds Tryd.pinned (OpenSpec.upto findTakesSpec)

/-- 'backseatlaw10.FindBack', WHERE WHAT IT READS IS OF BULK AT MOST 1048576: true; the input reads as it did. -/
def findBackUptoRow : OpenClaim := { program := "yteebbmmgbjpihaadoor", sum := "fd63c916e8c1ed331e815c81576e701bd40de3c35a61ea4ab208913449b6887f", func := "backseat/backseatlaw10.FindBack", spec := "findBack", unfollowed := true, recurses := true, named := ["backseat/utf.letters", "backseat/utf.widths"], apart := false, laid := [("backseat/utf.letters", laid_backseat_utf_letters), ("backseat/utf.widths", laid_backseat_utf_widths)], narrowed := true }
def FindBackUptoSaid : Prop := findBackUptoRow.holds Tryd.pinned (OpenSpec.upto findBackSpec)

end Rows
end Go.Proofs.YteebbmmgbjpihaaDoor
