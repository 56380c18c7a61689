/-
  NARROWER THAN 'FOR EVERY INPUT', by the rows' own cells (each row's printed sentence says how): UtfWrites: laid · UtfReads: laid · UtfBack: laid · UtfGoes: laid.
  DERIVED. THE GIVEN ROWS OF THIS SEAT. 4 by the template 'for every input the law returns true; each argument reads behind the call as it read before'; 0 by the template 'total and deterministic' (their statements: YtdokdcbfgogbbaaDoorTotals.lean).
  GIVEN WITH THE SEED: the statements are not yours to turn. If you find one false, say at which input.
  Laid BY PROGRAM, IN A SANDBOX (cutbox-rows.mjs): the forced cells as the released guide's own fill.sh prints them over the translation db5137c85bfd5a36… (all of the seat's roots in one cut). By AI agents, Wed Nov 11 2026. No macro, syntax, notation, axiom, sorry.
-/
import Derived.Test.YtdokdcbfgogbbaaDoorChecked
import GoSem.Claim
import GoSem.ClaimJoined
import GoSem.ClaimMapViews
import Derived.JoinedTies
import Derived.KernelRfl
namespace Go.Proofs.YtdokdcbfgogbbaaDoor
/- THE CELL 'sum', in the pinned program and in every row, IS THE sha256 OF THE DUMP (.gsa) THAT YtdokdcbfgogbbaaDoorProg.lean LOADS. Nothing in Lean hashes anything: it is a label: what it is worth is what the hold of that sum in a sandbox is worth. -/
noncomputable def Tryd.pinned : Pinned := { name := "ytdokdcbfgogbbaadoor", sum := "db5137c85bfd5a366479c7d4a9f26cc9af052090d9a5a10a700ff996f6935e70", checked := Tryd.checked }
namespace Rows
def none {H : Type} : Left H := { results := [], args := [] }

/- WHAT THE LISTED PACKAGE-LEVEL VARIABLES READ AS WHEN THE CALL BEGINS. Each datum BY PROGRAM (the guide's laid-datum.mjs) off the statement by which the dump's own 'gosem.cut.vars' lays the variable. In a bare row this is a premise. The card (YtdokdcbfgogbbaaDoorCards.lean) ties it to the program's text. -/
def laid_backseat_utf_letters {H : Type} : DataW H := .agg [.agg [.lit (.int .i32 0), .lit (.int .i32 127), .lit (.int .i32 1)], .agg [.lit (.int .i32 128), .lit (.int .i32 2047), .lit (.int .i32 2)], .agg [.lit (.int .i32 2048), .lit (.int .i32 55295), .lit (.int .i32 3)], .agg [.lit (.int .i32 57344), .lit (.int .i32 65535), .lit (.int .i32 3)], .agg [.lit (.int .i32 65536), .lit (.int .i32 1114111), .lit (.int .i32 4)]]
def laid_backseat_utf_widths {H : Type} : DataW H := .agg [.agg [.lit (.int .i32 0), .lit (.int .i32 31), .lit (.int .i32 (-1))], .agg [.lit (.int .i32 127), .lit (.int .i32 159), .lit (.int .i32 (-1))], .agg [.lit (.int .i32 768), .lit (.int .i32 879), .lit (.int .i32 0)], .agg [.lit (.int .i32 8203), .lit (.int .i32 8205), .lit (.int .i32 0)], .agg [.lit (.int .i32 65024), .lit (.int .i32 65039), .lit (.int .i32 0)], .agg [.lit (.int .i32 4352), .lit (.int .i32 4447), .lit (.int .i32 2)], .agg [.lit (.int .i32 12353), .lit (.int .i32 19903), .lit (.int .i32 2)], .agg [.lit (.int .i32 19968), .lit (.int .i32 40959), .lit (.int .i32 2)], .agg [.lit (.int .i32 44032), .lit (.int .i32 55203), .lit (.int .i32 2)], .agg [.lit (.int .i32 63744), .lit (.int .i32 64255), .lit (.int .i32 2)], .agg [.lit (.int .i32 65281), .lit (.int .i32 65376), .lit (.int .i32 2)], .agg [.lit (.int .i32 127744), .lit (.int .i32 129791), .lit (.int .i32 2)], .agg [.lit (.int .i32 131072), .lit (.int .i32 262141), .lit (.int .i32 2)]]

/-- 'backseatlaw01.UtfWrites': WHATEVER THE INPUT: true; the input reads as it did. -/
def utfWritesSpec : ChangeSpec := { name := "utfWrites", fn := fun _ => fun
  | [d] => { results := [.lit (.bool true)], args := [d] }
  | _ => none }
def utfWritesRow : OpenClaim := { program := "ytdokdcbfgogbbaadoor", sum := "db5137c85bfd5a366479c7d4a9f26cc9af052090d9a5a10a700ff996f6935e70", func := "backseat/backseatlaw01.UtfWrites", spec := "utfWrites", named := ["backseat/utf.letters", "backseat/utf.widths"], apart := false, laid := [("backseat/utf.letters", laid_backseat_utf_letters), ("backseat/utf.widths", laid_backseat_utf_widths)] }
def UtfWritesSaid : Prop := utfWritesRow.holds Tryd.pinned (OpenSpec.ofChange utfWritesSpec)

/-- ITS FALSE NEIGHBOUR: 'it returns false'. Refute it at one input. -/
def utfWritesWrong : ChangeSpec := { name := "utfWrites", fn := fun _ => fun
  | [d] => { results := [.lit (.bool false)], args := [d] }
  | _ => none }
def UtfWritesWrongFalsely : Prop := utfWritesRow.holds Tryd.pinned (OpenSpec.ofChange utfWritesWrong)

/-- 'backseatlaw01.UtfReads': WHATEVER THE INPUT: true; the input reads as it did. -/
def utfReadsSpec : ChangeSpec := { name := "utfReads", fn := fun _ => fun
  | [d] => { results := [.lit (.bool true)], args := [d] }
  | _ => none }
def utfReadsRow : OpenClaim := { program := "ytdokdcbfgogbbaadoor", sum := "db5137c85bfd5a366479c7d4a9f26cc9af052090d9a5a10a700ff996f6935e70", func := "backseat/backseatlaw01.UtfReads", spec := "utfReads", named := ["backseat/utf.letters"], apart := false, laid := [("backseat/utf.letters", laid_backseat_utf_letters)] }
def UtfReadsSaid : Prop := utfReadsRow.holds Tryd.pinned (OpenSpec.ofChange utfReadsSpec)

/-- ITS FALSE NEIGHBOUR: 'it returns false'. Refute it at one input. -/
def utfReadsWrong : ChangeSpec := { name := "utfReads", fn := fun _ => fun
  | [d] => { results := [.lit (.bool false)], args := [d] }
  | _ => none }
def UtfReadsWrongFalsely : Prop := utfReadsRow.holds Tryd.pinned (OpenSpec.ofChange utfReadsWrong)

/-- 'backseatlaw01.UtfBack': WHATEVER THE INPUT: true; the input reads as it did. -/
def utfBackSpec : ChangeSpec := { name := "utfBack", fn := fun _ => fun
  | [d1, d2] => { results := [.lit (.bool true)], args := [d1, d2] }
  | _ => none }
def utfBackRow : OpenClaim := { program := "ytdokdcbfgogbbaadoor", sum := "db5137c85bfd5a366479c7d4a9f26cc9af052090d9a5a10a700ff996f6935e70", func := "backseat/backseatlaw01.UtfBack", spec := "utfBack", named := ["backseat/utf.letters"], apart := false, laid := [("backseat/utf.letters", laid_backseat_utf_letters)] }
def UtfBackSaid : Prop := utfBackRow.holds Tryd.pinned (OpenSpec.ofChange utfBackSpec)

/-- ITS FALSE NEIGHBOUR: 'it returns false'. Refute it at one input. -/
def utfBackWrong : ChangeSpec := { name := "utfBack", fn := fun _ => fun
  | [d1, d2] => { results := [.lit (.bool false)], args := [d1, d2] }
  | _ => none }
def UtfBackWrongFalsely : Prop := utfBackRow.holds Tryd.pinned (OpenSpec.ofChange utfBackWrong)

/-- 'backseatlaw01.UtfGoes': WHATEVER THE INPUT: true; the input reads as it did. -/
def utfGoesSpec : ChangeSpec := { name := "utfGoes", fn := fun _ => fun
  | [d1, d2] => { results := [.lit (.bool true)], args := [d1, d2] }
  | _ => none }
def utfGoesRow : OpenClaim := { program := "ytdokdcbfgogbbaadoor", sum := "db5137c85bfd5a366479c7d4a9f26cc9af052090d9a5a10a700ff996f6935e70", func := "backseat/backseatlaw01.UtfGoes", spec := "utfGoes", named := ["backseat/utf.letters"], apart := false, laid := [("backseat/utf.letters", laid_backseat_utf_letters)] }
def UtfGoesSaid : Prop := utfGoesRow.holds Tryd.pinned (OpenSpec.ofChange utfGoesSpec)

/-- ITS FALSE NEIGHBOUR: 'it returns false'. Refute it at one input. -/
def utfGoesWrong : ChangeSpec := { name := "utfGoes", fn := fun _ => fun
  | [d1, d2] => { results := [.lit (.bool false)], args := [d1, d2] }
  | _ => none }
def UtfGoesWrongFalsely : Prop := utfGoesRow.holds Tryd.pinned (OpenSpec.ofChange utfGoesWrong)

/- THE SECOND FORM. 'bulk': how many values and letters a reading holds, each counted each time it is reached (what is shared counts as often as it is met; a slice's spare places count too). A statement '..UptoSaid' is the law's where the arguments, and the package variables that the reading takes, are together of bulk at most 1048576: NARROWER than '..Said'. Prove '..Said' where nothing that the law and all that it calls make is longer than what came in: it says more and counts as full. Else prove '..UptoSaid'. A law counts once. -/
mutual
def uptoBulk {H : Type} : DataW H → Nat
  | .lit (.string bytes) => bytes.length + 1
  | .lit _ => 1
  | .nil => 1
  | .ptr d => uptoBulk d + 1
  | .slice elems spare => uptoBulkAll elems + uptoBulkAll spare + 1
  | .agg parts => uptoBulkAll parts + 1
  | .iface _ d => uptoBulk d + 1
  | .map entries => uptoBulkEntries entries + 1
  | .held _ => 1
def uptoBulkAll {H : Type} : List (DataW H) → Nat
  | [] => 0
  | d :: r => uptoBulk d + uptoBulkAll r
def uptoBulkEntries {H : Type} : List (Lit × DataW H) → Nat
  | [] => 0
  | x :: r => uptoBulkEntry x + uptoBulkEntries r
def uptoBulkEntry {H : Type} : Lit × DataW H → Nat
  | (.string bytes, d) => bytes.length + uptoBulk d + 1
  | (_, d) => uptoBulk d + 1
 end
def uptoSmall : (H : Type) → List (DataW H) → Bool := fun _ ds => decide (uptoBulkAll ds ≤ 1048576)
def OpenSpec.upto (s : _root_.Go.ChangeSpec) : _root_.Go.OpenSpec := { _root_.Go.OpenSpec.ofChange s with cond := some uptoSmall }

/-- 'backseatlaw01.UtfWrites', WHERE WHAT IT READS IS OF BULK AT MOST 1048576: true; the input reads as it did. -/
def utfWritesUptoRow : OpenClaim := { program := "ytdokdcbfgogbbaadoor", sum := "db5137c85bfd5a366479c7d4a9f26cc9af052090d9a5a10a700ff996f6935e70", func := "backseat/backseatlaw01.UtfWrites", spec := "utfWrites", named := ["backseat/utf.letters", "backseat/utf.widths"], apart := false, laid := [("backseat/utf.letters", laid_backseat_utf_letters), ("backseat/utf.widths", laid_backseat_utf_widths)], narrowed := true }
def UtfWritesUptoSaid : Prop := utfWritesUptoRow.holds Tryd.pinned (OpenSpec.upto utfWritesSpec)

/-- 'backseatlaw01.UtfReads', WHERE WHAT IT READS IS OF BULK AT MOST 1048576: true; the input reads as it did. -/
def utfReadsUptoRow : OpenClaim := { program := "ytdokdcbfgogbbaadoor", sum := "db5137c85bfd5a366479c7d4a9f26cc9af052090d9a5a10a700ff996f6935e70", func := "backseat/backseatlaw01.UtfReads", spec := "utfReads", named := ["backseat/utf.letters"], apart := false, laid := [("backseat/utf.letters", laid_backseat_utf_letters)], narrowed := true }
def UtfReadsUptoSaid : Prop := utfReadsUptoRow.holds Tryd.pinned (OpenSpec.upto utfReadsSpec)

/-- 'backseatlaw01.UtfBack', WHERE WHAT IT READS IS OF BULK AT MOST 1048576: true; the input reads as it did. -/
def utfBackUptoRow : OpenClaim := { program := "ytdokdcbfgogbbaadoor", sum := "db5137c85bfd5a366479c7d4a9f26cc9af052090d9a5a10a700ff996f6935e70", func := "backseat/backseatlaw01.UtfBack", spec := "utfBack", named := ["backseat/utf.letters"], apart := false, laid := [("backseat/utf.letters", laid_backseat_utf_letters)], narrowed := true }
def UtfBackUptoSaid : Prop := utfBackUptoRow.holds Tryd.pinned (OpenSpec.upto utfBackSpec)

/-- 'backseatlaw01.UtfGoes', WHERE WHAT IT READS IS OF BULK AT MOST 1048576: true; the input reads as it did. -/
def utfGoesUptoRow : OpenClaim := { program := "ytdokdcbfgogbbaadoor", sum := "db5137c85bfd5a366479c7d4a9f26cc9af052090d9a5a10a700ff996f6935e70", func := "backseat/backseatlaw01.UtfGoes", spec := "utfGoes", named := ["backseat/utf.letters"], apart := false, laid := [("backseat/utf.letters", laid_backseat_utf_letters)], narrowed := true }
def UtfGoesUptoSaid : Prop := utfGoesUptoRow.holds Tryd.pinned (OpenSpec.upto utfGoesSpec)

end Rows
end Go.Proofs.YtdokdcbfgogbbaaDoor
