/-
  NARROWER THAN 'FOR EVERY INPUT', by the rows' own cells (each row's printed sentence says how): GridGoes: laid · FlowJoins: laid · FlowFolds: laid · FlowTurns: laid.
  DERIVED. THE GIVEN ROWS OF THIS SEAT. 4 by the template 'for every input the law returns true; each argument reads behind the call as it read before'; 0 by the template 'total and deterministic' (their statements: YtkejoknphnkhnaaDoorTotals.lean).
  GIVEN WITH THE SEED: the statements are not yours to turn. If you find one false, say at which input.
  Laid BY PROGRAM, IN A SANDBOX (cutbox-rows.mjs): the forced cells as the released guide's own fill.sh prints them over the translation b427c7ee30ece5e9… (all of the seat's roots in one cut). By AI agents, Wed Nov 11 2026. No macro, syntax, notation, axiom, sorry.
-/
import Derived.Test.YtkejoknphnkhnaaDoorChecked
import GoSem.Claim
import GoSem.ClaimJoined
import GoSem.ClaimMapViews
import Derived.JoinedTies
import Derived.KernelRfl
namespace Go.Proofs.YtkejoknphnkhnaaDoor
/- THE CELL 'sum', in the pinned program and in every row, IS THE sha256 OF THE DUMP (.gsa) THAT YtkejoknphnkhnaaDoorProg.lean LOADS. Nothing in Lean hashes anything: it is a label: what it is worth is what the hold of that sum in a sandbox is worth. -/
noncomputable def Tryd.pinned : Pinned := { name := "ytkejoknphnkhnaadoor", sum := "b427c7ee30ece5e92f744819587d9fa756960c4b70a15a74f8ac2bbe7c477073", checked := Tryd.checked }
namespace Rows
def none {H : Type} : Left H := { results := [], args := [] }

/- WHAT THE LISTED PACKAGE-LEVEL VARIABLES READ AS WHEN THE CALL BEGINS. Each datum BY PROGRAM (the guide's laid-datum.mjs) off the statement by which the dump's own 'gosem.cut.vars' lays the variable. In a bare row this is a premise. The card (YtkejoknphnkhnaaDoorCards.lean) ties it to the program's text. -/
def laid_backseat_utf_letters {H : Type} : DataW H := .agg [.agg [.lit (.int .i32 0), .lit (.int .i32 127), .lit (.int .i32 1)], .agg [.lit (.int .i32 128), .lit (.int .i32 2047), .lit (.int .i32 2)], .agg [.lit (.int .i32 2048), .lit (.int .i32 55295), .lit (.int .i32 3)], .agg [.lit (.int .i32 57344), .lit (.int .i32 65535), .lit (.int .i32 3)], .agg [.lit (.int .i32 65536), .lit (.int .i32 1114111), .lit (.int .i32 4)]]
def laid_backseat_utf_widths {H : Type} : DataW H := .agg [.agg [.lit (.int .i32 0), .lit (.int .i32 31), .lit (.int .i32 (-1))], .agg [.lit (.int .i32 127), .lit (.int .i32 159), .lit (.int .i32 (-1))], .agg [.lit (.int .i32 768), .lit (.int .i32 879), .lit (.int .i32 0)], .agg [.lit (.int .i32 8203), .lit (.int .i32 8205), .lit (.int .i32 0)], .agg [.lit (.int .i32 65024), .lit (.int .i32 65039), .lit (.int .i32 0)], .agg [.lit (.int .i32 4352), .lit (.int .i32 4447), .lit (.int .i32 2)], .agg [.lit (.int .i32 12353), .lit (.int .i32 19903), .lit (.int .i32 2)], .agg [.lit (.int .i32 19968), .lit (.int .i32 40959), .lit (.int .i32 2)], .agg [.lit (.int .i32 44032), .lit (.int .i32 55203), .lit (.int .i32 2)], .agg [.lit (.int .i32 63744), .lit (.int .i32 64255), .lit (.int .i32 2)], .agg [.lit (.int .i32 65281), .lit (.int .i32 65376), .lit (.int .i32 2)], .agg [.lit (.int .i32 127744), .lit (.int .i32 129791), .lit (.int .i32 2)], .agg [.lit (.int .i32 131072), .lit (.int .i32 262141), .lit (.int .i32 2)]]

/-- 'backseatlaw06.GridGoes': WHATEVER THE INPUT: true; the input reads as it did. -/
def gridGoesSpec : ChangeSpec := { name := "gridGoes", fn := fun _ => fun
  | [d1, d2, d3, d4, d5] => { results := [.lit (.bool true)], args := [d1, d2, d3, d4, d5] }
  | _ => none }
def gridGoesRow : OpenClaim := { program := "ytkejoknphnkhnaadoor", sum := "b427c7ee30ece5e92f744819587d9fa756960c4b70a15a74f8ac2bbe7c477073", func := "backseat/backseatlaw06.GridGoes", spec := "gridGoes", inPlace := ["slices.overlaps[backseat/api.Line]"], unfollowed := true, recurses := true, named := ["backseat/utf.letters", "backseat/utf.widths"], apart := false, laid := [("backseat/utf.letters", laid_backseat_utf_letters), ("backseat/utf.widths", laid_backseat_utf_widths)] }
def GridGoesSaid : Prop := gridGoesRow.holds Tryd.pinned (OpenSpec.ofChange gridGoesSpec)

/-- ITS FALSE NEIGHBOUR: 'it returns false'. Refute it at one input. -/
def gridGoesWrong : ChangeSpec := { name := "gridGoes", fn := fun _ => fun
  | [d1, d2, d3, d4, d5] => { results := [.lit (.bool false)], args := [d1, d2, d3, d4, d5] }
  | _ => none }
def GridGoesWrongFalsely : Prop := gridGoesRow.holds Tryd.pinned (OpenSpec.ofChange gridGoesWrong)

/-- 'backseatlaw08.FlowJoins': WHATEVER THE INPUT: true; the input reads as it did. -/
def flowJoinsSpec : ChangeSpec := { name := "flowJoins", fn := fun _ => fun
  | [d] => { results := [.lit (.bool true)], args := [d] }
  | _ => none }
def flowJoinsRow : OpenClaim := { program := "ytkejoknphnkhnaadoor", sum := "b427c7ee30ece5e92f744819587d9fa756960c4b70a15a74f8ac2bbe7c477073", func := "backseat/backseatlaw08.FlowJoins", spec := "flowJoins", inPlace := ["internal/abi.NoEscape"], unfollowed := true, recurses := true, named := ["backseat/utf.letters", "backseat/utf.widths"], apart := false, laid := [("backseat/utf.letters", laid_backseat_utf_letters), ("backseat/utf.widths", laid_backseat_utf_widths)] }
def FlowJoinsSaid : Prop := flowJoinsRow.holds Tryd.pinned (OpenSpec.ofChange flowJoinsSpec)

/-- ITS FALSE NEIGHBOUR: 'it returns false'. Refute it at one input. -/
def flowJoinsWrong : ChangeSpec := { name := "flowJoins", fn := fun _ => fun
  | [d] => { results := [.lit (.bool false)], args := [d] }
  | _ => none }
def FlowJoinsWrongFalsely : Prop := flowJoinsRow.holds Tryd.pinned (OpenSpec.ofChange flowJoinsWrong)

/-- 'backseatlaw08.FlowFolds': WHATEVER THE INPUT: true; the input reads as it did. -/
def flowFoldsSpec : ChangeSpec := { name := "flowFolds", fn := fun _ => fun
  | [d1, d2, d3] => { results := [.lit (.bool true)], args := [d1, d2, d3] }
  | _ => none }
def flowFoldsRow : OpenClaim := { program := "ytkejoknphnkhnaadoor", sum := "b427c7ee30ece5e92f744819587d9fa756960c4b70a15a74f8ac2bbe7c477073", func := "backseat/backseatlaw08.FlowFolds", spec := "flowFolds", inPlace := ["internal/abi.NoEscape"], unfollowed := true, recurses := true, named := ["backseat/utf.letters", "backseat/utf.widths"], apart := false, laid := [("backseat/utf.letters", laid_backseat_utf_letters), ("backseat/utf.widths", laid_backseat_utf_widths)] }
def FlowFoldsSaid : Prop := flowFoldsRow.holds Tryd.pinned (OpenSpec.ofChange flowFoldsSpec)

/-- ITS FALSE NEIGHBOUR: 'it returns false'. Refute it at one input. -/
def flowFoldsWrong : ChangeSpec := { name := "flowFolds", fn := fun _ => fun
  | [d1, d2, d3] => { results := [.lit (.bool false)], args := [d1, d2, d3] }
  | _ => none }
def FlowFoldsWrongFalsely : Prop := flowFoldsRow.holds Tryd.pinned (OpenSpec.ofChange flowFoldsWrong)

/-- 'backseatlaw08.FlowTurns': WHATEVER THE INPUT: true; the input reads as it did. -/
def flowTurnsSpec : ChangeSpec := { name := "flowTurns", fn := fun _ => fun
  | [d1, d2, d3] => { results := [.lit (.bool true)], args := [d1, d2, d3] }
  | _ => none }
def flowTurnsRow : OpenClaim := { program := "ytkejoknphnkhnaadoor", sum := "b427c7ee30ece5e92f744819587d9fa756960c4b70a15a74f8ac2bbe7c477073", func := "backseat/backseatlaw08.FlowTurns", spec := "flowTurns", inPlace := ["internal/abi.NoEscape"], unfollowed := true, recurses := true, named := ["backseat/utf.letters", "backseat/utf.widths"], apart := false, laid := [("backseat/utf.letters", laid_backseat_utf_letters), ("backseat/utf.widths", laid_backseat_utf_widths)] }
def FlowTurnsSaid : Prop := flowTurnsRow.holds Tryd.pinned (OpenSpec.ofChange flowTurnsSpec)

/-- ITS FALSE NEIGHBOUR: 'it returns false'. Refute it at one input. -/
def flowTurnsWrong : ChangeSpec := { name := "flowTurns", fn := fun _ => fun
  | [d1, d2, d3] => { results := [.lit (.bool false)], args := [d1, d2, d3] }
  | _ => none }
def FlowTurnsWrongFalsely : Prop := flowTurnsRow.holds Tryd.pinned (OpenSpec.ofChange flowTurnsWrong)

/- THE SECOND FORM. 'bulk': how many values and letters a reading holds, each counted each time it is reached (what is shared counts as often as it is met; a slice's spare places count too). A statement '..UptoSaid' is the law's where the arguments, and the package variables that the reading takes, are together of bulk at most 1048576: NARROWER than '..Said'. Prove '..Said' where nothing that the law and all that it calls make is longer than what came in: it says more and counts as full. Else prove '..UptoSaid'. A law counts once. -/
mutual
def uptoBulk {H : Type} : DataW H → Nat
  | .lit (.string bytes) => bytes.length + 1
  | .lit _ => 1
  | .nil => 1
  | .ptr d => uptoBulk d + 1
  | .slice elems spare => uptoBulkAll elems + uptoBulkAll spare + 1
  | .agg parts => uptoBulkAll parts + 1
  | .iface _ d => uptoBulk d + 1
  | .map entries => uptoBulkEntries entries + 1
  | .held _ => 1
def uptoBulkAll {H : Type} : List (DataW H) → Nat
  | [] => 0
  | d :: r => uptoBulk d + uptoBulkAll r
def uptoBulkEntries {H : Type} : List (Lit × DataW H) → Nat
  | [] => 0
  | x :: r => uptoBulkEntry x + uptoBulkEntries r
def uptoBulkEntry {H : Type} : Lit × DataW H → Nat
  | (.string bytes, d) => bytes.length + uptoBulk d + 1
  | (_, d) => uptoBulk d + 1
 end
def uptoSmall : (H : Type) → List (DataW H) → Bool := fun _ ds => decide (uptoBulkAll ds ≤ 1048576)
def OpenSpec.upto (s : _root_.Go.ChangeSpec) : _root_.Go.OpenSpec := { _root_.Go.OpenSpec.ofChange s with cond := some uptoSmall }

/-- 'backseatlaw06.GridGoes', WHERE WHAT IT READS IS OF BULK AT MOST 1048576: true; the input reads as it did. -/
def gridGoesUptoRow : OpenClaim := { program := "ytkejoknphnkhnaadoor", sum := "b427c7ee30ece5e92f744819587d9fa756960c4b70a15a74f8ac2bbe7c477073", func := "backseat/backseatlaw06.GridGoes", spec := "gridGoes", inPlace := ["slices.overlaps[backseat/api.Line]"], unfollowed := true, recurses := true, named := ["backseat/utf.letters", "backseat/utf.widths"], apart := false, laid := [("backseat/utf.letters", laid_backseat_utf_letters), ("backseat/utf.widths", laid_backseat_utf_widths)], narrowed := true }
def GridGoesUptoSaid : Prop := gridGoesUptoRow.holds Tryd.pinned (OpenSpec.upto gridGoesSpec)

/-- 'backseatlaw08.FlowJoins', WHERE WHAT IT READS IS OF BULK AT MOST 1048576: true; the input reads as it did. -/
def flowJoinsUptoRow : OpenClaim := { program := "ytkejoknphnkhnaadoor", sum := "b427c7ee30ece5e92f744819587d9fa756960c4b70a15a74f8ac2bbe7c477073", func := "backseat/backseatlaw08.FlowJoins", spec := "flowJoins", inPlace := ["internal/abi.NoEscape"], unfollowed := true, recurses := true, named := ["backseat/utf.letters", "backseat/utf.widths"], apart := false, laid := [("backseat/utf.letters", laid_backseat_utf_letters), ("backseat/utf.widths", laid_backseat_utf_widths)], narrowed := true }
def FlowJoinsUptoSaid : Prop := flowJoinsUptoRow.holds Tryd.pinned (OpenSpec.upto flowJoinsSpec)

/-- 'backseatlaw08.FlowFolds', WHERE WHAT IT READS IS OF BULK AT MOST 1048576: true; the input reads as it did. -/
def flowFoldsUptoRow : OpenClaim := { program := "ytkejoknphnkhnaadoor", sum := "b427c7ee30ece5e92f744819587d9fa756960c4b70a15a74f8ac2bbe7c477073", func := "backseat/backseatlaw08.FlowFolds", spec := "flowFolds", inPlace := ["internal/abi.NoEscape"], unfollowed := true, recurses := true, named := ["backseat/utf.letters", "backseat/utf.widths"], apart := false, laid := [("backseat/utf.letters", laid_backseat_utf_letters), ("backseat/utf.widths", laid_backseat_utf_widths)], narrowed := true }
def FlowFoldsUptoSaid : Prop := flowFoldsUptoRow.holds Tryd.pinned (OpenSpec.upto flowFoldsSpec)

/-- 'backseatlaw08.FlowTurns', WHERE WHAT IT READS IS OF BULK AT MOST 1048576: true; the input reads as it did. -/
def flowTurnsUptoRow : OpenClaim := { program := "ytkejoknphnkhnaadoor", sum := "b427c7ee30ece5e92f744819587d9fa756960c4b70a15a74f8ac2bbe7c477073", func := "backseat/backseatlaw08.FlowTurns", spec := "flowTurns", inPlace := ["internal/abi.NoEscape"], unfollowed := true, recurses := true, named := ["backseat/utf.letters", "backseat/utf.widths"], apart := false, laid := [("backseat/utf.letters", laid_backseat_utf_letters), ("backseat/utf.widths", laid_backseat_utf_widths)], narrowed := true }
def FlowTurnsUptoSaid : Prop := flowTurnsUptoRow.holds Tryd.pinned (OpenSpec.upto flowTurnsSpec)

end Rows
end Go.Proofs.YtkejoknphnkhnaaDoor
