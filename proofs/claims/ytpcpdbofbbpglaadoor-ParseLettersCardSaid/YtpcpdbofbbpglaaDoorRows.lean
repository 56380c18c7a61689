/-
  NARROWER THAN 'FOR EVERY INPUT', by the rows' own cells (each row's printed sentence says how): ParseCuts: laid · ParseLetters: laid · ParseEnds: laid.
  DERIVED. THE GIVEN ROWS OF THIS SEAT. 3 by the template 'for every input the law returns true; each argument reads behind the call as it read before'; 0 by the template 'total and deterministic' (their statements: YtpcpdbofbbpglaaDoorTotals.lean).
  GIVEN WITH THE SEED: the statements are not yours to turn. If you find one false, say at which input.
  Laid BY PROGRAM, IN A SANDBOX (cutbox-rows.mjs): the forced cells as the released guide's own fill.sh prints them over the translation 48ef3bf3df140124… (all of the seat's roots in one cut). By AI agents, Wed Nov 11 2026. No macro, syntax, notation, axiom, sorry.
-/
import Derived.Test.YtpcpdbofbbpglaaDoorChecked
import GoSem.Claim
import GoSem.ClaimJoined
import GoSem.ClaimMapViews
import Derived.JoinedTies
import Derived.KernelRfl
namespace Go.Proofs.YtpcpdbofbbpglaaDoor
/- THE CELL 'sum', in the pinned program and in every row, IS THE sha256 OF THE DUMP (.gsa) THAT YtpcpdbofbbpglaaDoorProg.lean LOADS. Nothing in Lean hashes anything: it is a label: what it is worth is what the hold of that sum in a sandbox is worth. -/
noncomputable def Tryd.pinned : Pinned := { name := "ytpcpdbofbbpglaadoor", sum := "48ef3bf3df140124c0d7c4b72ba1082f3d1bcf5e9c8f3b24da68a004a8df92ca", checked := Tryd.checked }
namespace Rows
def none {H : Type} : Left H := { results := [], args := [] }

/- WHAT THE LISTED PACKAGE-LEVEL VARIABLES READ AS WHEN THE CALL BEGINS. Each datum BY PROGRAM (the guide's laid-datum.mjs) off the statement by which the dump's own 'gosem.cut.vars' lays the variable. In a bare row this is a premise. The card (YtpcpdbofbbpglaaDoorCards.lean) ties it to the program's text. -/
def laid_backseat_utf_letters {H : Type} : DataW H := .agg [.agg [.lit (.int .i32 0), .lit (.int .i32 127), .lit (.int .i32 1)], .agg [.lit (.int .i32 128), .lit (.int .i32 2047), .lit (.int .i32 2)], .agg [.lit (.int .i32 2048), .lit (.int .i32 55295), .lit (.int .i32 3)], .agg [.lit (.int .i32 57344), .lit (.int .i32 65535), .lit (.int .i32 3)], .agg [.lit (.int .i32 65536), .lit (.int .i32 1114111), .lit (.int .i32 4)]]

/-- 'backseatlaw05.ParseCuts': WHATEVER THE INPUT: true; the input reads as it did. -/
def parseCutsSpec : ChangeSpec := { name := "parseCuts", fn := fun _ => fun
  | [d1, d2, d3] => { results := [.lit (.bool true)], args := [d1, d2, d3] }
  | _ => none }
def parseCutsRow : OpenClaim := { program := "ytpcpdbofbbpglaadoor", sum := "48ef3bf3df140124c0d7c4b72ba1082f3d1bcf5e9c8f3b24da68a004a8df92ca", func := "backseat/backseatlaw05.ParseCuts", spec := "parseCuts", unfollowed := true, recurses := true, named := ["backseat/utf.letters"], apart := false, laid := [("backseat/utf.letters", laid_backseat_utf_letters)] }
def ParseCutsSaid : Prop := parseCutsRow.holds Tryd.pinned (OpenSpec.ofChange parseCutsSpec)

/-- ITS FALSE NEIGHBOUR: 'it returns false'. Refute it at one input. -/
def parseCutsWrong : ChangeSpec := { name := "parseCuts", fn := fun _ => fun
  | [d1, d2, d3] => { results := [.lit (.bool false)], args := [d1, d2, d3] }
  | _ => none }
def ParseCutsWrongFalsely : Prop := parseCutsRow.holds Tryd.pinned (OpenSpec.ofChange parseCutsWrong)

/-- 'backseatlaw05.ParseLetters': WHATEVER THE INPUT: true; the input reads as it did. -/
def parseLettersSpec : ChangeSpec := { name := "parseLetters", fn := fun _ => fun
  | [d1, d2, d3, d4] => { results := [.lit (.bool true)], args := [d1, d2, d3, d4] }
  | _ => none }
def parseLettersRow : OpenClaim := { program := "ytpcpdbofbbpglaadoor", sum := "48ef3bf3df140124c0d7c4b72ba1082f3d1bcf5e9c8f3b24da68a004a8df92ca", func := "backseat/backseatlaw05.ParseLetters", spec := "parseLetters", unfollowed := true, recurses := true, named := ["backseat/utf.letters"], apart := false, laid := [("backseat/utf.letters", laid_backseat_utf_letters)] }
def ParseLettersSaid : Prop := parseLettersRow.holds Tryd.pinned (OpenSpec.ofChange parseLettersSpec)

/-- ITS FALSE NEIGHBOUR: 'it returns false'. Refute it at one input. -/
def parseLettersWrong : ChangeSpec := { name := "parseLetters", fn := fun _ => fun
  | [d1, d2, d3, d4] => { results := [.lit (.bool false)], args := [d1, d2, d3, d4] }
  | _ => none }
def ParseLettersWrongFalsely : Prop := parseLettersRow.holds Tryd.pinned (OpenSpec.ofChange parseLettersWrong)

/-- 'backseatlaw05.ParseEnds': WHATEVER THE INPUT: true; the input reads as it did. -/
def parseEndsSpec : ChangeSpec := { name := "parseEnds", fn := fun _ => fun
  | [d1, d2] => { results := [.lit (.bool true)], args := [d1, d2] }
  | _ => none }
def parseEndsRow : OpenClaim := { program := "ytpcpdbofbbpglaadoor", sum := "48ef3bf3df140124c0d7c4b72ba1082f3d1bcf5e9c8f3b24da68a004a8df92ca", func := "backseat/backseatlaw05.ParseEnds", spec := "parseEnds", unfollowed := true, recurses := true, named := ["backseat/utf.letters"], apart := false, laid := [("backseat/utf.letters", laid_backseat_utf_letters)] }
def ParseEndsSaid : Prop := parseEndsRow.holds Tryd.pinned (OpenSpec.ofChange parseEndsSpec)

/-- ITS FALSE NEIGHBOUR: 'it returns false'. Refute it at one input. -/
def parseEndsWrong : ChangeSpec := { name := "parseEnds", fn := fun _ => fun
  | [d1, d2] => { results := [.lit (.bool false)], args := [d1, d2] }
  | _ => none }
def ParseEndsWrongFalsely : Prop := parseEndsRow.holds Tryd.pinned (OpenSpec.ofChange parseEndsWrong)

/- THE SECOND FORM. 'bulk': how many values and letters a reading holds, each counted each time it is reached (what is shared counts as often as it is met; a slice's spare places count too). A statement '..UptoSaid' is the law's where the arguments, and the package variables that the reading takes, are together of bulk at most 1048576: NARROWER than '..Said'. Prove '..Said' where nothing that the law and all that it calls make is longer than what came in: it says more and counts as full. Else prove '..UptoSaid'. A law counts once. -/
mutual
def uptoBulk {H : Type} : DataW H → Nat
  | .lit (.string bytes) => bytes.length + 1
  | .lit _ => 1
  | .nil => 1
  | .ptr d => uptoBulk d + 1
  | .slice elems spare => uptoBulkAll elems + uptoBulkAll spare + 1
  | .agg parts => uptoBulkAll parts + 1
  | .iface _ d => uptoBulk d + 1
  | .map entries => uptoBulkEntries entries + 1
  | .held _ => 1
def uptoBulkAll {H : Type} : List (DataW H) → Nat
  | [] => 0
  | d :: r => uptoBulk d + uptoBulkAll r
def uptoBulkEntries {H : Type} : List (Lit × DataW H) → Nat
  | [] => 0
  | x :: r => uptoBulkEntry x + uptoBulkEntries r
def uptoBulkEntry {H : Type} : Lit × DataW H → Nat
  | (.string bytes, d) => bytes.length + uptoBulk d + 1
  | (_, d) => uptoBulk d + 1
 end
def uptoSmall : (H : Type) → List (DataW H) → Bool := fun _ ds => decide (uptoBulkAll ds ≤ 1048576)
def OpenSpec.upto (s : _root_.Go.ChangeSpec) : _root_.Go.OpenSpec := { _root_.Go.OpenSpec.ofChange s with cond := some uptoSmall }

/-- 'backseatlaw05.ParseCuts', WHERE WHAT IT READS IS OF BULK AT MOST 1048576: true; the input reads as it did. -/
def parseCutsUptoRow : OpenClaim := { program := "ytpcpdbofbbpglaadoor", sum := "48ef3bf3df140124c0d7c4b72ba1082f3d1bcf5e9c8f3b24da68a004a8df92ca", func := "backseat/backseatlaw05.ParseCuts", spec := "parseCuts", unfollowed := true, recurses := true, named := ["backseat/utf.letters"], apart := false, laid := [("backseat/utf.letters", laid_backseat_utf_letters)], narrowed := true }
def ParseCutsUptoSaid : Prop := parseCutsUptoRow.holds Tryd.pinned (OpenSpec.upto parseCutsSpec)

/-- 'backseatlaw05.ParseLetters', WHERE WHAT IT READS IS OF BULK AT MOST 1048576: true; the input reads as it did. -/
def parseLettersUptoRow : OpenClaim := { program := "ytpcpdbofbbpglaadoor", sum := "48ef3bf3df140124c0d7c4b72ba1082f3d1bcf5e9c8f3b24da68a004a8df92ca", func := "backseat/backseatlaw05.ParseLetters", spec := "parseLetters", unfollowed := true, recurses := true, named := ["backseat/utf.letters"], apart := false, laid := [("backseat/utf.letters", laid_backseat_utf_letters)], narrowed := true }
def ParseLettersUptoSaid : Prop := parseLettersUptoRow.holds Tryd.pinned (OpenSpec.upto parseLettersSpec)

/-- 'backseatlaw05.ParseEnds', WHERE WHAT IT READS IS OF BULK AT MOST 1048576: true; the input reads as it did. -/
def parseEndsUptoRow : OpenClaim := { program := "ytpcpdbofbbpglaadoor", sum := "48ef3bf3df140124c0d7c4b72ba1082f3d1bcf5e9c8f3b24da68a004a8df92ca", func := "backseat/backseatlaw05.ParseEnds", spec := "parseEnds", unfollowed := true, recurses := true, named := ["backseat/utf.letters"], apart := false, laid := [("backseat/utf.letters", laid_backseat_utf_letters)], narrowed := true }
def ParseEndsUptoSaid : Prop := parseEndsUptoRow.holds Tryd.pinned (OpenSpec.upto parseEndsSpec)

end Rows
end Go.Proofs.YtpcpdbofbbpglaaDoor
