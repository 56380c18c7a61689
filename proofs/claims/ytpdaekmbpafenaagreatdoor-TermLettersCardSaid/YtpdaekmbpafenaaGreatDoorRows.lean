/-
  NARROWER THAN 'FOR EVERY INPUT', by the rows' own cells (each row's printed sentence says how): TermSizes: laid · TermStays: laid · TermLetters: laid · TermSaves: laid.
  DERIVED. THE GIVEN ROWS OF THIS SEAT. 4 by the template 'for every input the law returns true; each argument reads behind the call as it read before'; 0 by the template 'total and deterministic' (their statements: YtpdaekmbpafenaaGreatDoorTotals.lean).
  GIVEN WITH THE SEED: the statements are not yours to turn. If you find one false, say at which input.
  Laid BY PROGRAM, IN A SANDBOX (cutbox-rows.mjs): the forced cells as the released guide's own fill.sh prints them over the translation 01246e57dc46d386… (all of the seat's roots in one cut). By AI agents, Wed Nov 11 2026. No macro, syntax, notation, axiom, sorry.
-/
import Derived.Test.YtpdaekmbpafenaaGreatDoorChecked
import GoSem.Claim
import GoSem.ClaimJoined
import GoSem.ClaimMapViews
import Derived.JoinedTies
import Derived.KernelRfl
namespace Go.Proofs.YtpdaekmbpafenaaGreatDoor
/- THE CELL 'sum', in the pinned program and in every row, IS THE sha256 OF THE DUMP (.gsa) THAT YtpdaekmbpafenaaGreatDoorProg.lean LOADS. Nothing in Lean hashes anything: it is a label: what it is worth is what the hold of that sum in a sandbox is worth. -/
noncomputable def Tryz.pinned : Pinned := { name := "ytpdaekmbpafenaagreatdoor", sum := "01246e57dc46d3868c3487f0615adb516347e947574041c22910215be11ea414", checked := Tryz.checked }
namespace Rows
def none {H : Type} : Left H := { results := [], args := [] }

/- WHAT THE LISTED PACKAGE-LEVEL VARIABLES READ AS WHEN THE CALL BEGINS. Each datum BY PROGRAM (the guide's laid-datum.mjs) off the statement by which the dump's own 'gosem.cut.vars' lays the variable. In a bare row this is a premise. The card (YtpdaekmbpafenaaGreatDoorCards.lean) ties it to the program's text. -/
def laid_backseat_utf_letters {H : Type} : DataW H := .agg [.agg [.lit (.int .i32 0), .lit (.int .i32 127), .lit (.int .i32 1)], .agg [.lit (.int .i32 128), .lit (.int .i32 2047), .lit (.int .i32 2)], .agg [.lit (.int .i32 2048), .lit (.int .i32 55295), .lit (.int .i32 3)], .agg [.lit (.int .i32 57344), .lit (.int .i32 65535), .lit (.int .i32 3)], .agg [.lit (.int .i32 65536), .lit (.int .i32 1114111), .lit (.int .i32 4)]]
def laid_backseat_utf_widths {H : Type} : DataW H := .agg [.agg [.lit (.int .i32 0), .lit (.int .i32 31), .lit (.int .i32 (-1))], .agg [.lit (.int .i32 127), .lit (.int .i32 159), .lit (.int .i32 (-1))], .agg [.lit (.int .i32 768), .lit (.int .i32 879), .lit (.int .i32 0)], .agg [.lit (.int .i32 8203), .lit (.int .i32 8205), .lit (.int .i32 0)], .agg [.lit (.int .i32 65024), .lit (.int .i32 65039), .lit (.int .i32 0)], .agg [.lit (.int .i32 4352), .lit (.int .i32 4447), .lit (.int .i32 2)], .agg [.lit (.int .i32 12353), .lit (.int .i32 19903), .lit (.int .i32 2)], .agg [.lit (.int .i32 19968), .lit (.int .i32 40959), .lit (.int .i32 2)], .agg [.lit (.int .i32 44032), .lit (.int .i32 55203), .lit (.int .i32 2)], .agg [.lit (.int .i32 63744), .lit (.int .i32 64255), .lit (.int .i32 2)], .agg [.lit (.int .i32 65281), .lit (.int .i32 65376), .lit (.int .i32 2)], .agg [.lit (.int .i32 127744), .lit (.int .i32 129791), .lit (.int .i32 2)], .agg [.lit (.int .i32 131072), .lit (.int .i32 262141), .lit (.int .i32 2)]]

/-- 'backseatlaw09.TermSizes': WHATEVER THE INPUT: true; the input reads as it did. -/
def termSizesSpec : ChangeSpec := { name := "termSizes", fn := fun _ => fun
  | [d1, d2, d3] => { results := [.lit (.bool true)], args := [d1, d2, d3] }
  | _ => none }
def termSizesRow : OpenClaim := { program := "ytpdaekmbpafenaagreatdoor", sum := "01246e57dc46d3868c3487f0615adb516347e947574041c22910215be11ea414", func := "backseat/backseatlaw09.TermSizes", spec := "termSizes", inPlace := ["slices.overlaps[backseat/api.Line]"], unfollowed := true, recurses := true, named := ["backseat/utf.letters", "backseat/utf.widths"], plainKeys := false, apart := false, laid := [("backseat/utf.letters", laid_backseat_utf_letters), ("backseat/utf.widths", laid_backseat_utf_widths)] }
def TermSizesSaid : Prop := termSizesRow.holds Tryz.pinned (OpenSpec.ofChange termSizesSpec)

/-- ITS FALSE NEIGHBOUR: 'it returns false'. Refute it at one input. -/
def termSizesWrong : ChangeSpec := { name := "termSizes", fn := fun _ => fun
  | [d1, d2, d3] => { results := [.lit (.bool false)], args := [d1, d2, d3] }
  | _ => none }
def TermSizesWrongFalsely : Prop := termSizesRow.holds Tryz.pinned (OpenSpec.ofChange termSizesWrong)

/-- 'backseatlaw09.TermStays': WHATEVER THE INPUT: true; the input reads as it did. -/
def termStaysSpec : ChangeSpec := { name := "termStays", fn := fun _ => fun
  | [d1, d2, d3, d4, d5] => { results := [.lit (.bool true)], args := [d1, d2, d3, d4, d5] }
  | _ => none }
def termStaysRow : OpenClaim := { program := "ytpdaekmbpafenaagreatdoor", sum := "01246e57dc46d3868c3487f0615adb516347e947574041c22910215be11ea414", func := "backseat/backseatlaw09.TermStays", spec := "termStays", inPlace := ["slices.overlaps[backseat/api.Line]"], unfollowed := true, recurses := true, named := ["backseat/utf.letters", "backseat/utf.widths"], plainKeys := false, apart := false, laid := [("backseat/utf.letters", laid_backseat_utf_letters), ("backseat/utf.widths", laid_backseat_utf_widths)] }
def TermStaysSaid : Prop := termStaysRow.holds Tryz.pinned (OpenSpec.ofChange termStaysSpec)

/-- ITS FALSE NEIGHBOUR: 'it returns false'. Refute it at one input. -/
def termStaysWrong : ChangeSpec := { name := "termStays", fn := fun _ => fun
  | [d1, d2, d3, d4, d5] => { results := [.lit (.bool false)], args := [d1, d2, d3, d4, d5] }
  | _ => none }
def TermStaysWrongFalsely : Prop := termStaysRow.holds Tryz.pinned (OpenSpec.ofChange termStaysWrong)

/-- 'backseatlaw09.TermLetters': WHATEVER THE INPUT: true; the input reads as it did. -/
def termLettersSpec : ChangeSpec := { name := "termLetters", fn := fun _ => fun
  | [d1, d2, d3, d4] => { results := [.lit (.bool true)], args := [d1, d2, d3, d4] }
  | _ => none }
def termLettersRow : OpenClaim := { program := "ytpdaekmbpafenaagreatdoor", sum := "01246e57dc46d3868c3487f0615adb516347e947574041c22910215be11ea414", func := "backseat/backseatlaw09.TermLetters", spec := "termLetters", inPlace := ["slices.overlaps[backseat/api.Line]"], unfollowed := true, recurses := true, named := ["backseat/utf.letters", "backseat/utf.widths"], plainKeys := false, apart := false, laid := [("backseat/utf.letters", laid_backseat_utf_letters), ("backseat/utf.widths", laid_backseat_utf_widths)] }
def TermLettersSaid : Prop := termLettersRow.holds Tryz.pinned (OpenSpec.ofChange termLettersSpec)

/-- ITS FALSE NEIGHBOUR: 'it returns false'. Refute it at one input. -/
def termLettersWrong : ChangeSpec := { name := "termLetters", fn := fun _ => fun
  | [d1, d2, d3, d4] => { results := [.lit (.bool false)], args := [d1, d2, d3, d4] }
  | _ => none }
def TermLettersWrongFalsely : Prop := termLettersRow.holds Tryz.pinned (OpenSpec.ofChange termLettersWrong)

/-- 'backseatlaw09.TermSaves': WHATEVER THE INPUT: true; the input reads as it did. -/
def termSavesSpec : ChangeSpec := { name := "termSaves", fn := fun _ => fun
  | [d1, d2] => { results := [.lit (.bool true)], args := [d1, d2] }
  | _ => none }
def termSavesRow : OpenClaim := { program := "ytpdaekmbpafenaagreatdoor", sum := "01246e57dc46d3868c3487f0615adb516347e947574041c22910215be11ea414", func := "backseat/backseatlaw09.TermSaves", spec := "termSaves", inPlace := ["slices.overlaps[backseat/api.Line]"], unfollowed := true, recurses := true, named := ["backseat/utf.letters", "backseat/utf.widths"], plainKeys := false, apart := false, laid := [("backseat/utf.letters", laid_backseat_utf_letters), ("backseat/utf.widths", laid_backseat_utf_widths)] }
def TermSavesSaid : Prop := termSavesRow.holds Tryz.pinned (OpenSpec.ofChange termSavesSpec)

/-- ITS FALSE NEIGHBOUR: 'it returns false'. Refute it at one input. -/
def termSavesWrong : ChangeSpec := { name := "termSaves", fn := fun _ => fun
  | [d1, d2] => { results := [.lit (.bool false)], args := [d1, d2] }
  | _ => none }
def TermSavesWrongFalsely : Prop := termSavesRow.holds Tryz.pinned (OpenSpec.ofChange termSavesWrong)

/- THE SECOND FORM. 'bulk': how many values and letters a reading holds, each counted each time it is reached (what is shared counts as often as it is met; a slice's spare places count too). A statement '..UptoSaid' is the law's where the arguments, and the package variables that the reading takes, are together of bulk at most 1048576: NARROWER than '..Said'. Prove '..Said' where nothing that the law and all that it calls make is longer than what came in: it says more and counts as full. Else prove '..UptoSaid'. A law counts once. -/
mutual
def uptoBulk {H : Type} : DataW H → Nat
  | .lit (.string bytes) => bytes.length + 1
  | .lit _ => 1
  | .nil => 1
  | .ptr d => uptoBulk d + 1
  | .slice elems spare => uptoBulkAll elems + uptoBulkAll spare + 1
  | .agg parts => uptoBulkAll parts + 1
  | .iface _ d => uptoBulk d + 1
  | .map entries => uptoBulkEntries entries + 1
  | .held _ => 1
def uptoBulkAll {H : Type} : List (DataW H) → Nat
  | [] => 0
  | d :: r => uptoBulk d + uptoBulkAll r
def uptoBulkEntries {H : Type} : List (Lit × DataW H) → Nat
  | [] => 0
  | x :: r => uptoBulkEntry x + uptoBulkEntries r
def uptoBulkEntry {H : Type} : Lit × DataW H → Nat
  | (.string bytes, d) => bytes.length + uptoBulk d + 1
  | (_, d) => uptoBulk d + 1
 end
def uptoSmall : (H : Type) → List (DataW H) → Bool := fun _ ds => decide (uptoBulkAll ds ≤ 1048576)
def OpenSpec.upto (s : _root_.Go.ChangeSpec) : _root_.Go.OpenSpec := { _root_.Go.OpenSpec.ofChange s with cond := some uptoSmall }

/-- 'backseatlaw09.TermSizes', WHERE WHAT IT READS IS OF BULK AT MOST 1048576: true; the input reads as it did. -/
def termSizesUptoRow : OpenClaim := { program := "ytpdaekmbpafenaagreatdoor", sum := "01246e57dc46d3868c3487f0615adb516347e947574041c22910215be11ea414", func := "backseat/backseatlaw09.TermSizes", spec := "termSizes", inPlace := ["slices.overlaps[backseat/api.Line]"], unfollowed := true, recurses := true, named := ["backseat/utf.letters", "backseat/utf.widths"], plainKeys := false, apart := false, laid := [("backseat/utf.letters", laid_backseat_utf_letters), ("backseat/utf.widths", laid_backseat_utf_widths)], narrowed := true }
def TermSizesUptoSaid : Prop := termSizesUptoRow.holds Tryz.pinned (OpenSpec.upto termSizesSpec)

/-- 'backseatlaw09.TermStays', WHERE WHAT IT READS IS OF BULK AT MOST 1048576: true; the input reads as it did. -/
def termStaysUptoRow : OpenClaim := { program := "ytpdaekmbpafenaagreatdoor", sum := "01246e57dc46d3868c3487f0615adb516347e947574041c22910215be11ea414", func := "backseat/backseatlaw09.TermStays", spec := "termStays", inPlace := ["slices.overlaps[backseat/api.Line]"], unfollowed := true, recurses := true, named := ["backseat/utf.letters", "backseat/utf.widths"], plainKeys := false, apart := false, laid := [("backseat/utf.letters", laid_backseat_utf_letters), ("backseat/utf.widths", laid_backseat_utf_widths)], narrowed := true }
def TermStaysUptoSaid : Prop := termStaysUptoRow.holds Tryz.pinned (OpenSpec.upto termStaysSpec)

/-- 'backseatlaw09.TermLetters', WHERE WHAT IT READS IS OF BULK AT MOST 1048576: true; the input reads as it did. -/
def termLettersUptoRow : OpenClaim := { program := "ytpdaekmbpafenaagreatdoor", sum := "01246e57dc46d3868c3487f0615adb516347e947574041c22910215be11ea414", func := "backseat/backseatlaw09.TermLetters", spec := "termLetters", inPlace := ["slices.overlaps[backseat/api.Line]"], unfollowed := true, recurses := true, named := ["backseat/utf.letters", "backseat/utf.widths"], plainKeys := false, apart := false, laid := [("backseat/utf.letters", laid_backseat_utf_letters), ("backseat/utf.widths", laid_backseat_utf_widths)], narrowed := true }
def TermLettersUptoSaid : Prop := termLettersUptoRow.holds Tryz.pinned (OpenSpec.upto termLettersSpec)

/-- 'backseatlaw09.TermSaves', WHERE WHAT IT READS IS OF BULK AT MOST 1048576: true; the input reads as it did. -/
def termSavesUptoRow : OpenClaim := { program := "ytpdaekmbpafenaagreatdoor", sum := "01246e57dc46d3868c3487f0615adb516347e947574041c22910215be11ea414", func := "backseat/backseatlaw09.TermSaves", spec := "termSaves", inPlace := ["slices.overlaps[backseat/api.Line]"], unfollowed := true, recurses := true, named := ["backseat/utf.letters", "backseat/utf.widths"], plainKeys := false, apart := false, laid := [("backseat/utf.letters", laid_backseat_utf_letters), ("backseat/utf.widths", laid_backseat_utf_widths)], narrowed := true }
def TermSavesUptoSaid : Prop := termSavesUptoRow.holds Tryz.pinned (OpenSpec.upto termSavesSpec)

end Rows
end Go.Proofs.YtpdaekmbpafenaaGreatDoor
