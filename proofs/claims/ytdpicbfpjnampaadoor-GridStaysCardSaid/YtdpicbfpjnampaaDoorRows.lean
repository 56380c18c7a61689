/-
  NARROWER THAN 'FOR EVERY INPUT', by the rows' own cells (each row's printed sentence says how): GridPuts: laid · GridGoes: laid · GridStays: laid · BackKeeps: laid · BackParts: laid.
  DERIVED. THE GIVEN ROWS OF THIS SEAT. 5 by the template 'for every input the law returns true; each argument reads behind the call as it read before'; 0 by the template 'total and deterministic' (their statements: YtdpicbfpjnampaaDoorTotals.lean).
  GIVEN WITH THE SEED: the statements are not yours to turn. If you find one false, say at which input.
  Laid BY PROGRAM, IN A SANDBOX (cutbox-rows.mjs): the forced cells as the released guide's own fill.sh prints them over the translation 4983dd2b04baedb6… (all of the seat's roots in one cut). By AI agents, Wed Nov 11 2026. No macro, syntax, notation, axiom, sorry.
-/
import Derived.Test.YtdpicbfpjnampaaDoorChecked
import GoSem.Claim
import GoSem.ClaimJoined
import GoSem.ClaimMapViews
import Derived.JoinedTies
import Derived.KernelRfl
namespace Go.Proofs.YtdpicbfpjnampaaDoor
/- THE CELL 'sum', in the pinned program and in every row, IS THE sha256 OF THE DUMP (.gsa) THAT YtdpicbfpjnampaaDoorProg.lean LOADS. Nothing in Lean hashes anything: it is a label: what it is worth is what the hold of that sum in a sandbox is worth. -/
noncomputable def Tryd.pinned : Pinned := { name := "ytdpicbfpjnampaadoor", sum := "4983dd2b04baedb688b0b883888696b5ebee6088286952fbd72ecffe0f2e947a", checked := Tryd.checked }
namespace Rows
def none {H : Type} : Left H := { results := [], args := [] }

/- WHAT THE LISTED PACKAGE-LEVEL VARIABLES READ AS WHEN THE CALL BEGINS. Each datum BY PROGRAM (the guide's laid-datum.mjs) off the statement by which the dump's own 'gosem.cut.vars' lays the variable. In a bare row this is a premise. The card (YtdpicbfpjnampaaDoorCards.lean) ties it to the program's text. -/
def laid_backseat_utf_letters {H : Type} : DataW H := .agg [.agg [.lit (.int .i32 0), .lit (.int .i32 127), .lit (.int .i32 1)], .agg [.lit (.int .i32 128), .lit (.int .i32 2047), .lit (.int .i32 2)], .agg [.lit (.int .i32 2048), .lit (.int .i32 55295), .lit (.int .i32 3)], .agg [.lit (.int .i32 57344), .lit (.int .i32 65535), .lit (.int .i32 3)], .agg [.lit (.int .i32 65536), .lit (.int .i32 1114111), .lit (.int .i32 4)]]
def laid_backseat_utf_widths {H : Type} : DataW H := .agg [.agg [.lit (.int .i32 0), .lit (.int .i32 31), .lit (.int .i32 (-1))], .agg [.lit (.int .i32 127), .lit (.int .i32 159), .lit (.int .i32 (-1))], .agg [.lit (.int .i32 768), .lit (.int .i32 879), .lit (.int .i32 0)], .agg [.lit (.int .i32 8203), .lit (.int .i32 8205), .lit (.int .i32 0)], .agg [.lit (.int .i32 65024), .lit (.int .i32 65039), .lit (.int .i32 0)], .agg [.lit (.int .i32 4352), .lit (.int .i32 4447), .lit (.int .i32 2)], .agg [.lit (.int .i32 12353), .lit (.int .i32 19903), .lit (.int .i32 2)], .agg [.lit (.int .i32 19968), .lit (.int .i32 40959), .lit (.int .i32 2)], .agg [.lit (.int .i32 44032), .lit (.int .i32 55203), .lit (.int .i32 2)], .agg [.lit (.int .i32 63744), .lit (.int .i32 64255), .lit (.int .i32 2)], .agg [.lit (.int .i32 65281), .lit (.int .i32 65376), .lit (.int .i32 2)], .agg [.lit (.int .i32 127744), .lit (.int .i32 129791), .lit (.int .i32 2)], .agg [.lit (.int .i32 131072), .lit (.int .i32 262141), .lit (.int .i32 2)]]

/-- 'backseatlaw06.GridPuts': WHATEVER THE INPUT: true; the input reads as it did. -/
def gridPutsSpec : ChangeSpec := { name := "gridPuts", fn := fun _ => fun
  | [d1, d2, d3, d4, d5, d6, d7] => { results := [.lit (.bool true)], args := [d1, d2, d3, d4, d5, d6, d7] }
  | _ => none }
def gridPutsRow : OpenClaim := { program := "ytdpicbfpjnampaadoor", sum := "4983dd2b04baedb688b0b883888696b5ebee6088286952fbd72ecffe0f2e947a", func := "backseat/backseatlaw06.GridPuts", spec := "gridPuts", unfollowed := true, recurses := true, named := ["backseat/utf.letters", "backseat/utf.widths"], apart := false, laid := [("backseat/utf.letters", laid_backseat_utf_letters), ("backseat/utf.widths", laid_backseat_utf_widths)] }
def GridPutsSaid : Prop := gridPutsRow.holds Tryd.pinned (OpenSpec.ofChange gridPutsSpec)

/-- ITS FALSE NEIGHBOUR: 'it returns false'. Refute it at one input. -/
def gridPutsWrong : ChangeSpec := { name := "gridPuts", fn := fun _ => fun
  | [d1, d2, d3, d4, d5, d6, d7] => { results := [.lit (.bool false)], args := [d1, d2, d3, d4, d5, d6, d7] }
  | _ => none }
def GridPutsWrongFalsely : Prop := gridPutsRow.holds Tryd.pinned (OpenSpec.ofChange gridPutsWrong)

/-- 'backseatlaw06.GridGoes': WHATEVER THE INPUT: true; the input reads as it did. -/
def gridGoesSpec : ChangeSpec := { name := "gridGoes", fn := fun _ => fun
  | [d1, d2, d3, d4, d5] => { results := [.lit (.bool true)], args := [d1, d2, d3, d4, d5] }
  | _ => none }
def gridGoesRow : OpenClaim := { program := "ytdpicbfpjnampaadoor", sum := "4983dd2b04baedb688b0b883888696b5ebee6088286952fbd72ecffe0f2e947a", func := "backseat/backseatlaw06.GridGoes", spec := "gridGoes", inPlace := ["slices.overlaps[backseat/api.Line]"], unfollowed := true, recurses := true, named := ["backseat/utf.letters", "backseat/utf.widths"], apart := false, laid := [("backseat/utf.letters", laid_backseat_utf_letters), ("backseat/utf.widths", laid_backseat_utf_widths)] }
def GridGoesSaid : Prop := gridGoesRow.holds Tryd.pinned (OpenSpec.ofChange gridGoesSpec)

/-- ITS FALSE NEIGHBOUR: 'it returns false'. Refute it at one input. -/
def gridGoesWrong : ChangeSpec := { name := "gridGoes", fn := fun _ => fun
  | [d1, d2, d3, d4, d5] => { results := [.lit (.bool false)], args := [d1, d2, d3, d4, d5] }
  | _ => none }
def GridGoesWrongFalsely : Prop := gridGoesRow.holds Tryd.pinned (OpenSpec.ofChange gridGoesWrong)

/-- 'backseatlaw06.GridStays': WHATEVER THE INPUT: true; the input reads as it did. -/
def gridStaysSpec : ChangeSpec := { name := "gridStays", fn := fun _ => fun
  | [d1, d2, d3, d4, d5, d6] => { results := [.lit (.bool true)], args := [d1, d2, d3, d4, d5, d6] }
  | _ => none }
def gridStaysRow : OpenClaim := { program := "ytdpicbfpjnampaadoor", sum := "4983dd2b04baedb688b0b883888696b5ebee6088286952fbd72ecffe0f2e947a", func := "backseat/backseatlaw06.GridStays", spec := "gridStays", inPlace := ["slices.overlaps[backseat/api.Line]"], unfollowed := true, recurses := true, named := ["backseat/utf.letters", "backseat/utf.widths"], apart := false, laid := [("backseat/utf.letters", laid_backseat_utf_letters), ("backseat/utf.widths", laid_backseat_utf_widths)] }
def GridStaysSaid : Prop := gridStaysRow.holds Tryd.pinned (OpenSpec.ofChange gridStaysSpec)

/-- ITS FALSE NEIGHBOUR: 'it returns false'. Refute it at one input. -/
def gridStaysWrong : ChangeSpec := { name := "gridStays", fn := fun _ => fun
  | [d1, d2, d3, d4, d5, d6] => { results := [.lit (.bool false)], args := [d1, d2, d3, d4, d5, d6] }
  | _ => none }
def GridStaysWrongFalsely : Prop := gridStaysRow.holds Tryd.pinned (OpenSpec.ofChange gridStaysWrong)

/-- 'backseatlaw07.BackKeeps': WHATEVER THE INPUT: true; the input reads as it did. -/
def backKeepsSpec : ChangeSpec := { name := "backKeeps", fn := fun _ => fun
  | [d1, d2, d3] => { results := [.lit (.bool true)], args := [d1, d2, d3] }
  | _ => none }
def backKeepsRow : OpenClaim := { program := "ytdpicbfpjnampaadoor", sum := "4983dd2b04baedb688b0b883888696b5ebee6088286952fbd72ecffe0f2e947a", func := "backseat/backseatlaw07.BackKeeps", spec := "backKeeps", unfollowed := true, recurses := true, named := ["backseat/utf.letters", "backseat/utf.widths"], apart := false, laid := [("backseat/utf.letters", laid_backseat_utf_letters), ("backseat/utf.widths", laid_backseat_utf_widths)] }
def BackKeepsSaid : Prop := backKeepsRow.holds Tryd.pinned (OpenSpec.ofChange backKeepsSpec)

/-- ITS FALSE NEIGHBOUR: 'it returns false'. Refute it at one input. -/
def backKeepsWrong : ChangeSpec := { name := "backKeeps", fn := fun _ => fun
  | [d1, d2, d3] => { results := [.lit (.bool false)], args := [d1, d2, d3] }
  | _ => none }
def BackKeepsWrongFalsely : Prop := backKeepsRow.holds Tryd.pinned (OpenSpec.ofChange backKeepsWrong)

/-- 'backseatlaw07.BackParts': WHATEVER THE INPUT: true; the input reads as it did. -/
def backPartsSpec : ChangeSpec := { name := "backParts", fn := fun _ => fun
  | [d1, d2, d3] => { results := [.lit (.bool true)], args := [d1, d2, d3] }
  | _ => none }
def backPartsRow : OpenClaim := { program := "ytdpicbfpjnampaadoor", sum := "4983dd2b04baedb688b0b883888696b5ebee6088286952fbd72ecffe0f2e947a", func := "backseat/backseatlaw07.BackParts", spec := "backParts", unfollowed := true, recurses := true, named := ["backseat/utf.letters", "backseat/utf.widths"], apart := false, laid := [("backseat/utf.letters", laid_backseat_utf_letters), ("backseat/utf.widths", laid_backseat_utf_widths)] }
def BackPartsSaid : Prop := backPartsRow.holds Tryd.pinned (OpenSpec.ofChange backPartsSpec)

/-- ITS FALSE NEIGHBOUR: 'it returns false'. Refute it at one input. -/
def backPartsWrong : ChangeSpec := { name := "backParts", fn := fun _ => fun
  | [d1, d2, d3] => { results := [.lit (.bool false)], args := [d1, d2, d3] }
  | _ => none }
def BackPartsWrongFalsely : Prop := backPartsRow.holds Tryd.pinned (OpenSpec.ofChange backPartsWrong)

/- THE SECOND FORM. 'bulk': how many values and letters a reading holds, each counted each time it is reached (what is shared counts as often as it is met; a slice's spare places count too). A statement '..UptoSaid' is the law's where the arguments, and the package variables that the reading takes, are together of bulk at most 1048576: NARROWER than '..Said'. Prove '..Said' where nothing that the law and all that it calls make is longer than what came in: it says more and counts as full. Else prove '..UptoSaid'. A law counts once. -/
mutual
def uptoBulk {H : Type} : DataW H → Nat
  | .lit (.string bytes) => bytes.length + 1
  | .lit _ => 1
  | .nil => 1
  | .ptr d => uptoBulk d + 1
  | .slice elems spare => uptoBulkAll elems + uptoBulkAll spare + 1
  | .agg parts => uptoBulkAll parts + 1
  | .iface _ d => uptoBulk d + 1
  | .map entries => uptoBulkEntries entries + 1
  | .held _ => 1
def uptoBulkAll {H : Type} : List (DataW H) → Nat
  | [] => 0
  | d :: r => uptoBulk d + uptoBulkAll r
def uptoBulkEntries {H : Type} : List (Lit × DataW H) → Nat
  | [] => 0
  | x :: r => uptoBulkEntry x + uptoBulkEntries r
def uptoBulkEntry {H : Type} : Lit × DataW H → Nat
  | (.string bytes, d) => bytes.length + uptoBulk d + 1
  | (_, d) => uptoBulk d + 1
 end
def uptoSmall : (H : Type) → List (DataW H) → Bool := fun _ ds => decide (uptoBulkAll ds ≤ 1048576)
def OpenSpec.upto (s : _root_.Go.ChangeSpec) : _root_.Go.OpenSpec := { _root_.Go.OpenSpec.ofChange s with cond := some uptoSmall }

/-- 'backseatlaw06.GridPuts', WHERE WHAT IT READS IS OF BULK AT MOST 1048576: true; the input reads as it did. -/
def gridPutsUptoRow : OpenClaim := { program := "ytdpicbfpjnampaadoor", sum := "4983dd2b04baedb688b0b883888696b5ebee6088286952fbd72ecffe0f2e947a", func := "backseat/backseatlaw06.GridPuts", spec := "gridPuts", unfollowed := true, recurses := true, named := ["backseat/utf.letters", "backseat/utf.widths"], apart := false, laid := [("backseat/utf.letters", laid_backseat_utf_letters), ("backseat/utf.widths", laid_backseat_utf_widths)], narrowed := true }
def GridPutsUptoSaid : Prop := gridPutsUptoRow.holds Tryd.pinned (OpenSpec.upto gridPutsSpec)

/-- 'backseatlaw06.GridGoes', WHERE WHAT IT READS IS OF BULK AT MOST 1048576: true; the input reads as it did. -/
def gridGoesUptoRow : OpenClaim := { program := "ytdpicbfpjnampaadoor", sum := "4983dd2b04baedb688b0b883888696b5ebee6088286952fbd72ecffe0f2e947a", func := "backseat/backseatlaw06.GridGoes", spec := "gridGoes", inPlace := ["slices.overlaps[backseat/api.Line]"], unfollowed := true, recurses := true, named := ["backseat/utf.letters", "backseat/utf.widths"], apart := false, laid := [("backseat/utf.letters", laid_backseat_utf_letters), ("backseat/utf.widths", laid_backseat_utf_widths)], narrowed := true }
def GridGoesUptoSaid : Prop := gridGoesUptoRow.holds Tryd.pinned (OpenSpec.upto gridGoesSpec)

/-- 'backseatlaw06.GridStays', WHERE WHAT IT READS IS OF BULK AT MOST 1048576: true; the input reads as it did. -/
def gridStaysUptoRow : OpenClaim := { program := "ytdpicbfpjnampaadoor", sum := "4983dd2b04baedb688b0b883888696b5ebee6088286952fbd72ecffe0f2e947a", func := "backseat/backseatlaw06.GridStays", spec := "gridStays", inPlace := ["slices.overlaps[backseat/api.Line]"], unfollowed := true, recurses := true, named := ["backseat/utf.letters", "backseat/utf.widths"], apart := false, laid := [("backseat/utf.letters", laid_backseat_utf_letters), ("backseat/utf.widths", laid_backseat_utf_widths)], narrowed := true }
def GridStaysUptoSaid : Prop := gridStaysUptoRow.holds Tryd.pinned (OpenSpec.upto gridStaysSpec)

/-- 'backseatlaw07.BackKeeps', WHERE WHAT IT READS IS OF BULK AT MOST 1048576: true; the input reads as it did. -/
def backKeepsUptoRow : OpenClaim := { program := "ytdpicbfpjnampaadoor", sum := "4983dd2b04baedb688b0b883888696b5ebee6088286952fbd72ecffe0f2e947a", func := "backseat/backseatlaw07.BackKeeps", spec := "backKeeps", unfollowed := true, recurses := true, named := ["backseat/utf.letters", "backseat/utf.widths"], apart := false, laid := [("backseat/utf.letters", laid_backseat_utf_letters), ("backseat/utf.widths", laid_backseat_utf_widths)], narrowed := true }
def BackKeepsUptoSaid : Prop := backKeepsUptoRow.holds Tryd.pinned (OpenSpec.upto backKeepsSpec)

/-- 'backseatlaw07.BackParts', WHERE WHAT IT READS IS OF BULK AT MOST 1048576: true; the input reads as it did. -/
def backPartsUptoRow : OpenClaim := { program := "ytdpicbfpjnampaadoor", sum := "4983dd2b04baedb688b0b883888696b5ebee6088286952fbd72ecffe0f2e947a", func := "backseat/backseatlaw07.BackParts", spec := "backParts", unfollowed := true, recurses := true, named := ["backseat/utf.letters", "backseat/utf.widths"], apart := false, laid := [("backseat/utf.letters", laid_backseat_utf_letters), ("backseat/utf.widths", laid_backseat_utf_widths)], narrowed := true }
def BackPartsUptoSaid : Prop := backPartsUptoRow.holds Tryd.pinned (OpenSpec.upto backPartsSpec)

end Rows
end Go.Proofs.YtdpicbfpjnampaaDoor
