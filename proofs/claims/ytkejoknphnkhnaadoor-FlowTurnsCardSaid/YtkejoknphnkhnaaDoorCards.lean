/-
  DERIVED. GIVEN WITH THE SEED: THE CARDS: each row of YtkejoknphnkhnaaDoorRows.lean that lists a variable, with what it lists TIED to the program's text (the seventh form; the later family's looks); each row that meets fmt, with fmt's text TOLD by the authors' own Lean function (tested against real Go, not proved from fmt's source: count such statements apart). THE CARD IS WHAT COUNTS. Prove the row's statement (the work); the ties are given (YtkejoknphnkhnaaDoorTie.lean); close each card by the builder's one call (the guide's Derived/Test/ToyasCard.lean, 'card_holds'). Laid BY PROGRAM, IN A SANDBOX (cutbox-door.mjs). By AI agents, Wed Nov 11 2026. No macro, syntax, notation, axiom, sorry.
-/
import Derived.Test.YtkejoknphnkhnaaDoorRows
import GoSem.ClaimSeven
namespace Go.Proofs.YtkejoknphnkhnaaDoor
namespace Rows

/-- THE TIED CARD OF 'backseatlaw06.GridGoes'. -/
def gridGoesCard : Claim7 := { stood := { row := gridGoesRow, standIns := [], harness := (true, "cbffb65aa3f712d9ecd649cf56d5804c98f72583c3400a047fa7a203b1a165b3"), looks := false }, kinds := [], alts := [], laidByText := true, laidKinds := [.data, .data], laidTests := true, laidLooks := .later }
def GridGoesCardSaid : Prop := Claim7.holds Tryd.pinned (.plain (OpenSpec.ofChange gridGoesSpec)) gridGoesCard

/-- THE TIED CARD OF 'backseatlaw08.FlowJoins'. -/
def flowJoinsCard : Claim7 := { stood := { row := flowJoinsRow, standIns := [], harness := (true, "cbffb65aa3f712d9ecd649cf56d5804c98f72583c3400a047fa7a203b1a165b3"), looks := false }, kinds := [], alts := [], laidByText := true, laidKinds := [.data, .data], laidTests := true, laidLooks := .later }
def FlowJoinsCardSaid : Prop := Claim7.holds Tryd.pinned (.plain (OpenSpec.ofChange flowJoinsSpec)) flowJoinsCard

/-- THE TIED CARD OF 'backseatlaw08.FlowFolds'. -/
def flowFoldsCard : Claim7 := { stood := { row := flowFoldsRow, standIns := [], harness := (true, "cbffb65aa3f712d9ecd649cf56d5804c98f72583c3400a047fa7a203b1a165b3"), looks := false }, kinds := [], alts := [], laidByText := true, laidKinds := [.data, .data], laidTests := true, laidLooks := .later }
def FlowFoldsCardSaid : Prop := Claim7.holds Tryd.pinned (.plain (OpenSpec.ofChange flowFoldsSpec)) flowFoldsCard

/-- THE TIED CARD OF 'backseatlaw08.FlowTurns'. -/
def flowTurnsCard : Claim7 := { stood := { row := flowTurnsRow, standIns := [], harness := (true, "cbffb65aa3f712d9ecd649cf56d5804c98f72583c3400a047fa7a203b1a165b3"), looks := false }, kinds := [], alts := [], laidByText := true, laidKinds := [.data, .data], laidTests := true, laidLooks := .later }
def FlowTurnsCardSaid : Prop := Claim7.holds Tryd.pinned (.plain (OpenSpec.ofChange flowTurnsSpec)) flowTurnsCard

/-- THE SECOND FORM's CARD OF 'backseatlaw06.GridGoes'. -/
def gridGoesUptoCard : Claim7 := { stood := { row := gridGoesUptoRow, standIns := [], harness := (true, "cbffb65aa3f712d9ecd649cf56d5804c98f72583c3400a047fa7a203b1a165b3"), looks := false }, kinds := [], alts := [], laidByText := true, laidKinds := [.data, .data], laidTests := true, laidLooks := .later }
def GridGoesUptoCardSaid : Prop := Claim7.holds Tryd.pinned (.plain (OpenSpec.upto gridGoesSpec)) gridGoesUptoCard

/-- THE SECOND FORM's CARD OF 'backseatlaw08.FlowJoins'. -/
def flowJoinsUptoCard : Claim7 := { stood := { row := flowJoinsUptoRow, standIns := [], harness := (true, "cbffb65aa3f712d9ecd649cf56d5804c98f72583c3400a047fa7a203b1a165b3"), looks := false }, kinds := [], alts := [], laidByText := true, laidKinds := [.data, .data], laidTests := true, laidLooks := .later }
def FlowJoinsUptoCardSaid : Prop := Claim7.holds Tryd.pinned (.plain (OpenSpec.upto flowJoinsSpec)) flowJoinsUptoCard

/-- THE SECOND FORM's CARD OF 'backseatlaw08.FlowFolds'. -/
def flowFoldsUptoCard : Claim7 := { stood := { row := flowFoldsUptoRow, standIns := [], harness := (true, "cbffb65aa3f712d9ecd649cf56d5804c98f72583c3400a047fa7a203b1a165b3"), looks := false }, kinds := [], alts := [], laidByText := true, laidKinds := [.data, .data], laidTests := true, laidLooks := .later }
def FlowFoldsUptoCardSaid : Prop := Claim7.holds Tryd.pinned (.plain (OpenSpec.upto flowFoldsSpec)) flowFoldsUptoCard

/-- THE SECOND FORM's CARD OF 'backseatlaw08.FlowTurns'. -/
def flowTurnsUptoCard : Claim7 := { stood := { row := flowTurnsUptoRow, standIns := [], harness := (true, "cbffb65aa3f712d9ecd649cf56d5804c98f72583c3400a047fa7a203b1a165b3"), looks := false }, kinds := [], alts := [], laidByText := true, laidKinds := [.data, .data], laidTests := true, laidLooks := .later }
def FlowTurnsUptoCardSaid : Prop := Claim7.holds Tryd.pinned (.plain (OpenSpec.upto flowTurnsSpec)) flowTurnsUptoCard
end Rows
end Go.Proofs.YtkejoknphnkhnaaDoor
