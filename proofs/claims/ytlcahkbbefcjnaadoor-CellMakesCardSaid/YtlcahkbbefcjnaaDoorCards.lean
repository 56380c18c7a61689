/-
  DERIVED. GIVEN WITH THE SEED: THE CARDS: each row of YtlcahkbbefcjnaaDoorRows.lean that lists a variable, with what it lists TIED to the program's text (the seventh form; the later family's looks); each row that meets fmt, with fmt's text TOLD by the authors' own Lean function (tested against real Go, not proved from fmt's source: count such statements apart). THE CARD IS WHAT COUNTS. Prove the row's statement (the work); the ties are given (YtlcahkbbefcjnaaDoorTie.lean); close each card by the builder's one call (the guide's Derived/Test/ToyasCard.lean, 'card_holds'). Laid BY PROGRAM, IN A SANDBOX (cutbox-door.mjs). By AI agents, Wed Nov 11 2026. No macro, syntax, notation, axiom, sorry.
-/
import Derived.Test.YtlcahkbbefcjnaaDoorRows
import GoSem.ClaimSeven
namespace Go.Proofs.YtlcahkbbefcjnaaDoor
namespace Rows

/-- THE TIED CARD OF 'backseatlaw03.KeysCuts'. -/
def keysCutsCard : Claim7 := { stood := { row := keysCutsRow, standIns := [], harness := (true, "dbf605ba3275b55a4e06189a840f965403ac38668db6415c30d8db79ab858201"), looks := false }, kinds := [], alts := [], laidByText := true, laidKinds := [.data, .data], laidTests := true, laidLooks := .later }
def KeysCutsCardSaid : Prop := Claim7.holds Tryd.pinned (.plain (OpenSpec.ofChange keysCutsSpec)) keysCutsCard

/-- THE TIED CARD OF 'backseatlaw04.CellMakes'. -/
def cellMakesCard : Claim7 := { stood := { row := cellMakesRow, standIns := [], harness := (true, "dbf605ba3275b55a4e06189a840f965403ac38668db6415c30d8db79ab858201"), looks := false }, kinds := [], alts := [], laidByText := true, laidKinds := [.data, .data], laidTests := true, laidLooks := .later }
def CellMakesCardSaid : Prop := Claim7.holds Tryd.pinned (.plain (OpenSpec.ofChange cellMakesSpec)) cellMakesCard

/-- THE TIED CARD OF 'backseatlaw04.CellMarks'. -/
def cellMarksCard : Claim7 := { stood := { row := cellMarksRow, standIns := [], harness := (true, "dbf605ba3275b55a4e06189a840f965403ac38668db6415c30d8db79ab858201"), looks := false }, kinds := [], alts := [], laidByText := true, laidKinds := [.data, .data], laidTests := true, laidLooks := .later }
def CellMarksCardSaid : Prop := Claim7.holds Tryd.pinned (.plain (OpenSpec.ofChange cellMarksSpec)) cellMarksCard

/-- THE SECOND FORM's CARD OF 'backseatlaw03.KeysCuts'. -/
def keysCutsUptoCard : Claim7 := { stood := { row := keysCutsUptoRow, standIns := [], harness := (true, "dbf605ba3275b55a4e06189a840f965403ac38668db6415c30d8db79ab858201"), looks := false }, kinds := [], alts := [], laidByText := true, laidKinds := [.data, .data], laidTests := true, laidLooks := .later }
def KeysCutsUptoCardSaid : Prop := Claim7.holds Tryd.pinned (.plain (OpenSpec.upto keysCutsSpec)) keysCutsUptoCard

/-- THE SECOND FORM's CARD OF 'backseatlaw04.CellMakes'. -/
def cellMakesUptoCard : Claim7 := { stood := { row := cellMakesUptoRow, standIns := [], harness := (true, "dbf605ba3275b55a4e06189a840f965403ac38668db6415c30d8db79ab858201"), looks := false }, kinds := [], alts := [], laidByText := true, laidKinds := [.data, .data], laidTests := true, laidLooks := .later }
def CellMakesUptoCardSaid : Prop := Claim7.holds Tryd.pinned (.plain (OpenSpec.upto cellMakesSpec)) cellMakesUptoCard

/-- THE SECOND FORM's CARD OF 'backseatlaw04.CellMarks'. -/
def cellMarksUptoCard : Claim7 := { stood := { row := cellMarksUptoRow, standIns := [], harness := (true, "dbf605ba3275b55a4e06189a840f965403ac38668db6415c30d8db79ab858201"), looks := false }, kinds := [], alts := [], laidByText := true, laidKinds := [.data, .data], laidTests := true, laidLooks := .later }
def CellMarksUptoCardSaid : Prop := Claim7.holds Tryd.pinned (.plain (OpenSpec.upto cellMarksSpec)) cellMarksUptoCard
end Rows
end Go.Proofs.YtlcahkbbefcjnaaDoor
