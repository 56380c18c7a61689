/-
  DERIVED. GIVEN WITH THE SEED: THE CARDS: each row of YtokefclleoaagaaDoorRows.lean that lists a variable, with what it lists TIED to the program's text (the seventh form; the later family's looks); each row that meets fmt, with fmt's text TOLD by the authors' own Lean function (tested against real Go, not proved from fmt's source: count such statements apart). THE CARD IS WHAT COUNTS. Prove the row's statement (the work); the ties are given (YtokefclleoaagaaDoorTie.lean); close each card by the builder's one call (the guide's Derived/Test/ToyasCard.lean, 'card_holds'). Laid BY PROGRAM, IN A SANDBOX (cutbox-door.mjs). By AI agents, Wed Nov 11 2026. No macro, syntax, notation, axiom, sorry.
-/
import Derived.Test.YtokefclleoaagaaDoorRows
import GoSem.ClaimSeven
namespace Go.Proofs.YtokefclleoaagaaDoor
namespace Rows

/-- THE TIED CARD OF 'backseatlaw06.GridPuts'. -/
def gridPutsCard : Claim7 := { stood := { row := gridPutsRow, standIns := [], harness := (true, "1051a0cbffa9197adbf7fddd4cd60a212d203ce4dc80cc470deb8e3a32bcd242"), looks := false }, kinds := [], alts := [], laidByText := true, laidKinds := [.data, .data], laidTests := true, laidLooks := .later }
def GridPutsCardSaid : Prop := Claim7.holds Tryd.pinned (.plain (OpenSpec.ofChange gridPutsSpec)) gridPutsCard

/-- THE TIED CARD OF 'backseatlaw06.GridGoes'. -/
def gridGoesCard : Claim7 := { stood := { row := gridGoesRow, standIns := [], harness := (true, "1051a0cbffa9197adbf7fddd4cd60a212d203ce4dc80cc470deb8e3a32bcd242"), looks := false }, kinds := [], alts := [], laidByText := true, laidKinds := [.data, .data], laidTests := true, laidLooks := .later }
def GridGoesCardSaid : Prop := Claim7.holds Tryd.pinned (.plain (OpenSpec.ofChange gridGoesSpec)) gridGoesCard

/-- THE TIED CARD OF 'backseatlaw06.GridStays'. -/
def gridStaysCard : Claim7 := { stood := { row := gridStaysRow, standIns := [], harness := (true, "1051a0cbffa9197adbf7fddd4cd60a212d203ce4dc80cc470deb8e3a32bcd242"), looks := false }, kinds := [], alts := [], laidByText := true, laidKinds := [.data, .data], laidTests := true, laidLooks := .later }
def GridStaysCardSaid : Prop := Claim7.holds Tryd.pinned (.plain (OpenSpec.ofChange gridStaysSpec)) gridStaysCard

/-- THE TIED CARD OF 'backseatlaw06.GridMends'. -/
def gridMendsCard : Claim7 := { stood := { row := gridMendsRow, standIns := [], harness := (true, "1051a0cbffa9197adbf7fddd4cd60a212d203ce4dc80cc470deb8e3a32bcd242"), looks := false }, kinds := [], alts := [], laidByText := true, laidKinds := [.data, .data], laidTests := true, laidLooks := .later }
def GridMendsCardSaid : Prop := Claim7.holds Tryd.pinned (.plain (OpenSpec.ofChange gridMendsSpec)) gridMendsCard

/-- THE SECOND FORM's CARD OF 'backseatlaw06.GridPuts'. -/
def gridPutsUptoCard : Claim7 := { stood := { row := gridPutsUptoRow, standIns := [], harness := (true, "1051a0cbffa9197adbf7fddd4cd60a212d203ce4dc80cc470deb8e3a32bcd242"), looks := false }, kinds := [], alts := [], laidByText := true, laidKinds := [.data, .data], laidTests := true, laidLooks := .later }
def GridPutsUptoCardSaid : Prop := Claim7.holds Tryd.pinned (.plain (OpenSpec.upto gridPutsSpec)) gridPutsUptoCard

/-- THE SECOND FORM's CARD OF 'backseatlaw06.GridGoes'. -/
def gridGoesUptoCard : Claim7 := { stood := { row := gridGoesUptoRow, standIns := [], harness := (true, "1051a0cbffa9197adbf7fddd4cd60a212d203ce4dc80cc470deb8e3a32bcd242"), looks := false }, kinds := [], alts := [], laidByText := true, laidKinds := [.data, .data], laidTests := true, laidLooks := .later }
def GridGoesUptoCardSaid : Prop := Claim7.holds Tryd.pinned (.plain (OpenSpec.upto gridGoesSpec)) gridGoesUptoCard

/-- THE SECOND FORM's CARD OF 'backseatlaw06.GridStays'. -/
def gridStaysUptoCard : Claim7 := { stood := { row := gridStaysUptoRow, standIns := [], harness := (true, "1051a0cbffa9197adbf7fddd4cd60a212d203ce4dc80cc470deb8e3a32bcd242"), looks := false }, kinds := [], alts := [], laidByText := true, laidKinds := [.data, .data], laidTests := true, laidLooks := .later }
def GridStaysUptoCardSaid : Prop := Claim7.holds Tryd.pinned (.plain (OpenSpec.upto gridStaysSpec)) gridStaysUptoCard

/-- THE SECOND FORM's CARD OF 'backseatlaw06.GridMends'. -/
def gridMendsUptoCard : Claim7 := { stood := { row := gridMendsUptoRow, standIns := [], harness := (true, "1051a0cbffa9197adbf7fddd4cd60a212d203ce4dc80cc470deb8e3a32bcd242"), looks := false }, kinds := [], alts := [], laidByText := true, laidKinds := [.data, .data], laidTests := true, laidLooks := .later }
def GridMendsUptoCardSaid : Prop := Claim7.holds Tryd.pinned (.plain (OpenSpec.upto gridMendsSpec)) gridMendsUptoCard
end Rows
end Go.Proofs.YtokefclleoaagaaDoor
