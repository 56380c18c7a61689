/-
  DERIVED. GIVEN WITH THE SEED: THE CARDS: each row of YtdpicbfpjnampaaDoorRows.lean that lists a variable, with what it lists TIED to the program's text (the seventh form; the later family's looks); each row that meets fmt, with fmt's text TOLD by the authors' own Lean function (tested against real Go, not proved from fmt's source: count such statements apart). THE CARD IS WHAT COUNTS. Prove the row's statement (the work); the ties are given (YtdpicbfpjnampaaDoorTie.lean); close each card by the builder's one call (the guide's Derived/Test/ToyasCard.lean, 'card_holds'). Laid BY PROGRAM, IN A SANDBOX (cutbox-door.mjs). By AI agents, Wed Nov 11 2026. No macro, syntax, notation, axiom, sorry.
-/
import Derived.Test.YtdpicbfpjnampaaDoorRows
import GoSem.ClaimSeven
namespace Go.Proofs.YtdpicbfpjnampaaDoor
namespace Rows

/-- THE TIED CARD OF 'backseatlaw06.GridPuts'. -/
def gridPutsCard : Claim7 := { stood := { row := gridPutsRow, standIns := [], harness := (true, "41388c6ed4d7fd4bc41f3743d59db2afa8783cda8e348362c01179684d02f7e4"), looks := false }, kinds := [], alts := [], laidByText := true, laidKinds := [.data, .data], laidTests := true, laidLooks := .later }
def GridPutsCardSaid : Prop := Claim7.holds Tryd.pinned (.plain (OpenSpec.ofChange gridPutsSpec)) gridPutsCard

/-- THE TIED CARD OF 'backseatlaw06.GridGoes'. -/
def gridGoesCard : Claim7 := { stood := { row := gridGoesRow, standIns := [], harness := (true, "41388c6ed4d7fd4bc41f3743d59db2afa8783cda8e348362c01179684d02f7e4"), looks := false }, kinds := [], alts := [], laidByText := true, laidKinds := [.data, .data], laidTests := true, laidLooks := .later }
def GridGoesCardSaid : Prop := Claim7.holds Tryd.pinned (.plain (OpenSpec.ofChange gridGoesSpec)) gridGoesCard

/-- THE TIED CARD OF 'backseatlaw06.GridStays'. -/
def gridStaysCard : Claim7 := { stood := { row := gridStaysRow, standIns := [], harness := (true, "41388c6ed4d7fd4bc41f3743d59db2afa8783cda8e348362c01179684d02f7e4"), looks := false }, kinds := [], alts := [], laidByText := true, laidKinds := [.data, .data], laidTests := true, laidLooks := .later }
def GridStaysCardSaid : Prop := Claim7.holds Tryd.pinned (.plain (OpenSpec.ofChange gridStaysSpec)) gridStaysCard

/-- THE TIED CARD OF 'backseatlaw07.BackKeeps'. -/
def backKeepsCard : Claim7 := { stood := { row := backKeepsRow, standIns := [], harness := (true, "41388c6ed4d7fd4bc41f3743d59db2afa8783cda8e348362c01179684d02f7e4"), looks := false }, kinds := [], alts := [], laidByText := true, laidKinds := [.data, .data], laidTests := true, laidLooks := .later }
def BackKeepsCardSaid : Prop := Claim7.holds Tryd.pinned (.plain (OpenSpec.ofChange backKeepsSpec)) backKeepsCard

/-- THE TIED CARD OF 'backseatlaw07.BackParts'. -/
def backPartsCard : Claim7 := { stood := { row := backPartsRow, standIns := [], harness := (true, "41388c6ed4d7fd4bc41f3743d59db2afa8783cda8e348362c01179684d02f7e4"), looks := false }, kinds := [], alts := [], laidByText := true, laidKinds := [.data, .data], laidTests := true, laidLooks := .later }
def BackPartsCardSaid : Prop := Claim7.holds Tryd.pinned (.plain (OpenSpec.ofChange backPartsSpec)) backPartsCard

/-- THE SECOND FORM's CARD OF 'backseatlaw06.GridPuts'. -/
def gridPutsUptoCard : Claim7 := { stood := { row := gridPutsUptoRow, standIns := [], harness := (true, "41388c6ed4d7fd4bc41f3743d59db2afa8783cda8e348362c01179684d02f7e4"), looks := false }, kinds := [], alts := [], laidByText := true, laidKinds := [.data, .data], laidTests := true, laidLooks := .later }
def GridPutsUptoCardSaid : Prop := Claim7.holds Tryd.pinned (.plain (OpenSpec.upto gridPutsSpec)) gridPutsUptoCard

/-- THE SECOND FORM's CARD OF 'backseatlaw06.GridGoes'. -/
def gridGoesUptoCard : Claim7 := { stood := { row := gridGoesUptoRow, standIns := [], harness := (true, "41388c6ed4d7fd4bc41f3743d59db2afa8783cda8e348362c01179684d02f7e4"), looks := false }, kinds := [], alts := [], laidByText := true, laidKinds := [.data, .data], laidTests := true, laidLooks := .later }
def GridGoesUptoCardSaid : Prop := Claim7.holds Tryd.pinned (.plain (OpenSpec.upto gridGoesSpec)) gridGoesUptoCard

/-- THE SECOND FORM's CARD OF 'backseatlaw06.GridStays'. -/
def gridStaysUptoCard : Claim7 := { stood := { row := gridStaysUptoRow, standIns := [], harness := (true, "41388c6ed4d7fd4bc41f3743d59db2afa8783cda8e348362c01179684d02f7e4"), looks := false }, kinds := [], alts := [], laidByText := true, laidKinds := [.data, .data], laidTests := true, laidLooks := .later }
def GridStaysUptoCardSaid : Prop := Claim7.holds Tryd.pinned (.plain (OpenSpec.upto gridStaysSpec)) gridStaysUptoCard

/-- THE SECOND FORM's CARD OF 'backseatlaw07.BackKeeps'. -/
def backKeepsUptoCard : Claim7 := { stood := { row := backKeepsUptoRow, standIns := [], harness := (true, "41388c6ed4d7fd4bc41f3743d59db2afa8783cda8e348362c01179684d02f7e4"), looks := false }, kinds := [], alts := [], laidByText := true, laidKinds := [.data, .data], laidTests := true, laidLooks := .later }
def BackKeepsUptoCardSaid : Prop := Claim7.holds Tryd.pinned (.plain (OpenSpec.upto backKeepsSpec)) backKeepsUptoCard

/-- THE SECOND FORM's CARD OF 'backseatlaw07.BackParts'. -/
def backPartsUptoCard : Claim7 := { stood := { row := backPartsUptoRow, standIns := [], harness := (true, "41388c6ed4d7fd4bc41f3743d59db2afa8783cda8e348362c01179684d02f7e4"), looks := false }, kinds := [], alts := [], laidByText := true, laidKinds := [.data, .data], laidTests := true, laidLooks := .later }
def BackPartsUptoCardSaid : Prop := Claim7.holds Tryd.pinned (.plain (OpenSpec.upto backPartsSpec)) backPartsUptoCard
end Rows
end Go.Proofs.YtdpicbfpjnampaaDoor
