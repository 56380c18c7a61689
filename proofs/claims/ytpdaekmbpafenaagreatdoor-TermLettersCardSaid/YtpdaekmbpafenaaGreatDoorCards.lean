/-
  DERIVED. GIVEN WITH THE SEED: THE CARDS: each row of YtpdaekmbpafenaaGreatDoorRows.lean that lists a variable, with what it lists TIED to the program's text (the seventh form; the later family's looks); each row that meets fmt, with fmt's text TOLD by the authors' own Lean function (tested against real Go, not proved from fmt's source: count such statements apart). THE CARD IS WHAT COUNTS. Prove the row's statement (the work); the ties are given (YtpdaekmbpafenaaGreatDoorTie.lean); close each card by the builder's one call (the guide's Derived/Test/ToyasCard.lean, 'card_holds'). Laid BY PROGRAM, IN A SANDBOX (cutbox-door.mjs). By AI agents, Wed Nov 11 2026. No macro, syntax, notation, axiom, sorry.
-/
import Derived.Test.YtpdaekmbpafenaaGreatDoorRows
import GoSem.ClaimSeven
namespace Go.Proofs.YtpdaekmbpafenaaGreatDoor
namespace Rows

/-- THE TIED CARD OF 'backseatlaw09.TermSizes'. -/
def termSizesCard : Claim7 := { stood := { row := termSizesRow, standIns := [], harness := (true, "4f114dfb41826152cd93d176489cf8067fe29dd728914f456b95f39294512777"), looks := false }, kinds := [], alts := [], laidByText := true, laidKinds := [.data, .data], laidTests := true, laidLooks := .later }
def TermSizesCardSaid : Prop := Claim7.holds Tryz.pinned (.plain (OpenSpec.ofChange termSizesSpec)) termSizesCard

/-- THE TIED CARD OF 'backseatlaw09.TermStays'. -/
def termStaysCard : Claim7 := { stood := { row := termStaysRow, standIns := [], harness := (true, "4f114dfb41826152cd93d176489cf8067fe29dd728914f456b95f39294512777"), looks := false }, kinds := [], alts := [], laidByText := true, laidKinds := [.data, .data], laidTests := true, laidLooks := .later }
def TermStaysCardSaid : Prop := Claim7.holds Tryz.pinned (.plain (OpenSpec.ofChange termStaysSpec)) termStaysCard

/-- THE TIED CARD OF 'backseatlaw09.TermLetters'. -/
def termLettersCard : Claim7 := { stood := { row := termLettersRow, standIns := [], harness := (true, "4f114dfb41826152cd93d176489cf8067fe29dd728914f456b95f39294512777"), looks := false }, kinds := [], alts := [], laidByText := true, laidKinds := [.data, .data], laidTests := true, laidLooks := .later }
def TermLettersCardSaid : Prop := Claim7.holds Tryz.pinned (.plain (OpenSpec.ofChange termLettersSpec)) termLettersCard

/-- THE TIED CARD OF 'backseatlaw09.TermSaves'. -/
def termSavesCard : Claim7 := { stood := { row := termSavesRow, standIns := [], harness := (true, "4f114dfb41826152cd93d176489cf8067fe29dd728914f456b95f39294512777"), looks := false }, kinds := [], alts := [], laidByText := true, laidKinds := [.data, .data], laidTests := true, laidLooks := .later }
def TermSavesCardSaid : Prop := Claim7.holds Tryz.pinned (.plain (OpenSpec.ofChange termSavesSpec)) termSavesCard

/-- THE SECOND FORM's CARD OF 'backseatlaw09.TermSizes'. -/
def termSizesUptoCard : Claim7 := { stood := { row := termSizesUptoRow, standIns := [], harness := (true, "4f114dfb41826152cd93d176489cf8067fe29dd728914f456b95f39294512777"), looks := false }, kinds := [], alts := [], laidByText := true, laidKinds := [.data, .data], laidTests := true, laidLooks := .later }
def TermSizesUptoCardSaid : Prop := Claim7.holds Tryz.pinned (.plain (OpenSpec.upto termSizesSpec)) termSizesUptoCard

/-- THE SECOND FORM's CARD OF 'backseatlaw09.TermStays'. -/
def termStaysUptoCard : Claim7 := { stood := { row := termStaysUptoRow, standIns := [], harness := (true, "4f114dfb41826152cd93d176489cf8067fe29dd728914f456b95f39294512777"), looks := false }, kinds := [], alts := [], laidByText := true, laidKinds := [.data, .data], laidTests := true, laidLooks := .later }
def TermStaysUptoCardSaid : Prop := Claim7.holds Tryz.pinned (.plain (OpenSpec.upto termStaysSpec)) termStaysUptoCard

/-- THE SECOND FORM's CARD OF 'backseatlaw09.TermLetters'. -/
def termLettersUptoCard : Claim7 := { stood := { row := termLettersUptoRow, standIns := [], harness := (true, "4f114dfb41826152cd93d176489cf8067fe29dd728914f456b95f39294512777"), looks := false }, kinds := [], alts := [], laidByText := true, laidKinds := [.data, .data], laidTests := true, laidLooks := .later }
def TermLettersUptoCardSaid : Prop := Claim7.holds Tryz.pinned (.plain (OpenSpec.upto termLettersSpec)) termLettersUptoCard

/-- THE SECOND FORM's CARD OF 'backseatlaw09.TermSaves'. -/
def termSavesUptoCard : Claim7 := { stood := { row := termSavesUptoRow, standIns := [], harness := (true, "4f114dfb41826152cd93d176489cf8067fe29dd728914f456b95f39294512777"), looks := false }, kinds := [], alts := [], laidByText := true, laidKinds := [.data, .data], laidTests := true, laidLooks := .later }
def TermSavesUptoCardSaid : Prop := Claim7.holds Tryz.pinned (.plain (OpenSpec.upto termSavesSpec)) termSavesUptoCard
end Rows
end Go.Proofs.YtpdaekmbpafenaaGreatDoor
