/-
  DERIVED. GIVEN WITH THE SEED: THE CARDS: each row of YtdokdcbfgogbbaaDoorRows.lean that lists a variable, with what it lists TIED to the program's text (the seventh form; the later family's looks); each row that meets fmt, with fmt's text TOLD by the authors' own Lean function (tested against real Go, not proved from fmt's source: count such statements apart). THE CARD IS WHAT COUNTS. Prove the row's statement (the work); the ties are given (YtdokdcbfgogbbaaDoorTie.lean); close each card by the builder's one call (the guide's Derived/Test/ToyasCard.lean, 'card_holds'). Laid BY PROGRAM, IN A SANDBOX (cutbox-door.mjs). By AI agents, Wed Nov 11 2026. No macro, syntax, notation, axiom, sorry.
-/
import Derived.Test.YtdokdcbfgogbbaaDoorRows
import GoSem.ClaimSeven
namespace Go.Proofs.YtdokdcbfgogbbaaDoor
namespace Rows

/-- THE TIED CARD OF 'backseatlaw01.UtfWrites'. -/
def utfWritesCard : Claim7 := { stood := { row := utfWritesRow, standIns := [], harness := (true, "355afd757f8fcb1f8f13207e84fdbd0aef099d2a952f188e65ab3aa36736440e"), looks := false }, kinds := [], alts := [], laidByText := true, laidKinds := [.data, .data], laidTests := true, laidLooks := .later }
def UtfWritesCardSaid : Prop := Claim7.holds Tryd.pinned (.plain (OpenSpec.ofChange utfWritesSpec)) utfWritesCard

/-- THE TIED CARD OF 'backseatlaw01.UtfReads'. -/
def utfReadsCard : Claim7 := { stood := { row := utfReadsRow, standIns := [], harness := (true, "355afd757f8fcb1f8f13207e84fdbd0aef099d2a952f188e65ab3aa36736440e"), looks := false }, kinds := [], alts := [], laidByText := true, laidKinds := [.data], laidTests := true, laidLooks := .later }
def UtfReadsCardSaid : Prop := Claim7.holds Tryd.pinned (.plain (OpenSpec.ofChange utfReadsSpec)) utfReadsCard

/-- THE TIED CARD OF 'backseatlaw01.UtfBack'. -/
def utfBackCard : Claim7 := { stood := { row := utfBackRow, standIns := [], harness := (true, "355afd757f8fcb1f8f13207e84fdbd0aef099d2a952f188e65ab3aa36736440e"), looks := false }, kinds := [], alts := [], laidByText := true, laidKinds := [.data], laidTests := true, laidLooks := .later }
def UtfBackCardSaid : Prop := Claim7.holds Tryd.pinned (.plain (OpenSpec.ofChange utfBackSpec)) utfBackCard

/-- THE TIED CARD OF 'backseatlaw01.UtfGoes'. -/
def utfGoesCard : Claim7 := { stood := { row := utfGoesRow, standIns := [], harness := (true, "355afd757f8fcb1f8f13207e84fdbd0aef099d2a952f188e65ab3aa36736440e"), looks := false }, kinds := [], alts := [], laidByText := true, laidKinds := [.data], laidTests := true, laidLooks := .later }
def UtfGoesCardSaid : Prop := Claim7.holds Tryd.pinned (.plain (OpenSpec.ofChange utfGoesSpec)) utfGoesCard

/-- THE SECOND FORM's CARD OF 'backseatlaw01.UtfWrites'. -/
def utfWritesUptoCard : Claim7 := { stood := { row := utfWritesUptoRow, standIns := [], harness := (true, "355afd757f8fcb1f8f13207e84fdbd0aef099d2a952f188e65ab3aa36736440e"), looks := false }, kinds := [], alts := [], laidByText := true, laidKinds := [.data, .data], laidTests := true, laidLooks := .later }
def UtfWritesUptoCardSaid : Prop := Claim7.holds Tryd.pinned (.plain (OpenSpec.upto utfWritesSpec)) utfWritesUptoCard

/-- THE SECOND FORM's CARD OF 'backseatlaw01.UtfReads'. -/
def utfReadsUptoCard : Claim7 := { stood := { row := utfReadsUptoRow, standIns := [], harness := (true, "355afd757f8fcb1f8f13207e84fdbd0aef099d2a952f188e65ab3aa36736440e"), looks := false }, kinds := [], alts := [], laidByText := true, laidKinds := [.data], laidTests := true, laidLooks := .later }
def UtfReadsUptoCardSaid : Prop := Claim7.holds Tryd.pinned (.plain (OpenSpec.upto utfReadsSpec)) utfReadsUptoCard

/-- THE SECOND FORM's CARD OF 'backseatlaw01.UtfBack'. -/
def utfBackUptoCard : Claim7 := { stood := { row := utfBackUptoRow, standIns := [], harness := (true, "355afd757f8fcb1f8f13207e84fdbd0aef099d2a952f188e65ab3aa36736440e"), looks := false }, kinds := [], alts := [], laidByText := true, laidKinds := [.data], laidTests := true, laidLooks := .later }
def UtfBackUptoCardSaid : Prop := Claim7.holds Tryd.pinned (.plain (OpenSpec.upto utfBackSpec)) utfBackUptoCard

/-- THE SECOND FORM's CARD OF 'backseatlaw01.UtfGoes'. -/
def utfGoesUptoCard : Claim7 := { stood := { row := utfGoesUptoRow, standIns := [], harness := (true, "355afd757f8fcb1f8f13207e84fdbd0aef099d2a952f188e65ab3aa36736440e"), looks := false }, kinds := [], alts := [], laidByText := true, laidKinds := [.data], laidTests := true, laidLooks := .later }
def UtfGoesUptoCardSaid : Prop := Claim7.holds Tryd.pinned (.plain (OpenSpec.upto utfGoesSpec)) utfGoesUptoCard
end Rows
end Go.Proofs.YtdokdcbfgogbbaaDoor
