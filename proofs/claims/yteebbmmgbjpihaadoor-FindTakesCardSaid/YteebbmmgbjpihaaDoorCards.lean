/-
  DERIVED. GIVEN WITH THE SEED: THE CARDS: each row of YteebbmmgbjpihaaDoorRows.lean that lists a variable, with what it lists TIED to the program's text (the seventh form; the later family's looks); each row that meets fmt, with fmt's text TOLD by the authors' own Lean function (tested against real Go, not proved from fmt's source: count such statements apart). THE CARD IS WHAT COUNTS. Prove the row's statement (the work); the ties are given (YteebbmmgbjpihaaDoorTie.lean); close each card by the builder's one call (the guide's Derived/Test/ToyasCard.lean, 'card_holds'). Laid BY PROGRAM, IN A SANDBOX (cutbox-door.mjs). By AI agents, Wed Nov 11 2026. No macro, syntax, notation, axiom, sorry.
-/
import Derived.Test.YteebbmmgbjpihaaDoorRows
import GoSem.ClaimSeven
namespace Go.Proofs.YteebbmmgbjpihaaDoor
namespace Rows

/-- THE TIED CARD OF 'backseatlaw10.FindLooks'. -/
def findLooksCard : Claim7 := { stood := { row := findLooksRow, standIns := [], harness := (true, "4c71ad48bf57c330dc5e3f632366a4c7d001c16ef2d7c3ffaeac21c3a451f0cd"), looks := false }, kinds := [], alts := [], laidByText := true, laidKinds := [.data, .data], laidTests := true, laidLooks := .later }
def FindLooksCardSaid : Prop := Claim7.holds Tryd.pinned (.plain (OpenSpec.ofChange findLooksSpec)) findLooksCard

/-- THE TIED CARD OF 'backseatlaw10.FindTakes'. -/
def findTakesCard : Claim7 := { stood := { row := findTakesRow, standIns := [], harness := (true, "4c71ad48bf57c330dc5e3f632366a4c7d001c16ef2d7c3ffaeac21c3a451f0cd"), looks := false }, kinds := [], alts := [], laidByText := true, laidKinds := [.data, .data, .data, .pinned], laidTests := true, laidLooks := .later }
def FindTakesCardSaid : Prop := Claim7.holds Tryd.pinned (.plain (OpenSpec.ofChange findTakesSpec)) findTakesCard

/-- THE TIED CARD OF 'backseatlaw10.FindBack'. -/
def findBackCard : Claim7 := { stood := { row := findBackRow, standIns := [], harness := (true, "4c71ad48bf57c330dc5e3f632366a4c7d001c16ef2d7c3ffaeac21c3a451f0cd"), looks := false }, kinds := [], alts := [], laidByText := true, laidKinds := [.data, .data], laidTests := true, laidLooks := .later }
def FindBackCardSaid : Prop := Claim7.holds Tryd.pinned (.plain (OpenSpec.ofChange findBackSpec)) findBackCard

/-- THE SECOND FORM's CARD OF 'backseatlaw10.FindLooks'. -/
def findLooksUptoCard : Claim7 := { stood := { row := findLooksUptoRow, standIns := [], harness := (true, "4c71ad48bf57c330dc5e3f632366a4c7d001c16ef2d7c3ffaeac21c3a451f0cd"), looks := false }, kinds := [], alts := [], laidByText := true, laidKinds := [.data, .data], laidTests := true, laidLooks := .later }
def FindLooksUptoCardSaid : Prop := Claim7.holds Tryd.pinned (.plain (OpenSpec.upto findLooksSpec)) findLooksUptoCard

/-- THE SECOND FORM's CARD OF 'backseatlaw10.FindTakes'. -/
def findTakesUptoCard : Claim7 := { stood := { row := findTakesUptoRow, standIns := [], harness := (true, "4c71ad48bf57c330dc5e3f632366a4c7d001c16ef2d7c3ffaeac21c3a451f0cd"), looks := false }, kinds := [], alts := [], laidByText := true, laidKinds := [.data, .data, .data, .pinned], laidTests := true, laidLooks := .later }
def FindTakesUptoCardSaid : Prop := Claim7.holds Tryd.pinned (.plain (OpenSpec.upto findTakesSpec)) findTakesUptoCard

/-- THE SECOND FORM's CARD OF 'backseatlaw10.FindBack'. -/
def findBackUptoCard : Claim7 := { stood := { row := findBackUptoRow, standIns := [], harness := (true, "4c71ad48bf57c330dc5e3f632366a4c7d001c16ef2d7c3ffaeac21c3a451f0cd"), looks := false }, kinds := [], alts := [], laidByText := true, laidKinds := [.data, .data], laidTests := true, laidLooks := .later }
def FindBackUptoCardSaid : Prop := Claim7.holds Tryd.pinned (.plain (OpenSpec.upto findBackSpec)) findBackUptoCard
end Rows
end Go.Proofs.YteebbmmgbjpihaaDoor
