/-
  DERIVED. GIVEN WITH THE SEED: THE CARDS: each row of YtpcpdbofbbpglaaDoorRows.lean that lists a variable, with what it lists TIED to the program's text (the seventh form; the later family's looks); each row that meets fmt, with fmt's text TOLD by the authors' own Lean function (tested against real Go, not proved from fmt's source: count such statements apart). THE CARD IS WHAT COUNTS. Prove the row's statement (the work); the ties are given (YtpcpdbofbbpglaaDoorTie.lean); close each card by the builder's one call (the guide's Derived/Test/ToyasCard.lean, 'card_holds'). Laid BY PROGRAM, IN A SANDBOX (cutbox-door.mjs). By AI agents, Wed Nov 11 2026. No macro, syntax, notation, axiom, sorry.
-/
import Derived.Test.YtpcpdbofbbpglaaDoorRows
import GoSem.ClaimSeven
namespace Go.Proofs.YtpcpdbofbbpglaaDoor
namespace Rows

/-- THE TIED CARD OF 'backseatlaw05.ParseCuts'. -/
def parseCutsCard : Claim7 := { stood := { row := parseCutsRow, standIns := [], harness := (true, "429b59c1c58a8246c887b4413c3ab8f55fdcaa0dfad37b2a2542a66e8b3033cb"), looks := false }, kinds := [], alts := [], laidByText := true, laidKinds := [.data], laidTests := true, laidLooks := .later }
def ParseCutsCardSaid : Prop := Claim7.holds Tryd.pinned (.plain (OpenSpec.ofChange parseCutsSpec)) parseCutsCard

/-- THE TIED CARD OF 'backseatlaw05.ParseLetters'. -/
def parseLettersCard : Claim7 := { stood := { row := parseLettersRow, standIns := [], harness := (true, "429b59c1c58a8246c887b4413c3ab8f55fdcaa0dfad37b2a2542a66e8b3033cb"), looks := false }, kinds := [], alts := [], laidByText := true, laidKinds := [.data], laidTests := true, laidLooks := .later }
def ParseLettersCardSaid : Prop := Claim7.holds Tryd.pinned (.plain (OpenSpec.ofChange parseLettersSpec)) parseLettersCard

/-- THE TIED CARD OF 'backseatlaw05.ParseEnds'. -/
def parseEndsCard : Claim7 := { stood := { row := parseEndsRow, standIns := [], harness := (true, "429b59c1c58a8246c887b4413c3ab8f55fdcaa0dfad37b2a2542a66e8b3033cb"), looks := false }, kinds := [], alts := [], laidByText := true, laidKinds := [.data], laidTests := true, laidLooks := .later }
def ParseEndsCardSaid : Prop := Claim7.holds Tryd.pinned (.plain (OpenSpec.ofChange parseEndsSpec)) parseEndsCard

/-- THE SECOND FORM's CARD OF 'backseatlaw05.ParseCuts'. -/
def parseCutsUptoCard : Claim7 := { stood := { row := parseCutsUptoRow, standIns := [], harness := (true, "429b59c1c58a8246c887b4413c3ab8f55fdcaa0dfad37b2a2542a66e8b3033cb"), looks := false }, kinds := [], alts := [], laidByText := true, laidKinds := [.data], laidTests := true, laidLooks := .later }
def ParseCutsUptoCardSaid : Prop := Claim7.holds Tryd.pinned (.plain (OpenSpec.upto parseCutsSpec)) parseCutsUptoCard

/-- THE SECOND FORM's CARD OF 'backseatlaw05.ParseLetters'. -/
def parseLettersUptoCard : Claim7 := { stood := { row := parseLettersUptoRow, standIns := [], harness := (true, "429b59c1c58a8246c887b4413c3ab8f55fdcaa0dfad37b2a2542a66e8b3033cb"), looks := false }, kinds := [], alts := [], laidByText := true, laidKinds := [.data], laidTests := true, laidLooks := .later }
def ParseLettersUptoCardSaid : Prop := Claim7.holds Tryd.pinned (.plain (OpenSpec.upto parseLettersSpec)) parseLettersUptoCard

/-- THE SECOND FORM's CARD OF 'backseatlaw05.ParseEnds'. -/
def parseEndsUptoCard : Claim7 := { stood := { row := parseEndsUptoRow, standIns := [], harness := (true, "429b59c1c58a8246c887b4413c3ab8f55fdcaa0dfad37b2a2542a66e8b3033cb"), looks := false }, kinds := [], alts := [], laidByText := true, laidKinds := [.data], laidTests := true, laidLooks := .later }
def ParseEndsUptoCardSaid : Prop := Claim7.holds Tryd.pinned (.plain (OpenSpec.upto parseEndsSpec)) parseEndsUptoCard
end Rows
end Go.Proofs.YtpcpdbofbbpglaaDoor
