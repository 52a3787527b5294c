/-
  DERIVED. GIVEN WITH THE SEED: THE CARDS: each row of YtgdoanhemgklpaaGreatDoorRows.lean that lists a variable, with what it lists TIED to the program's text (the seventh form; the later family's looks); each row that meets fmt, with fmt's text TOLD by the authors' own Lean function (tested against real Go, not proved from fmt's source: count such statements apart). THE CARD IS WHAT COUNTS. Prove the row's statement (the work); the ties are given (YtgdoanhemgklpaaGreatDoorTie.lean); close each card by the builder's one call (the guide's Derived/Test/ToyasCard.lean, 'card_holds'). Laid BY PROGRAM, IN A SANDBOX (cutbox-door.mjs). By AI agents, Wed Nov 11 2026. No macro, syntax, notation, axiom, sorry.
-/
import Derived.Test.YtgdoanhemgklpaaGreatDoorRows
import GoSem.ClaimSeven
namespace Go.Proofs.YtgdoanhemgklpaaGreatDoor
namespace Rows

/-- THE TIED CARD OF 'runglaw13.StBrackets'. -/
def stBracketsCard : Claim7 := { stood := { row := stBracketsRow, standIns := [], harness := (true, "c44a6d33be11c448b0a5323cfeaa49dbaf39cf074a8ea63de79ae273191604e0"), looks := true }, kinds := [], alts := [], laidByText := true, laidKinds := [.handle, .data, .data, .data, .data], laidTests := true, laidLooks := .later }
def StBracketsCardSaid : Prop := Claim7.holds Tryz.pinned (.plain (OpenSpec.ofChange stBracketsSpec)) stBracketsCard

/-- THE TIED CARD OF 'runglaw13.StDeep'. -/
def stDeepCard : Claim7 := { stood := { row := stDeepRow, standIns := [], harness := (true, "c44a6d33be11c448b0a5323cfeaa49dbaf39cf074a8ea63de79ae273191604e0"), looks := true }, kinds := [], alts := [], laidByText := true, laidKinds := [.handle, .data, .data, .data, .data], laidTests := true, laidLooks := .later }
def StDeepCardSaid : Prop := Claim7.holds Tryz.pinned (.plain (OpenSpec.ofChange stDeepSpec)) stDeepCard

/-- THE TIED CARD OF 'runglaw13.StCuts'. -/
def stCutsCard : Claim7 := { stood := { row := stCutsRow, standIns := [], harness := (true, "c44a6d33be11c448b0a5323cfeaa49dbaf39cf074a8ea63de79ae273191604e0"), looks := true }, kinds := [], alts := [], laidByText := true, laidKinds := [.handle, .data, .data, .data, .data], laidTests := true, laidLooks := .later }
def StCutsCardSaid : Prop := Claim7.holds Tryz.pinned (.plain (OpenSpec.ofChange stCutsSpec)) stCutsCard

/-- THE SECOND FORM's CARD OF 'runglaw13.StBrackets'. -/
def stBracketsUptoCard : Claim7 := { stood := { row := stBracketsUptoRow, standIns := [], harness := (true, "c44a6d33be11c448b0a5323cfeaa49dbaf39cf074a8ea63de79ae273191604e0"), looks := true }, kinds := [], alts := [], laidByText := true, laidKinds := [.handle, .data, .data, .data, .data], laidTests := true, laidLooks := .later }
def StBracketsUptoCardSaid : Prop := Claim7.holds Tryz.pinned (.plain (OpenSpec.upto stBracketsSpec)) stBracketsUptoCard

/-- THE SECOND FORM's CARD OF 'runglaw13.StDeep'. -/
def stDeepUptoCard : Claim7 := { stood := { row := stDeepUptoRow, standIns := [], harness := (true, "c44a6d33be11c448b0a5323cfeaa49dbaf39cf074a8ea63de79ae273191604e0"), looks := true }, kinds := [], alts := [], laidByText := true, laidKinds := [.handle, .data, .data, .data, .data], laidTests := true, laidLooks := .later }
def StDeepUptoCardSaid : Prop := Claim7.holds Tryz.pinned (.plain (OpenSpec.upto stDeepSpec)) stDeepUptoCard

/-- THE SECOND FORM's CARD OF 'runglaw13.StCuts'. -/
def stCutsUptoCard : Claim7 := { stood := { row := stCutsUptoRow, standIns := [], harness := (true, "c44a6d33be11c448b0a5323cfeaa49dbaf39cf074a8ea63de79ae273191604e0"), looks := true }, kinds := [], alts := [], laidByText := true, laidKinds := [.handle, .data, .data, .data, .data], laidTests := true, laidLooks := .later }
def StCutsUptoCardSaid : Prop := Claim7.holds Tryz.pinned (.plain (OpenSpec.upto stCutsSpec)) stCutsUptoCard
end Rows
end Go.Proofs.YtgdoanhemgklpaaGreatDoor
