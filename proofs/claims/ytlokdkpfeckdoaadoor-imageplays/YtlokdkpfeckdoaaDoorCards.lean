/-
  DERIVED. GIVEN WITH THE SEED: THE CARDS: each row of YtlokdkpfeckdoaaDoorRows.lean that lists a variable, with what it lists TIED to the program's text (the seventh form; the later family's looks); each row that meets fmt, with fmt's text TOLD by the authors' own Lean function (tested against real Go, not proved from fmt's source: count such statements apart). THE CARD IS WHAT COUNTS. Prove the row's statement (the work); the ties are given (YtlokdkpfeckdoaaDoorTie.lean); close each card by the builder's one call (the guide's Derived/Test/ToyasCard.lean, 'card_holds'). Laid BY PROGRAM, IN A SANDBOX (cutbox-door.mjs). By AI agents, Wed Nov 11 2026. No macro, syntax, notation, axiom, sorry.
-/
import Derived.Test.YtlokdkpfeckdoaaDoorRows
import GoSem.ClaimSeven
namespace Go.Proofs.YtlokdkpfeckdoaaDoor
namespace Rows

/-- THE TIED CARD OF 'runglaw11.ImagePlays'. -/
def imagePlaysCard : Claim7 := { stood := { row := imagePlaysRow, standIns := [], harness := (true, "1ae67b0bedbbae11798878adeb07cf3bc421160d1b99871e0e28ed23849267df"), looks := false }, kinds := [], alts := [], laidByText := true, laidKinds := [.data], laidTests := true, laidLooks := .later }
def ImagePlaysCardSaid : Prop := Claim7.holds Tryd.pinned (.plain (OpenSpec.ofChange imagePlaysSpec)) imagePlaysCard

/-- THE TIED CARD OF 'runglaw11.ImageHides'. -/
def imageHidesCard : Claim7 := { stood := { row := imageHidesRow, standIns := [], harness := (true, "1ae67b0bedbbae11798878adeb07cf3bc421160d1b99871e0e28ed23849267df"), looks := false }, kinds := [], alts := [], laidByText := true, laidKinds := [.data], laidTests := true, laidLooks := .later }
def ImageHidesCardSaid : Prop := Claim7.holds Tryd.pinned (.plain (OpenSpec.ofChange imageHidesSpec)) imageHidesCard

/-- THE SECOND FORM's CARD OF 'runglaw11.ImagePlays'. -/
def imagePlaysUptoCard : Claim7 := { stood := { row := imagePlaysUptoRow, standIns := [], harness := (true, "1ae67b0bedbbae11798878adeb07cf3bc421160d1b99871e0e28ed23849267df"), looks := false }, kinds := [], alts := [], laidByText := true, laidKinds := [.data], laidTests := true, laidLooks := .later }
def ImagePlaysUptoCardSaid : Prop := Claim7.holds Tryd.pinned (.plain (OpenSpec.upto imagePlaysSpec)) imagePlaysUptoCard

/-- THE SECOND FORM's CARD OF 'runglaw11.ImageHides'. -/
def imageHidesUptoCard : Claim7 := { stood := { row := imageHidesUptoRow, standIns := [], harness := (true, "1ae67b0bedbbae11798878adeb07cf3bc421160d1b99871e0e28ed23849267df"), looks := false }, kinds := [], alts := [], laidByText := true, laidKinds := [.data], laidTests := true, laidLooks := .later }
def ImageHidesUptoCardSaid : Prop := Claim7.holds Tryd.pinned (.plain (OpenSpec.upto imageHidesSpec)) imageHidesUptoCard
end Rows
end Go.Proofs.YtlokdkpfeckdoaaDoor
