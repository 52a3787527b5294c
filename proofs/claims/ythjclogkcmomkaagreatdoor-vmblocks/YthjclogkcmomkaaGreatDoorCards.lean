/-
  DERIVED. GIVEN WITH THE SEED: THE CARDS: each row of YthjclogkcmomkaaGreatDoorRows.lean that lists a variable, with what it lists TIED to the program's text (the seventh form; the later family's looks); each row that meets fmt, with fmt's text TOLD by the authors' own Lean function (tested against real Go, not proved from fmt's source: count such statements apart). THE CARD IS WHAT COUNTS. Prove the row's statement (the work); the ties are given (YthjclogkcmomkaaGreatDoorTie.lean); close each card by the builder's one call (the guide's Derived/Test/ToyasCard.lean, 'card_holds'). Laid BY PROGRAM, IN A SANDBOX (cutbox-door.mjs). By AI agents, Wed Nov 11 2026. No macro, syntax, notation, axiom, sorry.
-/
import Derived.Test.YthjclogkcmomkaaGreatDoorRows
import GoSem.ClaimSeven
namespace Go.Proofs.YthjclogkcmomkaaGreatDoor
namespace Rows

/-- THE TIED CARD OF 'runglaw21.VmScans'. -/
def vmScansCard : Claim7 := { stood := { row := vmScansRow, standIns := [], harness := (true, "ecf85824bc31a63887571298864eb877b1968a8a9b1a753f33d729b10759cc5b"), looks := true }, kinds := [], alts := [], laidByText := true, laidKinds := [.handle, .data], laidTests := true, laidLooks := .later }
def VmScansCardSaid : Prop := Claim7.holds Tryz.pinned (.plain (OpenSpec.ofChange vmScansSpec)) vmScansCard

/-- THE TIED CARD OF 'runglaw21.VmLives'. -/
def vmLivesCard : Claim7 := { stood := { row := vmLivesRow, standIns := [], harness := (true, "ecf85824bc31a63887571298864eb877b1968a8a9b1a753f33d729b10759cc5b"), looks := true }, kinds := [], alts := [], laidByText := true, laidKinds := [.data], laidTests := true, laidLooks := .later }
def VmLivesCardSaid : Prop := Claim7.holds Tryz.pinned (.plain (OpenSpec.ofChange vmLivesSpec)) vmLivesCard

/-- THE TIED CARD OF 'runglaw21.VmEnds'. -/
def vmEndsCard : Claim7 := { stood := { row := vmEndsRow, standIns := [], harness := (true, "ecf85824bc31a63887571298864eb877b1968a8a9b1a753f33d729b10759cc5b"), looks := true }, kinds := [], alts := [], laidByText := true, laidKinds := [.data], laidTests := true, laidLooks := .later }
def VmEndsCardSaid : Prop := Claim7.holds Tryz.pinned (.plain (OpenSpec.ofChange vmEndsSpec)) vmEndsCard

/-- THE TIED CARD OF 'runglaw21.VmCalls'. -/
def vmCallsCard : Claim7 := { stood := { row := vmCallsRow, standIns := [], harness := (true, "ecf85824bc31a63887571298864eb877b1968a8a9b1a753f33d729b10759cc5b"), looks := true }, kinds := [], alts := [], laidByText := true, laidKinds := [.data], laidTests := true, laidLooks := .later }
def VmCallsCardSaid : Prop := Claim7.holds Tryz.pinned (.plain (OpenSpec.ofChange vmCallsSpec)) vmCallsCard

/-- THE TIED CARD OF 'runglaw21.VmIndices'. -/
def vmIndicesCard : Claim7 := { stood := { row := vmIndicesRow, standIns := [], harness := (true, "ecf85824bc31a63887571298864eb877b1968a8a9b1a753f33d729b10759cc5b"), looks := true }, kinds := [], alts := [], laidByText := true, laidKinds := [.data], laidTests := true, laidLooks := .later }
def VmIndicesCardSaid : Prop := Claim7.holds Tryz.pinned (.plain (OpenSpec.ofChange vmIndicesSpec)) vmIndicesCard

/-- THE TIED CARD OF 'runglaw21.VmBlocks'. -/
def vmBlocksCard : Claim7 := { stood := { row := vmBlocksRow, standIns := [], harness := (true, "ecf85824bc31a63887571298864eb877b1968a8a9b1a753f33d729b10759cc5b"), looks := true }, kinds := [], alts := [], laidByText := true, laidKinds := [.data], laidTests := true, laidLooks := .later }
def VmBlocksCardSaid : Prop := Claim7.holds Tryz.pinned (.plain (OpenSpec.ofChange vmBlocksSpec)) vmBlocksCard

/-- THE SECOND FORM's CARD OF 'runglaw21.VmScans'. -/
def vmScansUptoCard : Claim7 := { stood := { row := vmScansUptoRow, standIns := [], harness := (true, "ecf85824bc31a63887571298864eb877b1968a8a9b1a753f33d729b10759cc5b"), looks := true }, kinds := [], alts := [], laidByText := true, laidKinds := [.handle, .data], laidTests := true, laidLooks := .later }
def VmScansUptoCardSaid : Prop := Claim7.holds Tryz.pinned (.plain (OpenSpec.upto vmScansSpec)) vmScansUptoCard

/-- THE SECOND FORM's CARD OF 'runglaw21.VmLives'. -/
def vmLivesUptoCard : Claim7 := { stood := { row := vmLivesUptoRow, standIns := [], harness := (true, "ecf85824bc31a63887571298864eb877b1968a8a9b1a753f33d729b10759cc5b"), looks := true }, kinds := [], alts := [], laidByText := true, laidKinds := [.data], laidTests := true, laidLooks := .later }
def VmLivesUptoCardSaid : Prop := Claim7.holds Tryz.pinned (.plain (OpenSpec.upto vmLivesSpec)) vmLivesUptoCard

/-- THE SECOND FORM's CARD OF 'runglaw21.VmEnds'. -/
def vmEndsUptoCard : Claim7 := { stood := { row := vmEndsUptoRow, standIns := [], harness := (true, "ecf85824bc31a63887571298864eb877b1968a8a9b1a753f33d729b10759cc5b"), looks := true }, kinds := [], alts := [], laidByText := true, laidKinds := [.data], laidTests := true, laidLooks := .later }
def VmEndsUptoCardSaid : Prop := Claim7.holds Tryz.pinned (.plain (OpenSpec.upto vmEndsSpec)) vmEndsUptoCard

/-- THE SECOND FORM's CARD OF 'runglaw21.VmCalls'. -/
def vmCallsUptoCard : Claim7 := { stood := { row := vmCallsUptoRow, standIns := [], harness := (true, "ecf85824bc31a63887571298864eb877b1968a8a9b1a753f33d729b10759cc5b"), looks := true }, kinds := [], alts := [], laidByText := true, laidKinds := [.data], laidTests := true, laidLooks := .later }
def VmCallsUptoCardSaid : Prop := Claim7.holds Tryz.pinned (.plain (OpenSpec.upto vmCallsSpec)) vmCallsUptoCard

/-- THE SECOND FORM's CARD OF 'runglaw21.VmIndices'. -/
def vmIndicesUptoCard : Claim7 := { stood := { row := vmIndicesUptoRow, standIns := [], harness := (true, "ecf85824bc31a63887571298864eb877b1968a8a9b1a753f33d729b10759cc5b"), looks := true }, kinds := [], alts := [], laidByText := true, laidKinds := [.data], laidTests := true, laidLooks := .later }
def VmIndicesUptoCardSaid : Prop := Claim7.holds Tryz.pinned (.plain (OpenSpec.upto vmIndicesSpec)) vmIndicesUptoCard

/-- THE SECOND FORM's CARD OF 'runglaw21.VmBlocks'. -/
def vmBlocksUptoCard : Claim7 := { stood := { row := vmBlocksUptoRow, standIns := [], harness := (true, "ecf85824bc31a63887571298864eb877b1968a8a9b1a753f33d729b10759cc5b"), looks := true }, kinds := [], alts := [], laidByText := true, laidKinds := [.data], laidTests := true, laidLooks := .later }
def VmBlocksUptoCardSaid : Prop := Claim7.holds Tryz.pinned (.plain (OpenSpec.upto vmBlocksSpec)) vmBlocksUptoCard
end Rows
end Go.Proofs.YthjclogkcmomkaaGreatDoor
