/-
  DERIVED. GIVEN WITH THE SEED: THE CARDS: each row of YtonbbibnledleabDoorRows.lean that lists a variable, with what it lists TIED to the program's text (the seventh form; the later family's looks); each row that meets fmt, with fmt's text TOLD by the authors' own Lean function (tested against real Go, not proved from fmt's source: count such statements apart). THE CARD IS WHAT COUNTS. Prove the row's statement (the work); the ties are given (YtonbbibnledleabDoorTie.lean); close each card by the builder's one call (the guide's Derived/Test/ToyasCard.lean, 'card_holds'). Laid BY PROGRAM, IN A SANDBOX (cutbox-door.mjs). By AI agents, Wed Nov 11 2026. No macro, syntax, notation, axiom, sorry.
-/
import Derived.Test.YtonbbibnledleabDoorRows
import GoSem.ClaimSeven
namespace Go.Proofs.YtonbbibnledleabDoor
namespace Rows

/-- THE TIED CARD OF 'runglaw1.NumOrders'. -/
def numOrdersCard : Claim7 := { stood := { row := numOrdersRow, standIns := [], harness := (true, "e7bd74e694f8f931b500472da97e2ec3461facefd72d438a114adf4d4919f527"), looks := false }, kinds := [], alts := [], laidByText := true, laidKinds := [.data], laidTests := true, laidLooks := .later }
def NumOrdersCardSaid : Prop := Claim7.holds Tryd.pinned (.plain (OpenSpec.ofChange numOrdersSpec)) numOrdersCard

/-- THE TIED CARD OF 'runglaw1.NumLogic'. -/
def numLogicCard : Claim7 := { stood := { row := numLogicRow, standIns := [], harness := (true, "e7bd74e694f8f931b500472da97e2ec3461facefd72d438a114adf4d4919f527"), looks := false }, kinds := [], alts := [], laidByText := true, laidKinds := [.data], laidTests := true, laidLooks := .later }
def NumLogicCardSaid : Prop := Claim7.holds Tryd.pinned (.plain (OpenSpec.ofChange numLogicSpec)) numLogicCard

/-- THE SECOND FORM's CARD OF 'runglaw1.NumOrders'. -/
def numOrdersUptoCard : Claim7 := { stood := { row := numOrdersUptoRow, standIns := [], harness := (true, "e7bd74e694f8f931b500472da97e2ec3461facefd72d438a114adf4d4919f527"), looks := false }, kinds := [], alts := [], laidByText := true, laidKinds := [.data], laidTests := true, laidLooks := .later }
def NumOrdersUptoCardSaid : Prop := Claim7.holds Tryd.pinned (.plain (OpenSpec.upto numOrdersSpec)) numOrdersUptoCard

/-- THE SECOND FORM's CARD OF 'runglaw1.NumLogic'. -/
def numLogicUptoCard : Claim7 := { stood := { row := numLogicUptoRow, standIns := [], harness := (true, "e7bd74e694f8f931b500472da97e2ec3461facefd72d438a114adf4d4919f527"), looks := false }, kinds := [], alts := [], laidByText := true, laidKinds := [.data], laidTests := true, laidLooks := .later }
def NumLogicUptoCardSaid : Prop := Claim7.holds Tryd.pinned (.plain (OpenSpec.upto numLogicSpec)) numLogicUptoCard
end Rows
end Go.Proofs.YtonbbibnledleabDoor
