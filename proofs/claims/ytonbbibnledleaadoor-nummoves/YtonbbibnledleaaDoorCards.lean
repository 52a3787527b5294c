/-
  DERIVED. GIVEN WITH THE SEED: THE CARDS: each row of YtonbbibnledleaaDoorRows.lean that lists a variable, with what it lists TIED to the program's text (the seventh form; the later family's looks); each row that meets fmt, with fmt's text TOLD by the authors' own Lean function (tested against real Go, not proved from fmt's source: count such statements apart). THE CARD IS WHAT COUNTS. Prove the row's statement (the work); the ties are given (YtonbbibnledleaaDoorTie.lean); close each card by the builder's one call (the guide's Derived/Test/ToyasCard.lean, 'card_holds'). Laid BY PROGRAM, IN A SANDBOX (cutbox-door.mjs). By AI agents, Wed Nov 11 2026. No macro, syntax, notation, axiom, sorry.
-/
import Derived.Test.YtonbbibnledleaaDoorRows
import GoSem.ClaimSeven
namespace Go.Proofs.YtonbbibnledleaaDoor
namespace Rows

/-- THE TIED CARD OF 'runglaw1.NumKinds'. -/
def numKindsCard : Claim7 := { stood := { row := numKindsRow, standIns := [], harness := (true, "b3c9fdf78e28e396d5bb2ce282d7d6a9af3c38e601a94805df62ed713a002604"), looks := false }, kinds := [], alts := [], laidByText := true, laidKinds := [.data], laidTests := true, laidLooks := .later }
def NumKindsCardSaid : Prop := Claim7.holds Tryd.pinned (.plain (OpenSpec.ofChange numKindsSpec)) numKindsCard

/-- THE TIED CARD OF 'runglaw1.NumWraps'. -/
def numWrapsCard : Claim7 := { stood := { row := numWrapsRow, standIns := [], harness := (true, "b3c9fdf78e28e396d5bb2ce282d7d6a9af3c38e601a94805df62ed713a002604"), looks := false }, kinds := [], alts := [], laidByText := true, laidKinds := [.data], laidTests := true, laidLooks := .later }
def NumWrapsCardSaid : Prop := Claim7.holds Tryd.pinned (.plain (OpenSpec.ofChange numWrapsSpec)) numWrapsCard

/-- THE TIED CARD OF 'runglaw1.NumApplies'. -/
def numAppliesCard : Claim7 := { stood := { row := numAppliesRow, standIns := [], harness := (true, "b3c9fdf78e28e396d5bb2ce282d7d6a9af3c38e601a94805df62ed713a002604"), looks := false }, kinds := [], alts := [], laidByText := true, laidKinds := [.data], laidTests := true, laidLooks := .later }
def NumAppliesCardSaid : Prop := Claim7.holds Tryd.pinned (.plain (OpenSpec.ofChange numAppliesSpec)) numAppliesCard

/-- THE TIED CARD OF 'runglaw1.NumDivides'. -/
def numDividesCard : Claim7 := { stood := { row := numDividesRow, standIns := [], harness := (true, "b3c9fdf78e28e396d5bb2ce282d7d6a9af3c38e601a94805df62ed713a002604"), looks := false }, kinds := [], alts := [], laidByText := true, laidKinds := [.data], laidTests := true, laidLooks := .later }
def NumDividesCardSaid : Prop := Claim7.holds Tryd.pinned (.plain (OpenSpec.ofChange numDividesSpec)) numDividesCard

/-- THE TIED CARD OF 'runglaw1.NumRing'. -/
def numRingCard : Claim7 := { stood := { row := numRingRow, standIns := [], harness := (true, "b3c9fdf78e28e396d5bb2ce282d7d6a9af3c38e601a94805df62ed713a002604"), looks := false }, kinds := [], alts := [], laidByText := true, laidKinds := [.data], laidTests := true, laidLooks := .later }
def NumRingCardSaid : Prop := Claim7.holds Tryd.pinned (.plain (OpenSpec.ofChange numRingSpec)) numRingCard

/-- THE TIED CARD OF 'runglaw1.NumMoves'. -/
def numMovesCard : Claim7 := { stood := { row := numMovesRow, standIns := [], harness := (true, "b3c9fdf78e28e396d5bb2ce282d7d6a9af3c38e601a94805df62ed713a002604"), looks := false }, kinds := [], alts := [], laidByText := true, laidKinds := [.data], laidTests := true, laidLooks := .later }
def NumMovesCardSaid : Prop := Claim7.holds Tryd.pinned (.plain (OpenSpec.ofChange numMovesSpec)) numMovesCard

/-- THE SECOND FORM's CARD OF 'runglaw1.NumKinds'. -/
def numKindsUptoCard : Claim7 := { stood := { row := numKindsUptoRow, standIns := [], harness := (true, "b3c9fdf78e28e396d5bb2ce282d7d6a9af3c38e601a94805df62ed713a002604"), looks := false }, kinds := [], alts := [], laidByText := true, laidKinds := [.data], laidTests := true, laidLooks := .later }
def NumKindsUptoCardSaid : Prop := Claim7.holds Tryd.pinned (.plain (OpenSpec.upto numKindsSpec)) numKindsUptoCard

/-- THE SECOND FORM's CARD OF 'runglaw1.NumWraps'. -/
def numWrapsUptoCard : Claim7 := { stood := { row := numWrapsUptoRow, standIns := [], harness := (true, "b3c9fdf78e28e396d5bb2ce282d7d6a9af3c38e601a94805df62ed713a002604"), looks := false }, kinds := [], alts := [], laidByText := true, laidKinds := [.data], laidTests := true, laidLooks := .later }
def NumWrapsUptoCardSaid : Prop := Claim7.holds Tryd.pinned (.plain (OpenSpec.upto numWrapsSpec)) numWrapsUptoCard

/-- THE SECOND FORM's CARD OF 'runglaw1.NumApplies'. -/
def numAppliesUptoCard : Claim7 := { stood := { row := numAppliesUptoRow, standIns := [], harness := (true, "b3c9fdf78e28e396d5bb2ce282d7d6a9af3c38e601a94805df62ed713a002604"), looks := false }, kinds := [], alts := [], laidByText := true, laidKinds := [.data], laidTests := true, laidLooks := .later }
def NumAppliesUptoCardSaid : Prop := Claim7.holds Tryd.pinned (.plain (OpenSpec.upto numAppliesSpec)) numAppliesUptoCard

/-- THE SECOND FORM's CARD OF 'runglaw1.NumDivides'. -/
def numDividesUptoCard : Claim7 := { stood := { row := numDividesUptoRow, standIns := [], harness := (true, "b3c9fdf78e28e396d5bb2ce282d7d6a9af3c38e601a94805df62ed713a002604"), looks := false }, kinds := [], alts := [], laidByText := true, laidKinds := [.data], laidTests := true, laidLooks := .later }
def NumDividesUptoCardSaid : Prop := Claim7.holds Tryd.pinned (.plain (OpenSpec.upto numDividesSpec)) numDividesUptoCard

/-- THE SECOND FORM's CARD OF 'runglaw1.NumRing'. -/
def numRingUptoCard : Claim7 := { stood := { row := numRingUptoRow, standIns := [], harness := (true, "b3c9fdf78e28e396d5bb2ce282d7d6a9af3c38e601a94805df62ed713a002604"), looks := false }, kinds := [], alts := [], laidByText := true, laidKinds := [.data], laidTests := true, laidLooks := .later }
def NumRingUptoCardSaid : Prop := Claim7.holds Tryd.pinned (.plain (OpenSpec.upto numRingSpec)) numRingUptoCard

/-- THE SECOND FORM's CARD OF 'runglaw1.NumMoves'. -/
def numMovesUptoCard : Claim7 := { stood := { row := numMovesUptoRow, standIns := [], harness := (true, "b3c9fdf78e28e396d5bb2ce282d7d6a9af3c38e601a94805df62ed713a002604"), looks := false }, kinds := [], alts := [], laidByText := true, laidKinds := [.data], laidTests := true, laidLooks := .later }
def NumMovesUptoCardSaid : Prop := Claim7.holds Tryd.pinned (.plain (OpenSpec.upto numMovesSpec)) numMovesUptoCard
end Rows
end Go.Proofs.YtonbbibnledleaaDoor
