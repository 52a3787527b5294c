/-
  DERIVED. GIVEN WITH THE SEED: THE CARDS: each row of YtapcpjidgemggaaGreatDoorRows.lean that lists a variable, with what it lists TIED to the program's text (the seventh form; the later family's looks); each row that meets fmt, with fmt's text TOLD by the authors' own Lean function (tested against real Go, not proved from fmt's source: count such statements apart). THE CARD IS WHAT COUNTS. Prove the row's statement (the work); the ties are given (YtapcpjidgemggaaGreatDoorTie.lean); close each card by the builder's one call (the guide's Derived/Test/ToyasCard.lean, 'card_holds'). Laid BY PROGRAM, IN A SANDBOX (cutbox-door.mjs). By AI agents, Wed Nov 11 2026. No macro, syntax, notation, axiom, sorry.
-/
import Derived.Test.YtapcpjidgemggaaGreatDoorRows
import GoSem.ClaimSeven
namespace Go.Proofs.YtapcpjidgemggaaGreatDoor
namespace Rows

/-- THE TIED CARD OF 'runglaw14.IlOps'. -/
def ilOpsCard : Claim7 := { stood := { row := ilOpsRow, standIns := [], harness := (true, "939ce07c57f6effc173cf30171e78d46872f9feb9672b07a30336133f2f6401f"), looks := true }, kinds := [], alts := [], laidByText := true, laidKinds := [.handle, .data, .data, .data, .data], laidTests := true, laidLooks := .later }
def IlOpsCardSaid : Prop := Claim7.holds Tryz.pinned (.plain (OpenSpec.ofChange ilOpsSpec)) ilOpsCard

/-- THE TIED CARD OF 'runglaw14.IlLines'. -/
def ilLinesCard : Claim7 := { stood := { row := ilLinesRow, standIns := [], harness := (true, "939ce07c57f6effc173cf30171e78d46872f9feb9672b07a30336133f2f6401f"), looks := true }, kinds := [], alts := [], laidByText := true, laidKinds := [.handle, .data, .data, .data, .data], laidTests := true, laidLooks := .later }
def IlLinesCardSaid : Prop := Claim7.holds Tryz.pinned (.plain (OpenSpec.ofChange ilLinesSpec)) ilLinesCard

/-- THE SECOND FORM's CARD OF 'runglaw14.IlOps'. -/
def ilOpsUptoCard : Claim7 := { stood := { row := ilOpsUptoRow, standIns := [], harness := (true, "939ce07c57f6effc173cf30171e78d46872f9feb9672b07a30336133f2f6401f"), looks := true }, kinds := [], alts := [], laidByText := true, laidKinds := [.handle, .data, .data, .data, .data], laidTests := true, laidLooks := .later }
def IlOpsUptoCardSaid : Prop := Claim7.holds Tryz.pinned (.plain (OpenSpec.upto ilOpsSpec)) ilOpsUptoCard

/-- THE SECOND FORM's CARD OF 'runglaw14.IlLines'. -/
def ilLinesUptoCard : Claim7 := { stood := { row := ilLinesUptoRow, standIns := [], harness := (true, "939ce07c57f6effc173cf30171e78d46872f9feb9672b07a30336133f2f6401f"), looks := true }, kinds := [], alts := [], laidByText := true, laidKinds := [.handle, .data, .data, .data, .data], laidTests := true, laidLooks := .later }
def IlLinesUptoCardSaid : Prop := Claim7.holds Tryz.pinned (.plain (OpenSpec.upto ilLinesSpec)) ilLinesUptoCard
end Rows
end Go.Proofs.YtapcpjidgemggaaGreatDoor
