/-
  DERIVED. GIVEN WITH THE SEED: THE PROGRAM's TIES (one call each: nine closed facts by the kernel) AND EACH ROW's TIE, after the 31st guide's Derived/Test/Toyas{Tie, Card}.lean. No idea stands in it: it is a product of the set-up. Laid BY PROGRAM, IN A SANDBOX (cutbox-door.mjs). By AI agents, Wed Nov 11 2026. No macro, syntax, notation, axiom, sorry.
-/
import Derived.Test.YtapcpjidgemggaaGreatDoorRows
import Derived.LaidByTextLater
import Derived.SevenTiedAt
import Derived.LaidSub
import Derived.LaidOnce
namespace Go.Proofs.YtapcpjidgemggaaGreatDoor
open Go
set_option maxRecDepth 100000
theorem seatTie1 : Tryz.prog.laidByTextLater [("errors.errorType", Rows.laid_errors_errorType), ("rung/addr.areas", Rows.laid_rung_addr_areas), ("rung/lex.kinds", Rows.laid_rung_lex_kinds), ("rung/lex.bases", Rows.laid_rung_lex_bases), ("rung/lex.units", Rows.laid_rung_lex_units)] [.handle, .data, .data, .data, .data] true :=
  Program.laidByTextLater_by_one 61 8 37 (by kernel_rfl) (by kernel_rfl) (by kernel_rfl) (by kernel_rfl) (by kernel_rfl) (by kernel_rfl) (fun _ _ => by kernel_rfl)
theorem noOwnUnsafe : Tryz.pinned.checked.prog.headLifts.contains "ownunsafe" = false := by kernel_rfl
theorem tie : Tryz.prog.laidByTextLater [("errors.errorType", Rows.laid_errors_errorType), ("rung/addr.areas", Rows.laid_rung_addr_areas), ("rung/lex.kinds", Rows.laid_rung_lex_kinds), ("rung/lex.bases", Rows.laid_rung_lex_bases), ("rung/lex.units", Rows.laid_rung_lex_units)] [.handle, .data, .data, .data, .data] true :=
  Program.laidByTextLater.sub seatTie1 ["errors.errorType", "rung/addr.areas", "rung/lex.kinds", "rung/lex.bases", "rung/lex.units"] (by kernel_rfl) (by kernel_rfl)
theorem ilOps_row_tie : Rows.ilOpsRow.laidByTextAt .later Tryz.pinned [.handle, .data, .data, .data, .data] true :=
  OpenClaim.laidByTextAt_later rfl rfl tie noOwnUnsafe
theorem ilLines_row_tie : Rows.ilLinesRow.laidByTextAt .later Tryz.pinned [.handle, .data, .data, .data, .data] true :=
  OpenClaim.laidByTextAt_later rfl rfl tie noOwnUnsafe
theorem ilOpsUpto_row_tie : Rows.ilOpsUptoRow.laidByTextAt .later Tryz.pinned [.handle, .data, .data, .data, .data] true :=
  OpenClaim.laidByTextAt_later rfl rfl tie noOwnUnsafe
theorem ilLinesUpto_row_tie : Rows.ilLinesUptoRow.laidByTextAt .later Tryz.pinned [.handle, .data, .data, .data, .data] true :=
  OpenClaim.laidByTextAt_later rfl rfl tie noOwnUnsafe
end Go.Proofs.YtapcpjidgemggaaGreatDoor
