/-
  NARROWER THAN 'FOR EVERY INPUT', by the rows' own cells (each row's printed sentence says how): IlOps: laid · IlLines: laid.
  DERIVED. THE GIVEN ROWS OF THIS SEAT. 2 by the template 'for every input the law returns true; each argument reads behind the call as it read before'; 0 by the template 'total and deterministic' (their statements: YtapcpjidgemggaaGreatDoorTotals.lean).
  GIVEN WITH THE SEED: the statements are not yours to turn. If you find one false, say at which input.
  Laid BY PROGRAM, IN A SANDBOX (cutbox-rows.mjs): the forced cells as the released guide's own fill.sh prints them over the translation ff9164f1409e16de… (all of the seat's roots in one cut). By AI agents, Wed Nov 11 2026. No macro, syntax, notation, axiom, sorry.
-/
import Derived.Test.YtapcpjidgemggaaGreatDoorChecked
import GoSem.Claim
import GoSem.ClaimJoined
import GoSem.ClaimMapViews
import Derived.JoinedTies
import Derived.KernelRfl
namespace Go.Proofs.YtapcpjidgemggaaGreatDoor
/- THE CELL 'sum', in the pinned program and in every row, IS THE sha256 OF THE DUMP (.gsa) THAT YtapcpjidgemggaaGreatDoorProg.lean LOADS. Nothing in Lean hashes anything: it is a label: what it is worth is what the hold of that sum in a sandbox is worth. -/
noncomputable def Tryz.pinned : Pinned := { name := "ytapcpjidgemggaagreatdoor", sum := "ff9164f1409e16deaedb540244db90189147b4a2690c280051e4e62c38c02812", checked := Tryz.checked }
namespace Rows
def none {H : Type} : Left H := { results := [], args := [] }

/- WHAT THE LISTED PACKAGE-LEVEL VARIABLES READ AS WHEN THE CALL BEGINS. Each datum BY PROGRAM (the guide's laid-datum.mjs) off the statement by which the dump's own 'gosem.cut.vars' lays the variable. In a bare row this is a premise. The card (YtapcpjidgemggaaGreatDoorCards.lean) ties it to the program's text. -/
def laid_errors_errorType {H : Type} : DataW H := .iface "internal/reflectlite.rtype" (.agg [.ptr (.lit (.string [101, 114, 114, 111, 114]))])
def laid_rung_addr_areas {H : Type} : DataW H := .agg [.agg [.lit (.string []), .lit (.int .i64 0), .lit (.bool false), .lit (.int .i64 0), .lit (.int .i64 0)], .agg [.lit (.string [37, 73, 88]), .lit (.int .i64 128), .lit (.bool true), .lit (.int .i64 2), .lit (.int .i64 0)], .agg [.lit (.string [37, 81, 88]), .lit (.int .i64 128), .lit (.bool true), .lit (.int .i64 1), .lit (.int .i64 0)], .agg [.lit (.string [37, 77, 88]), .lit (.int .i64 128), .lit (.bool true), .lit (.int .i64 1), .lit (.int .i64 128)], .agg [.lit (.string [37, 73, 87]), .lit (.int .i64 64), .lit (.bool false), .lit (.int .i64 4), .lit (.int .i64 0)], .agg [.lit (.string [37, 81, 87]), .lit (.int .i64 64), .lit (.bool false), .lit (.int .i64 3), .lit (.int .i64 0)], .agg [.lit (.string [37, 77, 87]), .lit (.int .i64 64), .lit (.bool false), .lit (.int .i64 3), .lit (.int .i64 64)]]
def laid_rung_lex_kinds {H : Type} : DataW H := .agg [.agg [.lit (.string []), .lit (.int .i64 0), .lit (.int .i64 0)], .agg [.lit (.string [66, 79, 79, 76]), .lit (.int .i64 0), .lit (.int .i64 1)], .agg [.lit (.string [83, 73, 78, 84]), .lit (.int .i64 (-128)), .lit (.int .i64 127)], .agg [.lit (.string [73, 78, 84]), .lit (.int .i64 (-32768)), .lit (.int .i64 32767)], .agg [.lit (.string [68, 73, 78, 84]), .lit (.int .i64 (-2147483648)), .lit (.int .i64 2147483647)], .agg [.lit (.string [85, 83, 73, 78, 84]), .lit (.int .i64 0), .lit (.int .i64 255)], .agg [.lit (.string [85, 73, 78, 84]), .lit (.int .i64 0), .lit (.int .i64 65535)], .agg [.lit (.string [85, 68, 73, 78, 84]), .lit (.int .i64 0), .lit (.int .i64 4294967295)], .agg [.lit (.string [66, 89, 84, 69]), .lit (.int .i64 0), .lit (.int .i64 255)], .agg [.lit (.string [87, 79, 82, 68]), .lit (.int .i64 0), .lit (.int .i64 65535)], .agg [.lit (.string [68, 87, 79, 82, 68]), .lit (.int .i64 0), .lit (.int .i64 4294967295)], .agg [.lit (.string [84, 73, 77, 69]), .lit (.int .i64 (-2147483648)), .lit (.int .i64 2147483647)]]
def laid_rung_lex_bases {H : Type} : DataW H := .agg [.agg [.lit (.string [50, 35]), .lit (.int .i64 2)], .agg [.lit (.string [56, 35]), .lit (.int .i64 8)], .agg [.lit (.string [49, 54, 35]), .lit (.int .i64 16)]]
def laid_rung_lex_units {H : Type} : DataW H := .agg [.agg [.lit (.string [100]), .lit (.int .i64 86400000)], .agg [.lit (.string [104]), .lit (.int .i64 3600000)], .agg [.lit (.string [109]), .lit (.int .i64 60000)], .agg [.lit (.string [115]), .lit (.int .i64 1000)], .agg [.lit (.string [109, 115]), .lit (.int .i64 1)]]

/-- 'runglaw14.IlOps': WHATEVER THE INPUT: true; the input reads as it did. -/
def ilOpsSpec : ChangeSpec := { name := "ilOps", fn := fun _ => fun
  | [d] => { results := [.lit (.bool true)], args := [d] }
  | _ => none }
def ilOpsRow : OpenClaim := { program := "ytapcpjidgemggaagreatdoor", sum := "ff9164f1409e16deaedb540244db90189147b4a2690c280051e4e62c38c02812", func := "rung/runglaw14.IlOps", spec := "ilOps", inPlace := ["internal/bytealg.IndexByteString", "internal/bytealg.IndexString", "internal/reflectlite.ValueOf", "(internal/reflectlite.Value).Type", "(internal/reflectlite.Value).IsNil", "internal/reflectlite.TypeOf", "(internal/reflectlite.Value).Elem", "(internal/reflectlite.Value).Set"], unfollowed := true, recurses := true, named := ["internal/bytealg.MaxLen", "rung/lex.kinds", "rung/lex.units", "rung/lex.bases", "rung/addr.areas", "errors.errorType"], apart := false, laid := [("errors.errorType", laid_errors_errorType), ("rung/addr.areas", laid_rung_addr_areas), ("rung/lex.kinds", laid_rung_lex_kinds), ("rung/lex.bases", laid_rung_lex_bases), ("rung/lex.units", laid_rung_lex_units)] }
def IlOpsSaid : Prop := ilOpsRow.holds Tryz.pinned (OpenSpec.ofChange ilOpsSpec)

/-- ITS FALSE NEIGHBOUR: 'it returns false'. Refute it at one input. -/
def ilOpsWrong : ChangeSpec := { name := "ilOps", fn := fun _ => fun
  | [d] => { results := [.lit (.bool false)], args := [d] }
  | _ => none }
def IlOpsWrongFalsely : Prop := ilOpsRow.holds Tryz.pinned (OpenSpec.ofChange ilOpsWrong)

/-- 'runglaw14.IlLines': WHATEVER THE INPUT: true; the input reads as it did. -/
def ilLinesSpec : ChangeSpec := { name := "ilLines", fn := fun _ => fun
  | [d1, d2] => { results := [.lit (.bool true)], args := [d1, d2] }
  | _ => none }
def ilLinesRow : OpenClaim := { program := "ytapcpjidgemggaagreatdoor", sum := "ff9164f1409e16deaedb540244db90189147b4a2690c280051e4e62c38c02812", func := "rung/runglaw14.IlLines", spec := "ilLines", inPlace := ["internal/bytealg.IndexByteString", "internal/bytealg.IndexString", "internal/reflectlite.ValueOf", "(internal/reflectlite.Value).Type", "(internal/reflectlite.Value).IsNil", "internal/reflectlite.TypeOf", "(internal/reflectlite.Value).Elem", "(internal/reflectlite.Value).Set"], unfollowed := true, recurses := true, named := ["internal/bytealg.MaxLen", "rung/lex.kinds", "rung/lex.units", "rung/lex.bases", "rung/addr.areas", "errors.errorType"], apart := false, laid := [("errors.errorType", laid_errors_errorType), ("rung/addr.areas", laid_rung_addr_areas), ("rung/lex.kinds", laid_rung_lex_kinds), ("rung/lex.bases", laid_rung_lex_bases), ("rung/lex.units", laid_rung_lex_units)] }
def IlLinesSaid : Prop := ilLinesRow.holds Tryz.pinned (OpenSpec.ofChange ilLinesSpec)

/-- ITS FALSE NEIGHBOUR: 'it returns false'. Refute it at one input. -/
def ilLinesWrong : ChangeSpec := { name := "ilLines", fn := fun _ => fun
  | [d1, d2] => { results := [.lit (.bool false)], args := [d1, d2] }
  | _ => none }
def IlLinesWrongFalsely : Prop := ilLinesRow.holds Tryz.pinned (OpenSpec.ofChange ilLinesWrong)

/- THE SECOND FORM. 'bulk': how many values and letters a reading holds, each counted each time it is reached (what is shared counts as often as it is met; a slice's spare places count too). A statement '..UptoSaid' is the law's where the arguments, and the package variables that the reading takes, are together of bulk at most 1048576: NARROWER than '..Said'. Prove '..Said' where nothing that the law and all that it calls make is longer than what came in: it says more and counts as full. Else prove '..UptoSaid'. A law counts once. -/
mutual
def uptoBulk {H : Type} : DataW H → Nat
  | .lit (.string bytes) => bytes.length + 1
  | .lit _ => 1
  | .nil => 1
  | .ptr d => uptoBulk d + 1
  | .slice elems spare => uptoBulkAll elems + uptoBulkAll spare + 1
  | .agg parts => uptoBulkAll parts + 1
  | .iface _ d => uptoBulk d + 1
  | .map entries => uptoBulkEntries entries + 1
  | .held _ => 1
def uptoBulkAll {H : Type} : List (DataW H) → Nat
  | [] => 0
  | d :: r => uptoBulk d + uptoBulkAll r
def uptoBulkEntries {H : Type} : List (Lit × DataW H) → Nat
  | [] => 0
  | x :: r => uptoBulkEntry x + uptoBulkEntries r
def uptoBulkEntry {H : Type} : Lit × DataW H → Nat
  | (.string bytes, d) => bytes.length + uptoBulk d + 1
  | (_, d) => uptoBulk d + 1
 end
def uptoSmall : (H : Type) → List (DataW H) → Bool := fun _ ds => decide (uptoBulkAll ds ≤ 1048576)
def OpenSpec.upto (s : _root_.Go.ChangeSpec) : _root_.Go.OpenSpec := { _root_.Go.OpenSpec.ofChange s with cond := some uptoSmall }

/-- 'runglaw14.IlOps', WHERE WHAT IT READS IS OF BULK AT MOST 1048576: true; the input reads as it did. -/
def ilOpsUptoRow : OpenClaim := { program := "ytapcpjidgemggaagreatdoor", sum := "ff9164f1409e16deaedb540244db90189147b4a2690c280051e4e62c38c02812", func := "rung/runglaw14.IlOps", spec := "ilOps", inPlace := ["internal/bytealg.IndexByteString", "internal/bytealg.IndexString", "internal/reflectlite.ValueOf", "(internal/reflectlite.Value).Type", "(internal/reflectlite.Value).IsNil", "internal/reflectlite.TypeOf", "(internal/reflectlite.Value).Elem", "(internal/reflectlite.Value).Set"], unfollowed := true, recurses := true, named := ["internal/bytealg.MaxLen", "rung/lex.kinds", "rung/lex.units", "rung/lex.bases", "rung/addr.areas", "errors.errorType"], apart := false, laid := [("errors.errorType", laid_errors_errorType), ("rung/addr.areas", laid_rung_addr_areas), ("rung/lex.kinds", laid_rung_lex_kinds), ("rung/lex.bases", laid_rung_lex_bases), ("rung/lex.units", laid_rung_lex_units)], narrowed := true }
def IlOpsUptoSaid : Prop := ilOpsUptoRow.holds Tryz.pinned (OpenSpec.upto ilOpsSpec)

/-- 'runglaw14.IlLines', WHERE WHAT IT READS IS OF BULK AT MOST 1048576: true; the input reads as it did. -/
def ilLinesUptoRow : OpenClaim := { program := "ytapcpjidgemggaagreatdoor", sum := "ff9164f1409e16deaedb540244db90189147b4a2690c280051e4e62c38c02812", func := "rung/runglaw14.IlLines", spec := "ilLines", inPlace := ["internal/bytealg.IndexByteString", "internal/bytealg.IndexString", "internal/reflectlite.ValueOf", "(internal/reflectlite.Value).Type", "(internal/reflectlite.Value).IsNil", "internal/reflectlite.TypeOf", "(internal/reflectlite.Value).Elem", "(internal/reflectlite.Value).Set"], unfollowed := true, recurses := true, named := ["internal/bytealg.MaxLen", "rung/lex.kinds", "rung/lex.units", "rung/lex.bases", "rung/addr.areas", "errors.errorType"], apart := false, laid := [("errors.errorType", laid_errors_errorType), ("rung/addr.areas", laid_rung_addr_areas), ("rung/lex.kinds", laid_rung_lex_kinds), ("rung/lex.bases", laid_rung_lex_bases), ("rung/lex.units", laid_rung_lex_units)], narrowed := true }
def IlLinesUptoSaid : Prop := ilLinesUptoRow.holds Tryz.pinned (OpenSpec.upto ilLinesSpec)

end Rows
end Go.Proofs.YtapcpjidgemggaaGreatDoor
