/-
  NARROWER THAN 'FOR EVERY INPUT', by the rows' own cells (each row's printed sentence says how): ImagePlays: laid · ImageHides: laid.
  DERIVED. THE GIVEN ROWS OF THIS SEAT. 2 by the template 'for every input the law returns true; each argument reads behind the call as it read before'; 0 by the template 'total and deterministic' (their statements: YtlokdkpfeckdoaaDoorTotals.lean).
  GIVEN WITH THE SEED: the statements are not yours to turn. If you find one false, say at which input.
  Laid BY PROGRAM, IN A SANDBOX (cutbox-rows.mjs): the forced cells as the released guide's own fill.sh prints them over the translation a65371a5a4a81abf… (all of the seat's roots in one cut). By AI agents, Wed Nov 11 2026. No macro, syntax, notation, axiom, sorry.
-/
import Derived.Test.YtlokdkpfeckdoaaDoorChecked
import GoSem.Claim
import GoSem.ClaimJoined
import GoSem.ClaimMapViews
import Derived.JoinedTies
import Derived.KernelRfl
namespace Go.Proofs.YtlokdkpfeckdoaaDoor
/- THE CELL 'sum', in the pinned program and in every row, IS THE sha256 OF THE DUMP (.gsa) THAT YtlokdkpfeckdoaaDoorProg.lean LOADS. Nothing in Lean hashes anything: it is a label: what it is worth is what the hold of that sum in a sandbox is worth. -/
noncomputable def Tryd.pinned : Pinned := { name := "ytlokdkpfeckdoaadoor", sum := "a65371a5a4a81abf9761395d72964702af11b8783e67f5a3495416e11fbfcee3", checked := Tryd.checked }
namespace Rows
def none {H : Type} : Left H := { results := [], args := [] }

/- WHAT THE LISTED PACKAGE-LEVEL VARIABLES READ AS WHEN THE CALL BEGINS. Each datum BY PROGRAM (the guide's laid-datum.mjs) off the statement by which the dump's own 'gosem.cut.vars' lays the variable. In a bare row this is a premise. The card (YtlokdkpfeckdoaaDoorCards.lean) ties it to the program's text. -/
def laid_rung_addr_areas {H : Type} : DataW H := .agg [.agg [.lit (.string []), .lit (.int .i64 0), .lit (.bool false), .lit (.int .i64 0), .lit (.int .i64 0)], .agg [.lit (.string [37, 73, 88]), .lit (.int .i64 128), .lit (.bool true), .lit (.int .i64 2), .lit (.int .i64 0)], .agg [.lit (.string [37, 81, 88]), .lit (.int .i64 128), .lit (.bool true), .lit (.int .i64 1), .lit (.int .i64 0)], .agg [.lit (.string [37, 77, 88]), .lit (.int .i64 128), .lit (.bool true), .lit (.int .i64 1), .lit (.int .i64 128)], .agg [.lit (.string [37, 73, 87]), .lit (.int .i64 64), .lit (.bool false), .lit (.int .i64 4), .lit (.int .i64 0)], .agg [.lit (.string [37, 81, 87]), .lit (.int .i64 64), .lit (.bool false), .lit (.int .i64 3), .lit (.int .i64 0)], .agg [.lit (.string [37, 77, 87]), .lit (.int .i64 64), .lit (.bool false), .lit (.int .i64 3), .lit (.int .i64 64)]]

/-- 'runglaw11.ImagePlays': WHATEVER THE INPUT: true; the input reads as it did. -/
def imagePlaysSpec : ChangeSpec := { name := "imagePlays", fn := fun _ => fun
  | [d] => { results := [.lit (.bool true)], args := [d] }
  | _ => none }
def imagePlaysRow : OpenClaim := { program := "ytlokdkpfeckdoaadoor", sum := "a65371a5a4a81abf9761395d72964702af11b8783e67f5a3495416e11fbfcee3", func := "rung/runglaw11.ImagePlays", spec := "imagePlays", inPlace := ["sync/atomic.AddUint64", "sync/atomic.LoadUint64", "sync/atomic.StoreUint64"], named := ["rung/addr.areas"], apart := false, laid := [("rung/addr.areas", laid_rung_addr_areas)] }
def ImagePlaysSaid : Prop := imagePlaysRow.holds Tryd.pinned (OpenSpec.ofChange imagePlaysSpec)

/-- ITS FALSE NEIGHBOUR: 'it returns false'. Refute it at one input. -/
def imagePlaysWrong : ChangeSpec := { name := "imagePlays", fn := fun _ => fun
  | [d] => { results := [.lit (.bool false)], args := [d] }
  | _ => none }
def ImagePlaysWrongFalsely : Prop := imagePlaysRow.holds Tryd.pinned (OpenSpec.ofChange imagePlaysWrong)

/-- 'runglaw11.ImageHides': WHATEVER THE INPUT: true; the input reads as it did. -/
def imageHidesSpec : ChangeSpec := { name := "imageHides", fn := fun _ => fun
  | [d1, d2] => { results := [.lit (.bool true)], args := [d1, d2] }
  | _ => none }
def imageHidesRow : OpenClaim := { program := "ytlokdkpfeckdoaadoor", sum := "a65371a5a4a81abf9761395d72964702af11b8783e67f5a3495416e11fbfcee3", func := "rung/runglaw11.ImageHides", spec := "imageHides", inPlace := ["sync/atomic.AddUint64", "sync/atomic.LoadUint64"], named := ["rung/addr.areas"], apart := false, laid := [("rung/addr.areas", laid_rung_addr_areas)] }
def ImageHidesSaid : Prop := imageHidesRow.holds Tryd.pinned (OpenSpec.ofChange imageHidesSpec)

/-- ITS FALSE NEIGHBOUR: 'it returns false'. Refute it at one input. -/
def imageHidesWrong : ChangeSpec := { name := "imageHides", fn := fun _ => fun
  | [d1, d2] => { results := [.lit (.bool false)], args := [d1, d2] }
  | _ => none }
def ImageHidesWrongFalsely : Prop := imageHidesRow.holds Tryd.pinned (OpenSpec.ofChange imageHidesWrong)

/- THE SECOND FORM. 'bulk': how many values and letters a reading holds, each counted each time it is reached (what is shared counts as often as it is met; a slice's spare places count too). A statement '..UptoSaid' is the law's where the arguments, and the package variables that the reading takes, are together of bulk at most 1048576: NARROWER than '..Said'. Prove '..Said' where nothing that the law and all that it calls make is longer than what came in: it says more and counts as full. Else prove '..UptoSaid'. A law counts once. -/
mutual
def uptoBulk {H : Type} : DataW H → Nat
  | .lit (.string bytes) => bytes.length + 1
  | .lit _ => 1
  | .nil => 1
  | .ptr d => uptoBulk d + 1
  | .slice elems spare => uptoBulkAll elems + uptoBulkAll spare + 1
  | .agg parts => uptoBulkAll parts + 1
  | .iface _ d => uptoBulk d + 1
  | .map entries => uptoBulkEntries entries + 1
  | .held _ => 1
def uptoBulkAll {H : Type} : List (DataW H) → Nat
  | [] => 0
  | d :: r => uptoBulk d + uptoBulkAll r
def uptoBulkEntries {H : Type} : List (Lit × DataW H) → Nat
  | [] => 0
  | x :: r => uptoBulkEntry x + uptoBulkEntries r
def uptoBulkEntry {H : Type} : Lit × DataW H → Nat
  | (.string bytes, d) => bytes.length + uptoBulk d + 1
  | (_, d) => uptoBulk d + 1
 end
def uptoSmall : (H : Type) → List (DataW H) → Bool := fun _ ds => decide (uptoBulkAll ds ≤ 1048576)
def OpenSpec.upto (s : _root_.Go.ChangeSpec) : _root_.Go.OpenSpec := { _root_.Go.OpenSpec.ofChange s with cond := some uptoSmall }

/-- 'runglaw11.ImagePlays', WHERE WHAT IT READS IS OF BULK AT MOST 1048576: true; the input reads as it did. -/
def imagePlaysUptoRow : OpenClaim := { program := "ytlokdkpfeckdoaadoor", sum := "a65371a5a4a81abf9761395d72964702af11b8783e67f5a3495416e11fbfcee3", func := "rung/runglaw11.ImagePlays", spec := "imagePlays", inPlace := ["sync/atomic.AddUint64", "sync/atomic.LoadUint64", "sync/atomic.StoreUint64"], named := ["rung/addr.areas"], apart := false, laid := [("rung/addr.areas", laid_rung_addr_areas)], narrowed := true }
def ImagePlaysUptoSaid : Prop := imagePlaysUptoRow.holds Tryd.pinned (OpenSpec.upto imagePlaysSpec)

/-- 'runglaw11.ImageHides', WHERE WHAT IT READS IS OF BULK AT MOST 1048576: true; the input reads as it did. -/
def imageHidesUptoRow : OpenClaim := { program := "ytlokdkpfeckdoaadoor", sum := "a65371a5a4a81abf9761395d72964702af11b8783e67f5a3495416e11fbfcee3", func := "rung/runglaw11.ImageHides", spec := "imageHides", inPlace := ["sync/atomic.AddUint64", "sync/atomic.LoadUint64"], named := ["rung/addr.areas"], apart := false, laid := [("rung/addr.areas", laid_rung_addr_areas)], narrowed := true }
def ImageHidesUptoSaid : Prop := imageHidesUptoRow.holds Tryd.pinned (OpenSpec.upto imageHidesSpec)

end Rows
end Go.Proofs.YtlokdkpfeckdoaaDoor
