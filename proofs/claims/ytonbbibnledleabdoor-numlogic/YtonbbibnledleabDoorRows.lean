/-
  NARROWER THAN 'FOR EVERY INPUT', by the rows' own cells (each row's printed sentence says how): NumOrders: laid · NumLogic: laid.
  DERIVED. THE GIVEN ROWS OF THIS SEAT. 2 by the template 'for every input the law returns true; each argument reads behind the call as it read before'; 0 by the template 'total and deterministic' (their statements: YtonbbibnledleabDoorTotals.lean).
  GIVEN WITH THE SEED: the statements are not yours to turn. If you find one false, say at which input.
  Laid BY PROGRAM, IN A SANDBOX (cutbox-rows.mjs): the forced cells as the released guide's own fill.sh prints them over the translation d2718b0325664a58… (all of the seat's roots in one cut). By AI agents, Wed Nov 11 2026. No macro, syntax, notation, axiom, sorry.
-/
import Derived.Test.YtonbbibnledleabDoorChecked
import GoSem.Claim
import GoSem.ClaimJoined
import GoSem.ClaimMapViews
import Derived.JoinedTies
import Derived.KernelRfl
namespace Go.Proofs.YtonbbibnledleabDoor
/- THE CELL 'sum', in the pinned program and in every row, IS THE sha256 OF THE DUMP (.gsa) THAT YtonbbibnledleabDoorProg.lean LOADS. Nothing in Lean hashes anything: it is a label: what it is worth is what the hold of that sum in a sandbox is worth. -/
noncomputable def Tryd.pinned : Pinned := { name := "ytonbbibnledleabdoor", sum := "d2718b0325664a58164d86e14782bfd2632a4fbb51593c936db8893bcc563dd1", checked := Tryd.checked }
namespace Rows
def none {H : Type} : Left H := { results := [], args := [] }

/- WHAT THE LISTED PACKAGE-LEVEL VARIABLES READ AS WHEN THE CALL BEGINS. Each datum BY PROGRAM (the guide's laid-datum.mjs) off the statement by which the dump's own 'gosem.cut.vars' lays the variable. In a bare row this is a premise. The card (YtonbbibnledleabDoorCards.lean) ties it to the program's text. -/
def laid_rung_num_names {H : Type} : DataW H := .agg [.lit (.string []), .lit (.string [66, 79, 79, 76]), .lit (.string [83, 73, 78, 84]), .lit (.string [73, 78, 84]), .lit (.string [68, 73, 78, 84]), .lit (.string [85, 83, 73, 78, 84]), .lit (.string [85, 73, 78, 84]), .lit (.string [85, 68, 73, 78, 84]), .lit (.string [66, 89, 84, 69]), .lit (.string [87, 79, 82, 68]), .lit (.string [68, 87, 79, 82, 68]), .lit (.string [84, 73, 77, 69])]

/-- 'runglaw1.NumOrders': WHATEVER THE INPUT: true; the input reads as it did. -/
def numOrdersSpec : ChangeSpec := { name := "numOrders", fn := fun _ => fun
  | [d1, d2, d3, d4] => { results := [.lit (.bool true)], args := [d1, d2, d3, d4] }
  | _ => none }
def numOrdersRow : OpenClaim := { program := "ytonbbibnledleabdoor", sum := "d2718b0325664a58164d86e14782bfd2632a4fbb51593c936db8893bcc563dd1", func := "rung/runglaw1.NumOrders", spec := "numOrders", unfollowed := true, recurses := true, named := ["rung/num.names"], apart := false, laid := [("rung/num.names", laid_rung_num_names)] }
def NumOrdersSaid : Prop := numOrdersRow.holds Tryd.pinned (OpenSpec.ofChange numOrdersSpec)

/-- ITS FALSE NEIGHBOUR: 'it returns false'. Refute it at one input. -/
def numOrdersWrong : ChangeSpec := { name := "numOrders", fn := fun _ => fun
  | [d1, d2, d3, d4] => { results := [.lit (.bool false)], args := [d1, d2, d3, d4] }
  | _ => none }
def NumOrdersWrongFalsely : Prop := numOrdersRow.holds Tryd.pinned (OpenSpec.ofChange numOrdersWrong)

/-- 'runglaw1.NumLogic': WHATEVER THE INPUT: true; the input reads as it did. -/
def numLogicSpec : ChangeSpec := { name := "numLogic", fn := fun _ => fun
  | [d1, d2, d3, d4] => { results := [.lit (.bool true)], args := [d1, d2, d3, d4] }
  | _ => none }
def numLogicRow : OpenClaim := { program := "ytonbbibnledleabdoor", sum := "d2718b0325664a58164d86e14782bfd2632a4fbb51593c936db8893bcc563dd1", func := "rung/runglaw1.NumLogic", spec := "numLogic", unfollowed := true, recurses := true, named := ["rung/num.names"], apart := false, laid := [("rung/num.names", laid_rung_num_names)] }
def NumLogicSaid : Prop := numLogicRow.holds Tryd.pinned (OpenSpec.ofChange numLogicSpec)

/-- ITS FALSE NEIGHBOUR: 'it returns false'. Refute it at one input. -/
def numLogicWrong : ChangeSpec := { name := "numLogic", fn := fun _ => fun
  | [d1, d2, d3, d4] => { results := [.lit (.bool false)], args := [d1, d2, d3, d4] }
  | _ => none }
def NumLogicWrongFalsely : Prop := numLogicRow.holds Tryd.pinned (OpenSpec.ofChange numLogicWrong)

/- THE SECOND FORM. 'bulk': how many values and letters a reading holds, each counted each time it is reached (what is shared counts as often as it is met; a slice's spare places count too). A statement '..UptoSaid' is the law's where the arguments, and the package variables that the reading takes, are together of bulk at most 1048576: NARROWER than '..Said'. Prove '..Said' where nothing that the law and all that it calls make is longer than what came in: it says more and counts as full. Else prove '..UptoSaid'. A law counts once. -/
mutual
def uptoBulk {H : Type} : DataW H → Nat
  | .lit (.string bytes) => bytes.length + 1
  | .lit _ => 1
  | .nil => 1
  | .ptr d => uptoBulk d + 1
  | .slice elems spare => uptoBulkAll elems + uptoBulkAll spare + 1
  | .agg parts => uptoBulkAll parts + 1
  | .iface _ d => uptoBulk d + 1
  | .map entries => uptoBulkEntries entries + 1
  | .held _ => 1
def uptoBulkAll {H : Type} : List (DataW H) → Nat
  | [] => 0
  | d :: r => uptoBulk d + uptoBulkAll r
def uptoBulkEntries {H : Type} : List (Lit × DataW H) → Nat
  | [] => 0
  | x :: r => uptoBulkEntry x + uptoBulkEntries r
def uptoBulkEntry {H : Type} : Lit × DataW H → Nat
  | (.string bytes, d) => bytes.length + uptoBulk d + 1
  | (_, d) => uptoBulk d + 1
 end
def uptoSmall : (H : Type) → List (DataW H) → Bool := fun _ ds => decide (uptoBulkAll ds ≤ 1048576)
def OpenSpec.upto (s : _root_.Go.ChangeSpec) : _root_.Go.OpenSpec := { _root_.Go.OpenSpec.ofChange s with cond := some uptoSmall }

/-- 'runglaw1.NumOrders', WHERE WHAT IT READS IS OF BULK AT MOST 1048576: true; the input reads as it did. -/
def numOrdersUptoRow : OpenClaim := { program := "ytonbbibnledleabdoor", sum := "d2718b0325664a58164d86e14782bfd2632a4fbb51593c936db8893bcc563dd1", func := "rung/runglaw1.NumOrders", spec := "numOrders", unfollowed := true, recurses := true, named := ["rung/num.names"], apart := false, laid := [("rung/num.names", laid_rung_num_names)], narrowed := true }
def NumOrdersUptoSaid : Prop := numOrdersUptoRow.holds Tryd.pinned (OpenSpec.upto numOrdersSpec)

/-- 'runglaw1.NumLogic', WHERE WHAT IT READS IS OF BULK AT MOST 1048576: true; the input reads as it did. -/
def numLogicUptoRow : OpenClaim := { program := "ytonbbibnledleabdoor", sum := "d2718b0325664a58164d86e14782bfd2632a4fbb51593c936db8893bcc563dd1", func := "rung/runglaw1.NumLogic", spec := "numLogic", unfollowed := true, recurses := true, named := ["rung/num.names"], apart := false, laid := [("rung/num.names", laid_rung_num_names)], narrowed := true }
def NumLogicUptoSaid : Prop := numLogicUptoRow.holds Tryd.pinned (OpenSpec.upto numLogicSpec)

end Rows
end Go.Proofs.YtonbbibnledleabDoor
