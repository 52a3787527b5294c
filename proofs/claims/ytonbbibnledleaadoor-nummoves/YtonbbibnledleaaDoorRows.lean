/-
  NARROWER THAN 'FOR EVERY INPUT', by the rows' own cells (each row's printed sentence says how): NumKinds: laid · NumWraps: laid · NumApplies: laid · NumDivides: laid · NumRing: laid · NumMoves: laid.
  DERIVED. THE GIVEN ROWS OF THIS SEAT. 6 by the template 'for every input the law returns true; each argument reads behind the call as it read before'; 0 by the template 'total and deterministic' (their statements: YtonbbibnledleaaDoorTotals.lean).
  GIVEN WITH THE SEED: the statements are not yours to turn. If you find one false, say at which input.
  Laid BY PROGRAM, IN A SANDBOX (cutbox-rows.mjs): the forced cells as the released guide's own fill.sh prints them over the translation f3125e8f34bba8c0… (all of the seat's roots in one cut). By AI agents, Wed Nov 11 2026. No macro, syntax, notation, axiom, sorry.
-/
import Derived.Test.YtonbbibnledleaaDoorChecked
import GoSem.Claim
import GoSem.ClaimJoined
import GoSem.ClaimMapViews
import Derived.JoinedTies
import Derived.KernelRfl
namespace Go.Proofs.YtonbbibnledleaaDoor
/- THE CELL 'sum', in the pinned program and in every row, IS THE sha256 OF THE DUMP (.gsa) THAT YtonbbibnledleaaDoorProg.lean LOADS. Nothing in Lean hashes anything: it is a label: what it is worth is what the hold of that sum in a sandbox is worth. -/
noncomputable def Tryd.pinned : Pinned := { name := "ytonbbibnledleaadoor", sum := "f3125e8f34bba8c0199d80614936393bb6c0ca7428b73c04abb0909a79d84214", checked := Tryd.checked }
namespace Rows
def none {H : Type} : Left H := { results := [], args := [] }

/- WHAT THE LISTED PACKAGE-LEVEL VARIABLES READ AS WHEN THE CALL BEGINS. Each datum BY PROGRAM (the guide's laid-datum.mjs) off the statement by which the dump's own 'gosem.cut.vars' lays the variable. In a bare row this is a premise. The card (YtonbbibnledleaaDoorCards.lean) ties it to the program's text. -/
def laid_rung_num_names {H : Type} : DataW H := .agg [.lit (.string []), .lit (.string [66, 79, 79, 76]), .lit (.string [83, 73, 78, 84]), .lit (.string [73, 78, 84]), .lit (.string [68, 73, 78, 84]), .lit (.string [85, 83, 73, 78, 84]), .lit (.string [85, 73, 78, 84]), .lit (.string [85, 68, 73, 78, 84]), .lit (.string [66, 89, 84, 69]), .lit (.string [87, 79, 82, 68]), .lit (.string [68, 87, 79, 82, 68]), .lit (.string [84, 73, 77, 69])]

/-- 'runglaw1.NumKinds': WHATEVER THE INPUT: true; the input reads as it did. -/
def numKindsSpec : ChangeSpec := { name := "numKinds", fn := fun _ => fun
  | [d1, d2] => { results := [.lit (.bool true)], args := [d1, d2] }
  | _ => none }
def numKindsRow : OpenClaim := { program := "ytonbbibnledleaadoor", sum := "f3125e8f34bba8c0199d80614936393bb6c0ca7428b73c04abb0909a79d84214", func := "rung/runglaw1.NumKinds", spec := "numKinds", named := ["rung/num.names"], apart := false, laid := [("rung/num.names", laid_rung_num_names)] }
def NumKindsSaid : Prop := numKindsRow.holds Tryd.pinned (OpenSpec.ofChange numKindsSpec)

/-- ITS FALSE NEIGHBOUR: 'it returns false'. Refute it at one input. -/
def numKindsWrong : ChangeSpec := { name := "numKinds", fn := fun _ => fun
  | [d1, d2] => { results := [.lit (.bool false)], args := [d1, d2] }
  | _ => none }
def NumKindsWrongFalsely : Prop := numKindsRow.holds Tryd.pinned (OpenSpec.ofChange numKindsWrong)

/-- 'runglaw1.NumWraps': WHATEVER THE INPUT: true; the input reads as it did. -/
def numWrapsSpec : ChangeSpec := { name := "numWraps", fn := fun _ => fun
  | [d1, d2] => { results := [.lit (.bool true)], args := [d1, d2] }
  | _ => none }
def numWrapsRow : OpenClaim := { program := "ytonbbibnledleaadoor", sum := "f3125e8f34bba8c0199d80614936393bb6c0ca7428b73c04abb0909a79d84214", func := "rung/runglaw1.NumWraps", spec := "numWraps", named := ["rung/num.names"], apart := false, laid := [("rung/num.names", laid_rung_num_names)] }
def NumWrapsSaid : Prop := numWrapsRow.holds Tryd.pinned (OpenSpec.ofChange numWrapsSpec)

/-- ITS FALSE NEIGHBOUR: 'it returns false'. Refute it at one input. -/
def numWrapsWrong : ChangeSpec := { name := "numWraps", fn := fun _ => fun
  | [d1, d2] => { results := [.lit (.bool false)], args := [d1, d2] }
  | _ => none }
def NumWrapsWrongFalsely : Prop := numWrapsRow.holds Tryd.pinned (OpenSpec.ofChange numWrapsWrong)

/-- 'runglaw1.NumApplies': WHATEVER THE INPUT: true; the input reads as it did. -/
def numAppliesSpec : ChangeSpec := { name := "numApplies", fn := fun _ => fun
  | [d1, d2, d3, d4] => { results := [.lit (.bool true)], args := [d1, d2, d3, d4] }
  | _ => none }
def numAppliesRow : OpenClaim := { program := "ytonbbibnledleaadoor", sum := "f3125e8f34bba8c0199d80614936393bb6c0ca7428b73c04abb0909a79d84214", func := "rung/runglaw1.NumApplies", spec := "numApplies", named := ["rung/num.names"], apart := false, laid := [("rung/num.names", laid_rung_num_names)] }
def NumAppliesSaid : Prop := numAppliesRow.holds Tryd.pinned (OpenSpec.ofChange numAppliesSpec)

/-- ITS FALSE NEIGHBOUR: 'it returns false'. Refute it at one input. -/
def numAppliesWrong : ChangeSpec := { name := "numApplies", fn := fun _ => fun
  | [d1, d2, d3, d4] => { results := [.lit (.bool false)], args := [d1, d2, d3, d4] }
  | _ => none }
def NumAppliesWrongFalsely : Prop := numAppliesRow.holds Tryd.pinned (OpenSpec.ofChange numAppliesWrong)

/-- 'runglaw1.NumDivides': WHATEVER THE INPUT: true; the input reads as it did. -/
def numDividesSpec : ChangeSpec := { name := "numDivides", fn := fun _ => fun
  | [d1, d2, d3] => { results := [.lit (.bool true)], args := [d1, d2, d3] }
  | _ => none }
def numDividesRow : OpenClaim := { program := "ytonbbibnledleaadoor", sum := "f3125e8f34bba8c0199d80614936393bb6c0ca7428b73c04abb0909a79d84214", func := "rung/runglaw1.NumDivides", spec := "numDivides", unfollowed := true, recurses := true, named := ["rung/num.names"], apart := false, laid := [("rung/num.names", laid_rung_num_names)] }
def NumDividesSaid : Prop := numDividesRow.holds Tryd.pinned (OpenSpec.ofChange numDividesSpec)

/-- ITS FALSE NEIGHBOUR: 'it returns false'. Refute it at one input. -/
def numDividesWrong : ChangeSpec := { name := "numDivides", fn := fun _ => fun
  | [d1, d2, d3] => { results := [.lit (.bool false)], args := [d1, d2, d3] }
  | _ => none }
def NumDividesWrongFalsely : Prop := numDividesRow.holds Tryd.pinned (OpenSpec.ofChange numDividesWrong)

/-- 'runglaw1.NumRing': WHATEVER THE INPUT: true; the input reads as it did. -/
def numRingSpec : ChangeSpec := { name := "numRing", fn := fun _ => fun
  | [d1, d2, d3, d4] => { results := [.lit (.bool true)], args := [d1, d2, d3, d4] }
  | _ => none }
def numRingRow : OpenClaim := { program := "ytonbbibnledleaadoor", sum := "f3125e8f34bba8c0199d80614936393bb6c0ca7428b73c04abb0909a79d84214", func := "rung/runglaw1.NumRing", spec := "numRing", unfollowed := true, recurses := true, named := ["rung/num.names"], apart := false, laid := [("rung/num.names", laid_rung_num_names)] }
def NumRingSaid : Prop := numRingRow.holds Tryd.pinned (OpenSpec.ofChange numRingSpec)

/-- ITS FALSE NEIGHBOUR: 'it returns false'. Refute it at one input. -/
def numRingWrong : ChangeSpec := { name := "numRing", fn := fun _ => fun
  | [d1, d2, d3, d4] => { results := [.lit (.bool false)], args := [d1, d2, d3, d4] }
  | _ => none }
def NumRingWrongFalsely : Prop := numRingRow.holds Tryd.pinned (OpenSpec.ofChange numRingWrong)

/-- 'runglaw1.NumMoves': WHATEVER THE INPUT: true; the input reads as it did. -/
def numMovesSpec : ChangeSpec := { name := "numMoves", fn := fun _ => fun
  | [d1, d2, d3, d4, d5] => { results := [.lit (.bool true)], args := [d1, d2, d3, d4, d5] }
  | _ => none }
def numMovesRow : OpenClaim := { program := "ytonbbibnledleaadoor", sum := "f3125e8f34bba8c0199d80614936393bb6c0ca7428b73c04abb0909a79d84214", func := "rung/runglaw1.NumMoves", spec := "numMoves", named := ["rung/num.names"], apart := false, laid := [("rung/num.names", laid_rung_num_names)] }
def NumMovesSaid : Prop := numMovesRow.holds Tryd.pinned (OpenSpec.ofChange numMovesSpec)

/-- ITS FALSE NEIGHBOUR: 'it returns false'. Refute it at one input. -/
def numMovesWrong : ChangeSpec := { name := "numMoves", fn := fun _ => fun
  | [d1, d2, d3, d4, d5] => { results := [.lit (.bool false)], args := [d1, d2, d3, d4, d5] }
  | _ => none }
def NumMovesWrongFalsely : Prop := numMovesRow.holds Tryd.pinned (OpenSpec.ofChange numMovesWrong)

/- THE SECOND FORM. 'bulk': how many values and letters a reading holds, each counted each time it is reached (what is shared counts as often as it is met; a slice's spare places count too). A statement '..UptoSaid' is the law's where the arguments, and the package variables that the reading takes, are together of bulk at most 1048576: NARROWER than '..Said'. Prove '..Said' where nothing that the law and all that it calls make is longer than what came in: it says more and counts as full. Else prove '..UptoSaid'. A law counts once. -/
mutual
def uptoBulk {H : Type} : DataW H → Nat
  | .lit (.string bytes) => bytes.length + 1
  | .lit _ => 1
  | .nil => 1
  | .ptr d => uptoBulk d + 1
  | .slice elems spare => uptoBulkAll elems + uptoBulkAll spare + 1
  | .agg parts => uptoBulkAll parts + 1
  | .iface _ d => uptoBulk d + 1
  | .map entries => uptoBulkEntries entries + 1
  | .held _ => 1
def uptoBulkAll {H : Type} : List (DataW H) → Nat
  | [] => 0
  | d :: r => uptoBulk d + uptoBulkAll r
def uptoBulkEntries {H : Type} : List (Lit × DataW H) → Nat
  | [] => 0
  | x :: r => uptoBulkEntry x + uptoBulkEntries r
def uptoBulkEntry {H : Type} : Lit × DataW H → Nat
  | (.string bytes, d) => bytes.length + uptoBulk d + 1
  | (_, d) => uptoBulk d + 1
 end
def uptoSmall : (H : Type) → List (DataW H) → Bool := fun _ ds => decide (uptoBulkAll ds ≤ 1048576)
def OpenSpec.upto (s : _root_.Go.ChangeSpec) : _root_.Go.OpenSpec := { _root_.Go.OpenSpec.ofChange s with cond := some uptoSmall }

/-- 'runglaw1.NumKinds', WHERE WHAT IT READS IS OF BULK AT MOST 1048576: true; the input reads as it did. -/
def numKindsUptoRow : OpenClaim := { program := "ytonbbibnledleaadoor", sum := "f3125e8f34bba8c0199d80614936393bb6c0ca7428b73c04abb0909a79d84214", func := "rung/runglaw1.NumKinds", spec := "numKinds", named := ["rung/num.names"], apart := false, laid := [("rung/num.names", laid_rung_num_names)], narrowed := true }
def NumKindsUptoSaid : Prop := numKindsUptoRow.holds Tryd.pinned (OpenSpec.upto numKindsSpec)

/-- 'runglaw1.NumWraps', WHERE WHAT IT READS IS OF BULK AT MOST 1048576: true; the input reads as it did. -/
def numWrapsUptoRow : OpenClaim := { program := "ytonbbibnledleaadoor", sum := "f3125e8f34bba8c0199d80614936393bb6c0ca7428b73c04abb0909a79d84214", func := "rung/runglaw1.NumWraps", spec := "numWraps", named := ["rung/num.names"], apart := false, laid := [("rung/num.names", laid_rung_num_names)], narrowed := true }
def NumWrapsUptoSaid : Prop := numWrapsUptoRow.holds Tryd.pinned (OpenSpec.upto numWrapsSpec)

/-- 'runglaw1.NumApplies', WHERE WHAT IT READS IS OF BULK AT MOST 1048576: true; the input reads as it did. -/
def numAppliesUptoRow : OpenClaim := { program := "ytonbbibnledleaadoor", sum := "f3125e8f34bba8c0199d80614936393bb6c0ca7428b73c04abb0909a79d84214", func := "rung/runglaw1.NumApplies", spec := "numApplies", named := ["rung/num.names"], apart := false, laid := [("rung/num.names", laid_rung_num_names)], narrowed := true }
def NumAppliesUptoSaid : Prop := numAppliesUptoRow.holds Tryd.pinned (OpenSpec.upto numAppliesSpec)

/-- 'runglaw1.NumDivides', WHERE WHAT IT READS IS OF BULK AT MOST 1048576: true; the input reads as it did. -/
def numDividesUptoRow : OpenClaim := { program := "ytonbbibnledleaadoor", sum := "f3125e8f34bba8c0199d80614936393bb6c0ca7428b73c04abb0909a79d84214", func := "rung/runglaw1.NumDivides", spec := "numDivides", unfollowed := true, recurses := true, named := ["rung/num.names"], apart := false, laid := [("rung/num.names", laid_rung_num_names)], narrowed := true }
def NumDividesUptoSaid : Prop := numDividesUptoRow.holds Tryd.pinned (OpenSpec.upto numDividesSpec)

/-- 'runglaw1.NumRing', WHERE WHAT IT READS IS OF BULK AT MOST 1048576: true; the input reads as it did. -/
def numRingUptoRow : OpenClaim := { program := "ytonbbibnledleaadoor", sum := "f3125e8f34bba8c0199d80614936393bb6c0ca7428b73c04abb0909a79d84214", func := "rung/runglaw1.NumRing", spec := "numRing", unfollowed := true, recurses := true, named := ["rung/num.names"], apart := false, laid := [("rung/num.names", laid_rung_num_names)], narrowed := true }
def NumRingUptoSaid : Prop := numRingUptoRow.holds Tryd.pinned (OpenSpec.upto numRingSpec)

/-- 'runglaw1.NumMoves', WHERE WHAT IT READS IS OF BULK AT MOST 1048576: true; the input reads as it did. -/
def numMovesUptoRow : OpenClaim := { program := "ytonbbibnledleaadoor", sum := "f3125e8f34bba8c0199d80614936393bb6c0ca7428b73c04abb0909a79d84214", func := "rung/runglaw1.NumMoves", spec := "numMoves", named := ["rung/num.names"], apart := false, laid := [("rung/num.names", laid_rung_num_names)], narrowed := true }
def NumMovesUptoSaid : Prop := numMovesUptoRow.holds Tryd.pinned (OpenSpec.upto numMovesSpec)

end Rows
end Go.Proofs.YtonbbibnledleaaDoor
