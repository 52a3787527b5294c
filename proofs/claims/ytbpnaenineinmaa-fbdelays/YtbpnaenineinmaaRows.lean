/-
  No cell of these rows narrows 'for every input' (looked for: loops, veiled, ifaces, maps, wideKeys, modest, calm, conditions, laid).
  DERIVED. THE GIVEN ROWS OF THIS SEAT. 6 by the template 'for every input the law returns true; each argument reads behind the call as it read before'; 0 by the template 'total and deterministic' (their statements: YtbpnaenineinmaaTotals.lean).
  GIVEN WITH THE SEED: the statements are not yours to turn. If you find one false, say at which input.
  Laid BY PROGRAM, IN A SANDBOX (cutbox-rows.mjs): the forced cells as the released guide's own fill.sh prints them over the translation 14f31c9834648100… (all of the seat's roots in one cut). By AI agents, Wed Nov 11 2026. No macro, syntax, notation, axiom, sorry.
-/
import Derived.Test.YtbpnaenineinmaaChecked
import GoSem.Claim
import GoSem.ClaimJoined
import GoSem.ClaimMapViews
import Derived.JoinedTies
import Derived.KernelRfl
namespace Go.Proofs.Ytbpnaenineinmaa
/- THE CELL 'sum', in the pinned program and in every row, IS THE sha256 OF THE DUMP (.gsa) THAT YtbpnaenineinmaaProg.lean LOADS. Nothing in Lean hashes anything: it is a label: what it is worth is what the hold of that sum in a sandbox is worth. -/
noncomputable def Try.pinned : Pinned := { name := "ytbpnaenineinmaa", sum := "14f31c98346481002c9a8f31de4d265cb71fc3fe900b669d1f1271fb22723794", checked := Try.checked }
namespace Rows
def none {H : Type} : Left H := { results := [], args := [] }

/-- 'runglaw17.FbSteps': WHATEVER THE INPUT: true; the input reads as it did. -/
def fbStepsSpec : ChangeSpec := { name := "fbSteps", fn := fun _ => fun
  | [d1, d2, d3, d4, d5, d6] => { results := [.lit (.bool true)], args := [d1, d2, d3, d4, d5, d6] }
  | _ => none }
def fbStepsRow : OpenClaim := { program := "ytbpnaenineinmaa", sum := "14f31c98346481002c9a8f31de4d265cb71fc3fe900b669d1f1271fb22723794", func := "rung/runglaw17.FbSteps", spec := "fbSteps", unfollowed := true, recurses := true, apart := false }
def FbStepsSaid : Prop := fbStepsRow.holds Try.pinned (OpenSpec.ofChange fbStepsSpec)

/-- ITS FALSE NEIGHBOUR: 'it returns false'. Refute it at one input. -/
def fbStepsWrong : ChangeSpec := { name := "fbSteps", fn := fun _ => fun
  | [d1, d2, d3, d4, d5, d6] => { results := [.lit (.bool false)], args := [d1, d2, d3, d4, d5, d6] }
  | _ => none }
def FbStepsWrongFalsely : Prop := fbStepsRow.holds Try.pinned (OpenSpec.ofChange fbStepsWrong)

/-- 'runglaw17.FbTimers': WHATEVER THE INPUT: true; the input reads as it did. -/
def fbTimersSpec : ChangeSpec := { name := "fbTimers", fn := fun _ => fun
  | [d1, d2, d3, d4, d5, d6] => { results := [.lit (.bool true)], args := [d1, d2, d3, d4, d5, d6] }
  | _ => none }
def fbTimersRow : OpenClaim := { program := "ytbpnaenineinmaa", sum := "14f31c98346481002c9a8f31de4d265cb71fc3fe900b669d1f1271fb22723794", func := "rung/runglaw17.FbTimers", spec := "fbTimers", unfollowed := true, recurses := true, apart := false }
def FbTimersSaid : Prop := fbTimersRow.holds Try.pinned (OpenSpec.ofChange fbTimersSpec)

/-- ITS FALSE NEIGHBOUR: 'it returns false'. Refute it at one input. -/
def fbTimersWrong : ChangeSpec := { name := "fbTimers", fn := fun _ => fun
  | [d1, d2, d3, d4, d5, d6] => { results := [.lit (.bool false)], args := [d1, d2, d3, d4, d5, d6] }
  | _ => none }
def FbTimersWrongFalsely : Prop := fbTimersRow.holds Try.pinned (OpenSpec.ofChange fbTimersWrong)

/-- 'runglaw17.FbDelays': WHATEVER THE INPUT: true; the input reads as it did. -/
def fbDelaysSpec : ChangeSpec := { name := "fbDelays", fn := fun _ => fun
  | [d1, d2, d3] => { results := [.lit (.bool true)], args := [d1, d2, d3] }
  | _ => none }
def fbDelaysRow : OpenClaim := { program := "ytbpnaenineinmaa", sum := "14f31c98346481002c9a8f31de4d265cb71fc3fe900b669d1f1271fb22723794", func := "rung/runglaw17.FbDelays", spec := "fbDelays", unfollowed := true, recurses := true, apart := false }
def FbDelaysSaid : Prop := fbDelaysRow.holds Try.pinned (OpenSpec.ofChange fbDelaysSpec)

/-- ITS FALSE NEIGHBOUR: 'it returns false'. Refute it at one input. -/
def fbDelaysWrong : ChangeSpec := { name := "fbDelays", fn := fun _ => fun
  | [d1, d2, d3] => { results := [.lit (.bool false)], args := [d1, d2, d3] }
  | _ => none }
def FbDelaysWrongFalsely : Prop := fbDelaysRow.holds Try.pinned (OpenSpec.ofChange fbDelaysWrong)

/-- 'runglaw17.FbCounts': WHATEVER THE INPUT: true; the input reads as it did. -/
def fbCountsSpec : ChangeSpec := { name := "fbCounts", fn := fun _ => fun
  | [d1, d2, d3, d4] => { results := [.lit (.bool true)], args := [d1, d2, d3, d4] }
  | _ => none }
def fbCountsRow : OpenClaim := { program := "ytbpnaenineinmaa", sum := "14f31c98346481002c9a8f31de4d265cb71fc3fe900b669d1f1271fb22723794", func := "rung/runglaw17.FbCounts", spec := "fbCounts", unfollowed := true, recurses := true, apart := false }
def FbCountsSaid : Prop := fbCountsRow.holds Try.pinned (OpenSpec.ofChange fbCountsSpec)

/-- ITS FALSE NEIGHBOUR: 'it returns false'. Refute it at one input. -/
def fbCountsWrong : ChangeSpec := { name := "fbCounts", fn := fun _ => fun
  | [d1, d2, d3, d4] => { results := [.lit (.bool false)], args := [d1, d2, d3, d4] }
  | _ => none }
def FbCountsWrongFalsely : Prop := fbCountsRow.holds Try.pinned (OpenSpec.ofChange fbCountsWrong)

/-- 'runglaw17.FbLatches': WHATEVER THE INPUT: true; the input reads as it did. -/
def fbLatchesSpec : ChangeSpec := { name := "fbLatches", fn := fun _ => fun
  | [d] => { results := [.lit (.bool true)], args := [d] }
  | _ => none }
def fbLatchesRow : OpenClaim := { program := "ytbpnaenineinmaa", sum := "14f31c98346481002c9a8f31de4d265cb71fc3fe900b669d1f1271fb22723794", func := "rung/runglaw17.FbLatches", spec := "fbLatches", unfollowed := true, recurses := true, apart := false }
def FbLatchesSaid : Prop := fbLatchesRow.holds Try.pinned (OpenSpec.ofChange fbLatchesSpec)

/-- ITS FALSE NEIGHBOUR: 'it returns false'. Refute it at one input. -/
def fbLatchesWrong : ChangeSpec := { name := "fbLatches", fn := fun _ => fun
  | [d] => { results := [.lit (.bool false)], args := [d] }
  | _ => none }
def FbLatchesWrongFalsely : Prop := fbLatchesRow.holds Try.pinned (OpenSpec.ofChange fbLatchesWrong)

/-- 'runglaw17.FbApart': WHATEVER THE INPUT: true; the input reads as it did. -/
def fbApartSpec : ChangeSpec := { name := "fbApart", fn := fun _ => fun
  | [d1, d2, d3, d4, d5] => { results := [.lit (.bool true)], args := [d1, d2, d3, d4, d5] }
  | _ => none }
def fbApartRow : OpenClaim := { program := "ytbpnaenineinmaa", sum := "14f31c98346481002c9a8f31de4d265cb71fc3fe900b669d1f1271fb22723794", func := "rung/runglaw17.FbApart", spec := "fbApart", unfollowed := true, recurses := true, apart := false }
def FbApartSaid : Prop := fbApartRow.holds Try.pinned (OpenSpec.ofChange fbApartSpec)

/-- ITS FALSE NEIGHBOUR: 'it returns false'. Refute it at one input. -/
def fbApartWrong : ChangeSpec := { name := "fbApart", fn := fun _ => fun
  | [d1, d2, d3, d4, d5] => { results := [.lit (.bool false)], args := [d1, d2, d3, d4, d5] }
  | _ => none }
def FbApartWrongFalsely : Prop := fbApartRow.holds Try.pinned (OpenSpec.ofChange fbApartWrong)

/- THE SECOND FORM. 'bulk': how many values and letters a reading holds, each counted each time it is reached (what is shared counts as often as it is met; a slice's spare places count too). A statement '..UptoSaid' is the law's where the arguments, and the package variables that the reading takes, are together of bulk at most 1048576: NARROWER than '..Said'. Prove '..Said' where nothing that the law and all that it calls make is longer than what came in: it says more and counts as full. Else prove '..UptoSaid'. A law counts once. -/
mutual
def uptoBulk {H : Type} : DataW H → Nat
  | .lit (.string bytes) => bytes.length + 1
  | .lit _ => 1
  | .nil => 1
  | .ptr d => uptoBulk d + 1
  | .slice elems spare => uptoBulkAll elems + uptoBulkAll spare + 1
  | .agg parts => uptoBulkAll parts + 1
  | .iface _ d => uptoBulk d + 1
  | .map entries => uptoBulkEntries entries + 1
  | .held _ => 1
def uptoBulkAll {H : Type} : List (DataW H) → Nat
  | [] => 0
  | d :: r => uptoBulk d + uptoBulkAll r
def uptoBulkEntries {H : Type} : List (Lit × DataW H) → Nat
  | [] => 0
  | x :: r => uptoBulkEntry x + uptoBulkEntries r
def uptoBulkEntry {H : Type} : Lit × DataW H → Nat
  | (.string bytes, d) => bytes.length + uptoBulk d + 1
  | (_, d) => uptoBulk d + 1
 end
def uptoSmall : (H : Type) → List (DataW H) → Bool := fun _ ds => decide (uptoBulkAll ds ≤ 1048576)
def OpenSpec.upto (s : _root_.Go.ChangeSpec) : _root_.Go.OpenSpec := { _root_.Go.OpenSpec.ofChange s with cond := some uptoSmall }

/-- 'runglaw17.FbSteps', WHERE WHAT IT READS IS OF BULK AT MOST 1048576: true; the input reads as it did. -/
def fbStepsUptoRow : OpenClaim := { program := "ytbpnaenineinmaa", sum := "14f31c98346481002c9a8f31de4d265cb71fc3fe900b669d1f1271fb22723794", func := "rung/runglaw17.FbSteps", spec := "fbSteps", unfollowed := true, recurses := true, apart := false, narrowed := true }
def FbStepsUptoSaid : Prop := fbStepsUptoRow.holds Try.pinned (OpenSpec.upto fbStepsSpec)

/-- 'runglaw17.FbTimers', WHERE WHAT IT READS IS OF BULK AT MOST 1048576: true; the input reads as it did. -/
def fbTimersUptoRow : OpenClaim := { program := "ytbpnaenineinmaa", sum := "14f31c98346481002c9a8f31de4d265cb71fc3fe900b669d1f1271fb22723794", func := "rung/runglaw17.FbTimers", spec := "fbTimers", unfollowed := true, recurses := true, apart := false, narrowed := true }
def FbTimersUptoSaid : Prop := fbTimersUptoRow.holds Try.pinned (OpenSpec.upto fbTimersSpec)

/-- 'runglaw17.FbDelays', WHERE WHAT IT READS IS OF BULK AT MOST 1048576: true; the input reads as it did. -/
def fbDelaysUptoRow : OpenClaim := { program := "ytbpnaenineinmaa", sum := "14f31c98346481002c9a8f31de4d265cb71fc3fe900b669d1f1271fb22723794", func := "rung/runglaw17.FbDelays", spec := "fbDelays", unfollowed := true, recurses := true, apart := false, narrowed := true }
def FbDelaysUptoSaid : Prop := fbDelaysUptoRow.holds Try.pinned (OpenSpec.upto fbDelaysSpec)

/-- 'runglaw17.FbCounts', WHERE WHAT IT READS IS OF BULK AT MOST 1048576: true; the input reads as it did. -/
def fbCountsUptoRow : OpenClaim := { program := "ytbpnaenineinmaa", sum := "14f31c98346481002c9a8f31de4d265cb71fc3fe900b669d1f1271fb22723794", func := "rung/runglaw17.FbCounts", spec := "fbCounts", unfollowed := true, recurses := true, apart := false, narrowed := true }
def FbCountsUptoSaid : Prop := fbCountsUptoRow.holds Try.pinned (OpenSpec.upto fbCountsSpec)

/-- 'runglaw17.FbLatches', WHERE WHAT IT READS IS OF BULK AT MOST 1048576: true; the input reads as it did. -/
def fbLatchesUptoRow : OpenClaim := { program := "ytbpnaenineinmaa", sum := "14f31c98346481002c9a8f31de4d265cb71fc3fe900b669d1f1271fb22723794", func := "rung/runglaw17.FbLatches", spec := "fbLatches", unfollowed := true, recurses := true, apart := false, narrowed := true }
def FbLatchesUptoSaid : Prop := fbLatchesUptoRow.holds Try.pinned (OpenSpec.upto fbLatchesSpec)

/-- 'runglaw17.FbApart', WHERE WHAT IT READS IS OF BULK AT MOST 1048576: true; the input reads as it did. -/
def fbApartUptoRow : OpenClaim := { program := "ytbpnaenineinmaa", sum := "14f31c98346481002c9a8f31de4d265cb71fc3fe900b669d1f1271fb22723794", func := "rung/runglaw17.FbApart", spec := "fbApart", unfollowed := true, recurses := true, apart := false, narrowed := true }
def FbApartUptoSaid : Prop := fbApartUptoRow.holds Try.pinned (OpenSpec.upto fbApartSpec)

end Rows
end Go.Proofs.Ytbpnaenineinmaa
