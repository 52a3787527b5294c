/-
  No cell of these rows narrows 'for every input' (looked for: loops, veiled, ifaces, maps, wideKeys, modest, calm, conditions, laid).
  DERIVED. THE GIVEN ROWS OF THIS SEAT. 3 by the template 'for every input the law returns true; each argument reads behind the call as it read before'; 0 by the template 'total and deterministic' (their statements: YtmckfoabemmmkaaTotals.lean).
  GIVEN WITH THE SEED: the statements are not yours to turn. If you find one false, say at which input.
  Laid BY PROGRAM, IN A SANDBOX (cutbox-rows.mjs): the forced cells as the released guide's own fill.sh prints them over the translation d5bd6ab24c79f896… (all of the seat's roots in one cut). By AI agents, Wed Nov 11 2026. No macro, syntax, notation, axiom, sorry.
-/
import Derived.Test.YtmckfoabemmmkaaChecked
import GoSem.Claim
import GoSem.ClaimJoined
import GoSem.ClaimMapViews
import Derived.JoinedTies
import Derived.KernelRfl
namespace Go.Proofs.Ytmckfoabemmmkaa
/- THE CELL 'sum', in the pinned program and in every row, IS THE sha256 OF THE DUMP (.gsa) THAT YtmckfoabemmmkaaProg.lean LOADS. Nothing in Lean hashes anything: it is a label: what it is worth is what the hold of that sum in a sandbox is worth. -/
noncomputable def Try.pinned : Pinned := { name := "ytmckfoabemmmkaa", sum := "d5bd6ab24c79f89656ce60aafbc16d69e25336c4265f6bf703b15ebf995b9b9f", checked := Try.checked }
namespace Rows
def none {H : Type} : Left H := { results := [], args := [] }

/-- 'runglaw4.MbapWrites': WHATEVER THE INPUT: true; the input reads as it did. -/
def mbapWritesSpec : ChangeSpec := { name := "mbapWrites", fn := fun _ => fun
  | [d1, d2] => { results := [.lit (.bool true)], args := [d1, d2] }
  | _ => none }
def mbapWritesRow : OpenClaim := { program := "ytmckfoabemmmkaa", sum := "d5bd6ab24c79f89656ce60aafbc16d69e25336c4265f6bf703b15ebf995b9b9f", func := "rung/runglaw4.MbapWrites", spec := "mbapWrites", apart := false }
def MbapWritesSaid : Prop := mbapWritesRow.holds Try.pinned (OpenSpec.ofChange mbapWritesSpec)

/-- ITS FALSE NEIGHBOUR: 'it returns false'. Refute it at one input. -/
def mbapWritesWrong : ChangeSpec := { name := "mbapWrites", fn := fun _ => fun
  | [d1, d2] => { results := [.lit (.bool false)], args := [d1, d2] }
  | _ => none }
def MbapWritesWrongFalsely : Prop := mbapWritesRow.holds Try.pinned (OpenSpec.ofChange mbapWritesWrong)

/-- 'runglaw4.MbapReads': WHATEVER THE INPUT: true; the input reads as it did. -/
def mbapReadsSpec : ChangeSpec := { name := "mbapReads", fn := fun _ => fun
  | [d] => { results := [.lit (.bool true)], args := [d] }
  | _ => none }
def mbapReadsRow : OpenClaim := { program := "ytmckfoabemmmkaa", sum := "d5bd6ab24c79f89656ce60aafbc16d69e25336c4265f6bf703b15ebf995b9b9f", func := "rung/runglaw4.MbapReads", spec := "mbapReads", apart := false }
def MbapReadsSaid : Prop := mbapReadsRow.holds Try.pinned (OpenSpec.ofChange mbapReadsSpec)

/-- ITS FALSE NEIGHBOUR: 'it returns false'. Refute it at one input. -/
def mbapReadsWrong : ChangeSpec := { name := "mbapReads", fn := fun _ => fun
  | [d] => { results := [.lit (.bool false)], args := [d] }
  | _ => none }
def MbapReadsWrongFalsely : Prop := mbapReadsRow.holds Try.pinned (OpenSpec.ofChange mbapReadsWrong)

/-- 'runglaw4.MbapWaits': WHATEVER THE INPUT: true; the input reads as it did. -/
def mbapWaitsSpec : ChangeSpec := { name := "mbapWaits", fn := fun _ => fun
  | [d1, d2] => { results := [.lit (.bool true)], args := [d1, d2] }
  | _ => none }
def mbapWaitsRow : OpenClaim := { program := "ytmckfoabemmmkaa", sum := "d5bd6ab24c79f89656ce60aafbc16d69e25336c4265f6bf703b15ebf995b9b9f", func := "rung/runglaw4.MbapWaits", spec := "mbapWaits", apart := false }
def MbapWaitsSaid : Prop := mbapWaitsRow.holds Try.pinned (OpenSpec.ofChange mbapWaitsSpec)

/-- ITS FALSE NEIGHBOUR: 'it returns false'. Refute it at one input. -/
def mbapWaitsWrong : ChangeSpec := { name := "mbapWaits", fn := fun _ => fun
  | [d1, d2] => { results := [.lit (.bool false)], args := [d1, d2] }
  | _ => none }
def MbapWaitsWrongFalsely : Prop := mbapWaitsRow.holds Try.pinned (OpenSpec.ofChange mbapWaitsWrong)

/- THE SECOND FORM. 'bulk': how many values and letters a reading holds, each counted each time it is reached (what is shared counts as often as it is met; a slice's spare places count too). A statement '..UptoSaid' is the law's where the arguments, and the package variables that the reading takes, are together of bulk at most 1048576: NARROWER than '..Said'. Prove '..Said' where nothing that the law and all that it calls make is longer than what came in: it says more and counts as full. Else prove '..UptoSaid'. A law counts once. -/
mutual
def uptoBulk {H : Type} : DataW H → Nat
  | .lit (.string bytes) => bytes.length + 1
  | .lit _ => 1
  | .nil => 1
  | .ptr d => uptoBulk d + 1
  | .slice elems spare => uptoBulkAll elems + uptoBulkAll spare + 1
  | .agg parts => uptoBulkAll parts + 1
  | .iface _ d => uptoBulk d + 1
  | .map entries => uptoBulkEntries entries + 1
  | .held _ => 1
def uptoBulkAll {H : Type} : List (DataW H) → Nat
  | [] => 0
  | d :: r => uptoBulk d + uptoBulkAll r
def uptoBulkEntries {H : Type} : List (Lit × DataW H) → Nat
  | [] => 0
  | x :: r => uptoBulkEntry x + uptoBulkEntries r
def uptoBulkEntry {H : Type} : Lit × DataW H → Nat
  | (.string bytes, d) => bytes.length + uptoBulk d + 1
  | (_, d) => uptoBulk d + 1
 end
def uptoSmall : (H : Type) → List (DataW H) → Bool := fun _ ds => decide (uptoBulkAll ds ≤ 1048576)
def OpenSpec.upto (s : _root_.Go.ChangeSpec) : _root_.Go.OpenSpec := { _root_.Go.OpenSpec.ofChange s with cond := some uptoSmall }

/-- 'runglaw4.MbapWrites', WHERE WHAT IT READS IS OF BULK AT MOST 1048576: true; the input reads as it did. -/
def mbapWritesUptoRow : OpenClaim := { program := "ytmckfoabemmmkaa", sum := "d5bd6ab24c79f89656ce60aafbc16d69e25336c4265f6bf703b15ebf995b9b9f", func := "rung/runglaw4.MbapWrites", spec := "mbapWrites", apart := false, narrowed := true }
def MbapWritesUptoSaid : Prop := mbapWritesUptoRow.holds Try.pinned (OpenSpec.upto mbapWritesSpec)

/-- 'runglaw4.MbapReads', WHERE WHAT IT READS IS OF BULK AT MOST 1048576: true; the input reads as it did. -/
def mbapReadsUptoRow : OpenClaim := { program := "ytmckfoabemmmkaa", sum := "d5bd6ab24c79f89656ce60aafbc16d69e25336c4265f6bf703b15ebf995b9b9f", func := "rung/runglaw4.MbapReads", spec := "mbapReads", apart := false, narrowed := true }
def MbapReadsUptoSaid : Prop := mbapReadsUptoRow.holds Try.pinned (OpenSpec.upto mbapReadsSpec)

/-- 'runglaw4.MbapWaits', WHERE WHAT IT READS IS OF BULK AT MOST 1048576: true; the input reads as it did. -/
def mbapWaitsUptoRow : OpenClaim := { program := "ytmckfoabemmmkaa", sum := "d5bd6ab24c79f89656ce60aafbc16d69e25336c4265f6bf703b15ebf995b9b9f", func := "rung/runglaw4.MbapWaits", spec := "mbapWaits", apart := false, narrowed := true }
def MbapWaitsUptoSaid : Prop := mbapWaitsUptoRow.holds Try.pinned (OpenSpec.upto mbapWaitsSpec)

end Rows
end Go.Proofs.Ytmckfoabemmmkaa
