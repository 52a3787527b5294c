/-
  No cell of these rows narrows 'for every input' (looked for: loops, veiled, ifaces, maps, wideKeys, modest, calm, conditions, laid).
  DERIVED. THE GIVEN ROWS OF THIS SEAT. 6 by the template 'for every input the law returns true; each argument reads behind the call as it read before'; 0 by the template 'total and deterministic' (their statements: YtehbbkdiekgpbaaTotals.lean).
  GIVEN WITH THE SEED: the statements are not yours to turn. If you find one false, say at which input.
  Laid BY PROGRAM, IN A SANDBOX (cutbox-rows.mjs): the forced cells as the released guide's own fill.sh prints them over the translation d55447a97996c7a9… (all of the seat's roots in one cut). By AI agents, Wed Nov 11 2026. No macro, syntax, notation, axiom, sorry.
-/
import Derived.Test.YtehbbkdiekgpbaaChecked
import GoSem.Claim
import GoSem.ClaimJoined
import GoSem.ClaimMapViews
import Derived.JoinedTies
import Derived.KernelRfl
namespace Go.Proofs.Ytehbbkdiekgpbaa
/- THE CELL 'sum', in the pinned program and in every row, IS THE sha256 OF THE DUMP (.gsa) THAT YtehbbkdiekgpbaaProg.lean LOADS. Nothing in Lean hashes anything: it is a label: what it is worth is what the hold of that sum in a sandbox is worth. -/
noncomputable def Try.pinned : Pinned := { name := "ytehbbkdiekgpbaa", sum := "d55447a97996c7a90327607ddc8af65257e1d1b3801322bfba819b9921d3e3a8", checked := Try.checked }
namespace Rows
def none {H : Type} : Left H := { results := [], args := [] }

/-- 'runglaw3.PduRequests': WHATEVER THE INPUT: true; the input reads as it did. -/
def pduRequestsSpec : ChangeSpec := { name := "pduRequests", fn := fun _ => fun
  | [d] => { results := [.lit (.bool true)], args := [d] }
  | _ => none }
def pduRequestsRow : OpenClaim := { program := "ytehbbkdiekgpbaa", sum := "d55447a97996c7a90327607ddc8af65257e1d1b3801322bfba819b9921d3e3a8", func := "rung/runglaw3.PduRequests", spec := "pduRequests", apart := false }
def PduRequestsSaid : Prop := pduRequestsRow.holds Try.pinned (OpenSpec.ofChange pduRequestsSpec)

/-- ITS FALSE NEIGHBOUR: 'it returns false'. Refute it at one input. -/
def pduRequestsWrong : ChangeSpec := { name := "pduRequests", fn := fun _ => fun
  | [d] => { results := [.lit (.bool false)], args := [d] }
  | _ => none }
def PduRequestsWrongFalsely : Prop := pduRequestsRow.holds Try.pinned (OpenSpec.ofChange pduRequestsWrong)

/-- 'runglaw3.PduReads': WHATEVER THE INPUT: true; the input reads as it did. -/
def pduReadsSpec : ChangeSpec := { name := "pduReads", fn := fun _ => fun
  | [d] => { results := [.lit (.bool true)], args := [d] }
  | _ => none }
def pduReadsRow : OpenClaim := { program := "ytehbbkdiekgpbaa", sum := "d55447a97996c7a90327607ddc8af65257e1d1b3801322bfba819b9921d3e3a8", func := "rung/runglaw3.PduReads", spec := "pduReads", apart := false }
def PduReadsSaid : Prop := pduReadsRow.holds Try.pinned (OpenSpec.ofChange pduReadsSpec)

/-- ITS FALSE NEIGHBOUR: 'it returns false'. Refute it at one input. -/
def pduReadsWrong : ChangeSpec := { name := "pduReads", fn := fun _ => fun
  | [d] => { results := [.lit (.bool false)], args := [d] }
  | _ => none }
def PduReadsWrongFalsely : Prop := pduReadsRow.holds Try.pinned (OpenSpec.ofChange pduReadsWrong)

/-- 'runglaw3.PduReplies': WHATEVER THE INPUT: true; the input reads as it did. -/
def pduRepliesSpec : ChangeSpec := { name := "pduReplies", fn := fun _ => fun
  | [d] => { results := [.lit (.bool true)], args := [d] }
  | _ => none }
def pduRepliesRow : OpenClaim := { program := "ytehbbkdiekgpbaa", sum := "d55447a97996c7a90327607ddc8af65257e1d1b3801322bfba819b9921d3e3a8", func := "rung/runglaw3.PduReplies", spec := "pduReplies", apart := false }
def PduRepliesSaid : Prop := pduRepliesRow.holds Try.pinned (OpenSpec.ofChange pduRepliesSpec)

/-- ITS FALSE NEIGHBOUR: 'it returns false'. Refute it at one input. -/
def pduRepliesWrong : ChangeSpec := { name := "pduReplies", fn := fun _ => fun
  | [d] => { results := [.lit (.bool false)], args := [d] }
  | _ => none }
def PduRepliesWrongFalsely : Prop := pduRepliesRow.holds Try.pinned (OpenSpec.ofChange pduRepliesWrong)

/-- 'runglaw3.PduAnswers': WHATEVER THE INPUT: true; the input reads as it did. -/
def pduAnswersSpec : ChangeSpec := { name := "pduAnswers", fn := fun _ => fun
  | [d1, d2] => { results := [.lit (.bool true)], args := [d1, d2] }
  | _ => none }
def pduAnswersRow : OpenClaim := { program := "ytehbbkdiekgpbaa", sum := "d55447a97996c7a90327607ddc8af65257e1d1b3801322bfba819b9921d3e3a8", func := "rung/runglaw3.PduAnswers", spec := "pduAnswers", apart := false }
def PduAnswersSaid : Prop := pduAnswersRow.holds Try.pinned (OpenSpec.ofChange pduAnswersSpec)

/-- ITS FALSE NEIGHBOUR: 'it returns false'. Refute it at one input. -/
def pduAnswersWrong : ChangeSpec := { name := "pduAnswers", fn := fun _ => fun
  | [d1, d2] => { results := [.lit (.bool false)], args := [d1, d2] }
  | _ => none }
def PduAnswersWrongFalsely : Prop := pduAnswersRow.holds Try.pinned (OpenSpec.ofChange pduAnswersWrong)

/-- 'runglaw3.PduMatches': WHATEVER THE INPUT: true; the input reads as it did. -/
def pduMatchesSpec : ChangeSpec := { name := "pduMatches", fn := fun _ => fun
  | [d1, d2, d3, d4, d5] => { results := [.lit (.bool true)], args := [d1, d2, d3, d4, d5] }
  | _ => none }
def pduMatchesRow : OpenClaim := { program := "ytehbbkdiekgpbaa", sum := "d55447a97996c7a90327607ddc8af65257e1d1b3801322bfba819b9921d3e3a8", func := "rung/runglaw3.PduMatches", spec := "pduMatches", apart := false }
def PduMatchesSaid : Prop := pduMatchesRow.holds Try.pinned (OpenSpec.ofChange pduMatchesSpec)

/-- ITS FALSE NEIGHBOUR: 'it returns false'. Refute it at one input. -/
def pduMatchesWrong : ChangeSpec := { name := "pduMatches", fn := fun _ => fun
  | [d1, d2, d3, d4, d5] => { results := [.lit (.bool false)], args := [d1, d2, d3, d4, d5] }
  | _ => none }
def PduMatchesWrongFalsely : Prop := pduMatchesRow.holds Try.pinned (OpenSpec.ofChange pduMatchesWrong)

/-- 'runglaw3.PduBits': WHATEVER THE INPUT: true; the input reads as it did. -/
def pduBitsSpec : ChangeSpec := { name := "pduBits", fn := fun _ => fun
  | [d1, d2, d3] => { results := [.lit (.bool true)], args := [d1, d2, d3] }
  | _ => none }
def pduBitsRow : OpenClaim := { program := "ytehbbkdiekgpbaa", sum := "d55447a97996c7a90327607ddc8af65257e1d1b3801322bfba819b9921d3e3a8", func := "rung/runglaw3.PduBits", spec := "pduBits", apart := false }
def PduBitsSaid : Prop := pduBitsRow.holds Try.pinned (OpenSpec.ofChange pduBitsSpec)

/-- ITS FALSE NEIGHBOUR: 'it returns false'. Refute it at one input. -/
def pduBitsWrong : ChangeSpec := { name := "pduBits", fn := fun _ => fun
  | [d1, d2, d3] => { results := [.lit (.bool false)], args := [d1, d2, d3] }
  | _ => none }
def PduBitsWrongFalsely : Prop := pduBitsRow.holds Try.pinned (OpenSpec.ofChange pduBitsWrong)

/- THE SECOND FORM. 'bulk': how many values and letters a reading holds, each counted each time it is reached (what is shared counts as often as it is met; a slice's spare places count too). A statement '..UptoSaid' is the law's where the arguments, and the package variables that the reading takes, are together of bulk at most 1048576: NARROWER than '..Said'. Prove '..Said' where nothing that the law and all that it calls make is longer than what came in: it says more and counts as full. Else prove '..UptoSaid'. A law counts once. -/
mutual
def uptoBulk {H : Type} : DataW H → Nat
  | .lit (.string bytes) => bytes.length + 1
  | .lit _ => 1
  | .nil => 1
  | .ptr d => uptoBulk d + 1
  | .slice elems spare => uptoBulkAll elems + uptoBulkAll spare + 1
  | .agg parts => uptoBulkAll parts + 1
  | .iface _ d => uptoBulk d + 1
  | .map entries => uptoBulkEntries entries + 1
  | .held _ => 1
def uptoBulkAll {H : Type} : List (DataW H) → Nat
  | [] => 0
  | d :: r => uptoBulk d + uptoBulkAll r
def uptoBulkEntries {H : Type} : List (Lit × DataW H) → Nat
  | [] => 0
  | x :: r => uptoBulkEntry x + uptoBulkEntries r
def uptoBulkEntry {H : Type} : Lit × DataW H → Nat
  | (.string bytes, d) => bytes.length + uptoBulk d + 1
  | (_, d) => uptoBulk d + 1
 end
def uptoSmall : (H : Type) → List (DataW H) → Bool := fun _ ds => decide (uptoBulkAll ds ≤ 1048576)
def OpenSpec.upto (s : _root_.Go.ChangeSpec) : _root_.Go.OpenSpec := { _root_.Go.OpenSpec.ofChange s with cond := some uptoSmall }

/-- 'runglaw3.PduRequests', WHERE WHAT IT READS IS OF BULK AT MOST 1048576: true; the input reads as it did. -/
def pduRequestsUptoRow : OpenClaim := { program := "ytehbbkdiekgpbaa", sum := "d55447a97996c7a90327607ddc8af65257e1d1b3801322bfba819b9921d3e3a8", func := "rung/runglaw3.PduRequests", spec := "pduRequests", apart := false, narrowed := true }
def PduRequestsUptoSaid : Prop := pduRequestsUptoRow.holds Try.pinned (OpenSpec.upto pduRequestsSpec)

/-- 'runglaw3.PduReads', WHERE WHAT IT READS IS OF BULK AT MOST 1048576: true; the input reads as it did. -/
def pduReadsUptoRow : OpenClaim := { program := "ytehbbkdiekgpbaa", sum := "d55447a97996c7a90327607ddc8af65257e1d1b3801322bfba819b9921d3e3a8", func := "rung/runglaw3.PduReads", spec := "pduReads", apart := false, narrowed := true }
def PduReadsUptoSaid : Prop := pduReadsUptoRow.holds Try.pinned (OpenSpec.upto pduReadsSpec)

/-- 'runglaw3.PduReplies', WHERE WHAT IT READS IS OF BULK AT MOST 1048576: true; the input reads as it did. -/
def pduRepliesUptoRow : OpenClaim := { program := "ytehbbkdiekgpbaa", sum := "d55447a97996c7a90327607ddc8af65257e1d1b3801322bfba819b9921d3e3a8", func := "rung/runglaw3.PduReplies", spec := "pduReplies", apart := false, narrowed := true }
def PduRepliesUptoSaid : Prop := pduRepliesUptoRow.holds Try.pinned (OpenSpec.upto pduRepliesSpec)

/-- 'runglaw3.PduAnswers', WHERE WHAT IT READS IS OF BULK AT MOST 1048576: true; the input reads as it did. -/
def pduAnswersUptoRow : OpenClaim := { program := "ytehbbkdiekgpbaa", sum := "d55447a97996c7a90327607ddc8af65257e1d1b3801322bfba819b9921d3e3a8", func := "rung/runglaw3.PduAnswers", spec := "pduAnswers", apart := false, narrowed := true }
def PduAnswersUptoSaid : Prop := pduAnswersUptoRow.holds Try.pinned (OpenSpec.upto pduAnswersSpec)

/-- 'runglaw3.PduMatches', WHERE WHAT IT READS IS OF BULK AT MOST 1048576: true; the input reads as it did. -/
def pduMatchesUptoRow : OpenClaim := { program := "ytehbbkdiekgpbaa", sum := "d55447a97996c7a90327607ddc8af65257e1d1b3801322bfba819b9921d3e3a8", func := "rung/runglaw3.PduMatches", spec := "pduMatches", apart := false, narrowed := true }
def PduMatchesUptoSaid : Prop := pduMatchesUptoRow.holds Try.pinned (OpenSpec.upto pduMatchesSpec)

/-- 'runglaw3.PduBits', WHERE WHAT IT READS IS OF BULK AT MOST 1048576: true; the input reads as it did. -/
def pduBitsUptoRow : OpenClaim := { program := "ytehbbkdiekgpbaa", sum := "d55447a97996c7a90327607ddc8af65257e1d1b3801322bfba819b9921d3e3a8", func := "rung/runglaw3.PduBits", spec := "pduBits", apart := false, narrowed := true }
def PduBitsUptoSaid : Prop := pduBitsUptoRow.holds Try.pinned (OpenSpec.upto pduBitsSpec)

end Rows
end Go.Proofs.Ytehbbkdiekgpbaa
