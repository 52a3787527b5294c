/- How any two numbers of a kind stand, in plain mathematics. -/
import Derived.Test.YtonbbibnledleabDoorPlain3
import Derived.Test.YtonbbibnledleabDoorPlain5
namespace Go.Proofs.YtonbbibnledleabDoor
namespace Num
open Go.RowKit
/-- What the law's own test tells: the operator's answer is 1. -/
def isb (op k a b : Int) : Bool := apv op k a b == 1
theorem tr_one (p : Bool) : (tr p == 1) = p := by cases p <;> rfl
theorem sc_any {k : Int} (h : 1 ≤ k ∧ k ≤ 11) : sc k = true := by unfold sc; exact decide_eq_true h
theorem isb_lt {k : Int} (h : 1 ≤ k ∧ k ≤ 11) (a b : Int) : isb 10 k a b = decide (wr k a < wr k b) := by
  unfold isb apv; rw [sc_any h, if_pos rfl]; exact tr_one _
theorem isb_gt {k : Int} (h : 1 ≤ k ∧ k ≤ 11) (a b : Int) : isb 11 k a b = decide (wr k b < wr k a) := by
  unfold isb apv; rw [sc_any h, if_pos rfl]; exact tr_one _
theorem isb_le {k : Int} (h : 1 ≤ k ∧ k ≤ 11) (a b : Int) : isb 12 k a b = decide (wr k a ≤ wr k b) := by
  unfold isb apv; rw [sc_any h, if_pos rfl]; exact tr_one _
theorem isb_ge {k : Int} (h : 1 ≤ k ∧ k ≤ 11) (a b : Int) : isb 13 k a b = decide (wr k b ≤ wr k a) := by
  unfold isb apv; rw [sc_any h, if_pos rfl]; exact tr_one _
theorem isb_eq {k : Int} (h : 1 ≤ k ∧ k ≤ 11) (a b : Int) : isb 14 k a b = (wr k a == wr k b) := by
  unfold isb apv; rw [sc_any h, if_pos rfl]; exact tr_one _
theorem isb_ne {k : Int} (h : 1 ≤ k ∧ k ≤ 11) (a b : Int) : isb 15 k a b = (wr k a != wr k b) := by
  unfold isb apv; rw [sc_any h, if_pos rfl]; exact tr_one _
end Num
end Go.Proofs.YtonbbibnledleabDoor
