/- What the operators make, in plain mathematics. -/
import Derived.Test.YtonbbibnledleabDoorPlain
namespace Go.Proofs.YtonbbibnledleabDoor
namespace Num
open Go.RowKit

/-- Of two wrapped numbers, what an operator makes: the number ahead of its last wrap is in all 64 bits. -/
def tr (b : Bool) : Int := if b then 1 else 0
def opv (op k x y : Int) : Int :=
  if op = 5 then wr k (wrap64 (x * y))
  else if op = 6 then (if y = 0 then 0 else wr k (wrap64 (x.tdiv y)))
  else if op = 7 then (if y = 0 then 0 else wr k (x.tmod y))
  else if op = 8 then wr k (wrap64 (x + y))
  else if op = 9 then wr k (wrap64 (x - y))
  else if op = 10 then tr (decide (x < y))
  else if op = 11 then tr (decide (y < x))
  else if op = 12 then tr (decide (x ≤ y))
  else if op = 13 then tr (decide (y ≤ x))
  else if op = 14 then tr (x == y)
  else if op = 15 then tr (x != y)
  else if op = 16 then wr k (bits .and .i64 x y)
  else if op = 17 then wr k (bits .xor .i64 x y)
  else if op = 18 then wr k (bits .or .i64 x y)
  else 0
def opf (op y : Int) : Int := if (op = 6 ∨ op = 7) ∧ y = 0 then 1 else 0
def apv (op k a b : Int) : Int := if sc k then opv op k (wr k a) (wr k b) else 0
def apf (op k b : Int) : Int := if sc k then opf op (wr k b) else 0
theorem op_cases (o : Int) : o = 5 ∨ o = 6 ∨ o = 7 ∨ o = 8 ∨ o = 9 ∨ o = 10 ∨ o = 11 ∨ o = 12 ∨ o = 13 ∨ o = 14 ∨ o = 15 ∨ o = 16 ∨ o = 17 ∨ o = 18 ∨ o < 5 ∨ 18 < o := by omega
theorem wr_zero (k : Int) : wr k 0 = 0 := by
  rcases kind_cases k with rfl | rfl | rfl | rfl | rfl | rfl | rfl | rfl | rfl | rfl | rfl | h | h
  all_goals first | rfl | exact wr_none (by omega) 0
theorem opv_none {op : Int} (h : op < 5 ∨ 18 < op) (k x y : Int) : opv op k x y = 0 := by
  unfold opv
  rw [if_neg (by omega), if_neg (by omega), if_neg (by omega), if_neg (by omega), if_neg (by omega), if_neg (by omega), if_neg (by omega), if_neg (by omega), if_neg (by omega), if_neg (by omega), if_neg (by omega), if_neg (by omega), if_neg (by omega), if_neg (by omega)]
theorem opf_none {op : Int} (h : ¬ (op = 6 ∨ op = 7)) (y : Int) : opf op y = 0 := by
  unfold opf; rw [if_neg (fun q => h q.1)]
theorem opf_zero {op : Int} (h : op = 6 ∨ op = 7) : opf op 0 = 1 := by unfold opf; rw [if_pos ⟨h, rfl⟩]
theorem opf_not {op y : Int} (h : ¬ y = 0) : opf op y = 0 := by unfold opf; rw [if_neg (fun q => h q.2)]
theorem opv_div0 (k x : Int) : opv 6 k x 0 = 0 := rfl
theorem opv_mod0 (k x : Int) : opv 7 k x 0 = 0 := rfl
theorem opv_div {y : Int} (h : ¬ y = 0) (k x : Int) : opv 6 k x y = wr k (wrap64 (x.tdiv y)) := by
  show (if y = 0 then 0 else _) = _; rw [if_neg h]
theorem opv_mod {y : Int} (h : ¬ y = 0) (k x : Int) : opv 7 k x y = wr k (x.tmod y) := by
  show (if y = 0 then 0 else _) = _; rw [if_neg h]
end Num
end Go.Proofs.YtonbbibnledleabDoor
