/- A place's text and its number lead back to it: plain mathematics (stage 10). -/
import Derived.Test.YtkalcabhafcdoaaDoorK1
namespace Go.Proofs.YtkalcabhafcdoaaDoor
open Go.RowKit
open Adr
namespace Adr
def fnOf : Nat → Nat
  | 1 => 2
  | 2 => 1
  | 3 => 1
  | 4 => 4
  | _ => 3
/-- A place's text leads back to it. -/
theorem back_text : ∀ a, a < 6 → ∀ n : Nat, n < 128 → (n : Int) < sz (a + 1) → (pa (txt ((a + 1 : Nat) : Int) n) = a + 1 ∧ pn (txt ((a + 1 : Nat) : Int) n) = n ∧ pe (txt ((a + 1 : Nat) : Int) n) = 0) := by decide +kernel
theorem back_num : ∀ a, a < 6 → ∀ n : Nat, n < 128 → (n : Int) < sz (a + 1) → (plA (tbl (fnOf (a + 1))) (coilI ((a + 1 : Nat) : Int) n) = a + 1 ∧ plN (tbl (fnOf (a + 1))) (coilI ((a + 1 : Nat) : Int) n) = n) := by decide +kernel
theorem txt_size (a n : Int) : (txt a n).length ≤ 100 := by
  have h : ∀ k, (dd k).length ≤ 2 := fun k => by rw [← tx_size]; exact dd_size k
  have h1 := h (n / 8).toNat
  have h2 := h (n % 8).toNat
  have h3 := h n.toNat
  have h4 : (hed a.toNat).data.toList.length ≤ 3 := by rw [← Lib.size_eq]; exact name_size _
  unfold txt
  split
  · split
    · simp only [List.length_append, List.length_cons, List.length_nil]; omega
    · simp only [List.length_append]; omega
  · exact Nat.zero_le _
end Adr
end Go.Proofs.YtkalcabhafcdoaaDoor
