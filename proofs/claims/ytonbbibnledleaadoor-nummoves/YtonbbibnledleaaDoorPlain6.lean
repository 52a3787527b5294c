/- Sums and products modulo two to the width. -/
import Derived.Test.YtonbbibnledleaaDoorPlain3
import Derived.Test.YtonbbibnledleaaDoorPlain5
namespace Go.Proofs.YtonbbibnledleaaDoor
namespace Num
open Go.RowKit

/-- Two to a kind's width (of those that are no BOOL). -/
def md (k : Int) : Int := if k = 2 ∨ k = 5 ∨ k = 8 then 256 else if k = 3 ∨ k = 6 ∨ k = 9 then 65536 else 4294967296
theorem kind_in {k : Int} (h : 2 ≤ k ∧ k ≤ 11) : k = 2 ∨ k = 3 ∨ k = 4 ∨ k = 5 ∨ k = 6 ∨ k = 7 ∨ k = 8 ∨ k = 9 ∨ k = 10 ∨ k = 11 := by omega
theorem wr_mod {k : Int} (h : 2 ≤ k ∧ k ≤ 11) (n : Int) : wr k n % md k = n % md k := by
  rcases kind_in h with rfl | rfl | rfl | rfl | rfl | rfl | rfl | rfl | rfl | rfl
  any_goals (show sw 256 n % 256 = n % 256; unfold sw; omega)
  any_goals (show sw 65536 n % 65536 = n % 65536; unfold sw; omega)
  any_goals (show sw 4294967296 n % 4294967296 = n % 4294967296; unfold sw; omega)
  any_goals (show uw 256 n % 256 = n % 256; unfold uw; omega)
  any_goals (show uw 65536 n % 65536 = n % 65536; unfold uw; omega)
  all_goals (show uw 4294967296 n % 4294967296 = n % 4294967296; unfold uw; omega)
theorem wr_eq {k : Int} (h : 2 ≤ k ∧ k ≤ 11) {m n : Int} (e : m % md k = n % md k) : wr k m = wr k n := by
  rcases kind_in h with rfl | rfl | rfl | rfl | rfl | rfl | rfl | rfl | rfl | rfl
  any_goals (have e : m % 256 = n % 256 := e; show sw 256 m = sw 256 n; unfold sw; omega)
  any_goals (have e : m % 65536 = n % 65536 := e; show sw 65536 m = sw 65536 n; unfold sw; omega)
  any_goals (have e : m % 4294967296 = n % 4294967296 := e; show sw 4294967296 m = sw 4294967296 n; unfold sw; omega)
  any_goals (have e : m % 256 = n % 256 := e; show uw 256 m = uw 256 n; exact e)
  any_goals (have e : m % 65536 = n % 65536 := e; show uw 65536 m = uw 65536 n; exact e)
  all_goals (have e : m % 4294967296 = n % 4294967296 := e; show uw 4294967296 m = uw 4294967296 n; exact e)
theorem wrap64_mod {k : Int} (h : 2 ≤ k ∧ k ≤ 11) (n : Int) : wrap64 n % md k = n % md k := by
  rcases kind_in h with rfl | rfl | rfl | rfl | rfl | rfl | rfl | rfl | rfl | rfl
  any_goals (show wrap64 n % 256 = n % 256; unfold wrap64; omega)
  any_goals (show wrap64 n % 65536 = n % 65536; unfold wrap64; omega)
  all_goals (show wrap64 n % 4294967296 = n % 4294967296; unfold wrap64; omega)
theorem sc_in {k : Int} (h : 2 ≤ k ∧ k ≤ 11) : sc k = true := by unfold sc; exact decide_eq_true (by omega)
theorem mod_add {m a b c d : Int} (h : a % m = c % m) (h' : b % m = d % m) : (a + b) % m = (c + d) % m := by
  rw [Int.add_emod, h, h', ← Int.add_emod]
theorem mod_sub {m a b c d : Int} (h : a % m = c % m) (h' : b % m = d % m) : (a - b) % m = (c - d) % m := by
  rw [Int.sub_emod, h, h', ← Int.sub_emod]
theorem mod_mul {m a b c d : Int} (h : a % m = c % m) (h' : b % m = d % m) : (a * b) % m = (c * d) % m := by
  rw [Int.mul_emod, h, h', ← Int.mul_emod]
theorem apv_sc {k : Int} (h : 2 ≤ k ∧ k ≤ 11) (op a b : Int) : apv op k a b = opv op k (wr k a) (wr k b) := by
  unfold apv; rw [sc_in h]; rfl
theorem add_is {k : Int} (h : 2 ≤ k ∧ k ≤ 11) (a b : Int) : apv 8 k a b = wr k (a + b) := by
  rw [apv_sc h]; exact wr_eq h ((wrap64_mod h _).trans (mod_add (wr_mod h _) (wr_mod h _)))
theorem sub_is {k : Int} (h : 2 ≤ k ∧ k ≤ 11) (a b : Int) : apv 9 k a b = wr k (a - b) := by
  rw [apv_sc h]; exact wr_eq h ((wrap64_mod h _).trans (mod_sub (wr_mod h _) (wr_mod h _)))
theorem mul_is {k : Int} (h : 2 ≤ k ∧ k ≤ 11) (a b : Int) : apv 5 k a b = wr k (a * b) := by
  rw [apv_sc h]; exact wr_eq h ((wrap64_mod h _).trans (mod_mul (wr_mod h _) (wr_mod h _)))
theorem neg_is {k : Int} (h : 2 ≤ k ∧ k ≤ 11) (a : Int) : ngv k a = wr k (-a) := wr_eq h (wrap64_mod h _)

/- The ring's laws. -/
theorem r1 {k : Int} (h : 2 ≤ k ∧ k ≤ 11) (a b : Int) : apv 8 k a b = apv 8 k b a := by rw [add_is h, add_is h, Int.add_comm]
theorem r2 {k : Int} (h : 2 ≤ k ∧ k ≤ 11) (a b : Int) : apv 5 k a b = apv 5 k b a := by rw [mul_is h, mul_is h, Int.mul_comm]
theorem r3 {k : Int} (h : 2 ≤ k ∧ k ≤ 11) (a b c : Int) : apv 8 k (apv 8 k a b) c = apv 8 k a (apv 8 k b c) := by
  rw [add_is h, add_is h, add_is h, add_is h]
  exact wr_eq h ((mod_add (wr_mod h _) rfl).trans ((congrArg (· % md k) (Int.add_assoc a b c)).trans (mod_add rfl (wr_mod h _)).symm))
theorem r4 {k : Int} (h : 2 ≤ k ∧ k ≤ 11) (a b c : Int) : apv 5 k (apv 5 k a b) c = apv 5 k a (apv 5 k b c) := by
  rw [mul_is h, mul_is h, mul_is h, mul_is h]
  exact wr_eq h ((mod_mul (wr_mod h _) rfl).trans ((congrArg (· % md k) (Int.mul_assoc a b c)).trans (mod_mul rfl (wr_mod h _)).symm))
theorem r5 {k : Int} (h : 2 ≤ k ∧ k ≤ 11) (a b c : Int) : apv 5 k a (apv 8 k b c) = apv 8 k (apv 5 k a b) (apv 5 k a c) := by
  rw [mul_is h, mul_is h, mul_is h, add_is h, add_is h]
  exact wr_eq h ((mod_mul rfl (wr_mod h _)).trans ((congrArg (· % md k) (Int.mul_add a b c)).trans (mod_add (wr_mod h _) (wr_mod h _)).symm))
theorem r6 {k : Int} (h : 2 ≤ k ∧ k ≤ 11) (a b : Int) : apv 9 k (apv 8 k a b) b = wr k a := by
  rw [sub_is h, add_is h]
  exact wr_eq h ((mod_sub (wr_mod h _) rfl).trans (congrArg (· % md k) (Int.add_sub_cancel a b)))
theorem r7 {k : Int} (h : 2 ≤ k ∧ k ≤ 11) (a : Int) : apv 8 k a (ngv k a) = 0 := by
  rw [add_is h, neg_is h]
  have e := wr_eq h (m := a + wr k (-a)) (n := 0) ((mod_add rfl (wr_mod h _)).trans (congrArg (· % md k) (Int.add_right_neg a)))
  rw [e, wr_zero]
end Num
end Go.Proofs.YtonbbibnledleaaDoor
