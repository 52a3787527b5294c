/- Opposites and turned bits, in plain mathematics. -/
import Derived.Test.YtonbbibnledleabDoorPlain2
namespace Go.Proofs.YtonbbibnledleabDoor
namespace Num
open Go.RowKit
theorem not64 (a : Int) : bits .xor .i64 (-1) a = wrap64 (-1 - a) := by
  show IntKind.i64.wrap ((BitVec.ofInt 64 (-1) ^^^ BitVec.ofInt 64 a).toNat : Int) = _
  have h1 : BitVec.ofInt 64 (-1) = BitVec.allOnes 64 := by decide
  rw [h1, BitVec.allOnes_xor, BitVec.toNat_not, BitVec.toNat_ofInt, IntKind.wrap_i64]
  unfold wrap64
  have := Int.emod_nonneg a (show ((2 ^ 64 : Nat) : Int) ≠ 0 by decide)
  omega
/-- A number and its wrap to 64 bits are wrapped alike. -/
theorem wr_wrap64 (k n : Int) (h : k ≠ 1) : wr k (wrap64 n) = wr k n := by
  rcases kind_cases k with rfl | rfl | rfl | rfl | rfl | rfl | rfl | rfl | rfl | rfl | rfl | h | h
  · exact absurd rfl h
  any_goals (show sw _ _ = sw _ _; unfold sw wrap64; omega)
  any_goals (show uw _ _ = uw _ _; unfold uw wrap64; omega)
  all_goals rw [wr_none (by omega), wr_none (by omega)]
def ngv (k a : Int) : Int := wr k (wrap64 (-a))
def ntv (k a : Int) : Int := if k = 1 then tr (a == 0) else wr k (-1 - a)
theorem wr1 (a : Int) : wr 1 a = if a = 0 then 0 else 1 := rfl
theorem neg_eq (k a : Int) (h1 : -9223372036854775808 ≤ a) (h2 : a ≤ 9223372036854775807) : wr k (wrap64 (-(wr k a))) = ngv k a := by
  unfold ngv
  rcases kind_cases k with rfl | rfl | rfl | rfl | rfl | rfl | rfl | rfl | rfl | rfl | rfl | h | h
  · by_cases h : a = 0
    · subst h; rfl
    · have e : wr 1 a = 1 := by rw [wr1, if_neg h]
      rw [e]
      have : ¬ wrap64 (-a) = 0 := by unfold wrap64; omega
      rw [wr1 (wrap64 (-a)), if_neg this, wr1 (wrap64 (-1)), if_neg (by unfold wrap64; omega)]
  any_goals (show sw _ (wrap64 (- (sw _ _))) = sw _ _; unfold sw wrap64; omega)
  any_goals (show uw _ (wrap64 (- (uw _ _))) = uw _ _; unfold uw wrap64; omega)
  all_goals rw [wr_none (by omega), wr_none (by omega)]
theorem not_n (k a : Int) (h : k ≠ 1) : wr k (bits .xor .i64 (-1) a) = ntv k a := by
  unfold ntv; rw [if_neg h, not64, wr_wrap64 k _ h]
theorem not_r (k a : Int) (h : k ≠ 1) : wr k (bits .xor .i64 (-1) (wr k a)) = ntv k a := by
  unfold ntv; rw [if_neg h, not64, wr_wrap64 k _ h]
  rcases kind_cases k with rfl | rfl | rfl | rfl | rfl | rfl | rfl | rfl | rfl | rfl | rfl | h | h
  · exact absurd rfl h
  any_goals (show sw _ (-1 - sw _ _) = sw _ _; unfold sw; omega)
  any_goals (show uw _ (-1 - uw _ _) = uw _ _; unfold uw; omega)
  all_goals rw [wr_none (by omega), wr_none (by omega)]
theorem not_r1 (a : Int) : 1 - wr 1 a = ntv 1 a := by
  by_cases h : a = 0
  · subst h; rfl
  · have e : wr 1 a = 1 := by rw [wr1, if_neg h]
    rw [e]
    show _ = tr (a == 0)
    have : (a == 0) = false := by simpa using h
    rw [this]; rfl
end Num
end Go.Proofs.YtonbbibnledleabDoor
