/- Turned round and back, in plain mathematics. -/
import Derived.Test.YtonbbibnledleaaDoorPlain8
namespace Go.Proofs.YtonbbibnledleaaDoor
namespace Num
open Go.RowKit
theorem pow_cast (r : Nat) : ((2 ^ r : Nat) : Int) = (2 : Int) ^ r := by simp
theorem wrap64_low (n : Int) (j : Nat) (hj : j < 63) : wrap64 n % 2 ^ j = n % 2 ^ j := by
  have hd : ((2 : Int) ^ j) ∣ (18446744073709551616 : Int) := ⟨2 ^ (64 - j), by rw [← Int.pow_add, show j + (64 - j) = 64 by omega]; rfl⟩
  have e : wrap64 n = n + 18446744073709551616 * (-((n + 9223372036854775808) / 18446744073709551616)) := by unfold wrap64; omega
  obtain ⟨c, hc⟩ := hd
  rw [e, hc, Int.mul_assoc, Int.add_mul_emod_self_left]
theorem up_nat (X r W : Nat) (hW : W < 63) : (wrap64 ((X : Int) * 2 ^ r) % 2 ^ W).toNat = X * 2 ^ r % 2 ^ W := by
  rw [wrap64_low _ _ hW, ← pow_cast, ← pow_cast, ← Int.natCast_mul, ← Int.natCast_emod, Int.toNat_natCast]
theorem down_nat (X r W : Nat) (hX : X < 2 ^ W) : ((X : Int) / 2 ^ r % 2 ^ W).toNat = X / 2 ^ r := by
  rw [← pow_cast, ← pow_cast, ← Int.natCast_ediv, ← Int.natCast_emod, Int.toNat_natCast]
  exact Nat.mod_eq_of_lt (Nat.lt_of_le_of_lt (Nat.div_le_self _ _) hX)
theorem rol_nat {k : Int} {W : Nat} (hk : ∀ n, wr k n = n % 2 ^ W) (hW : W < 63) (X r s : Nat) (hX : X < 2 ^ W) :
    wr k (bits .or .i64 (wrap64 ((X : Int) * 2 ^ r)) ((X : Int) / 2 ^ s)) = (((X * 2 ^ r % 2 ^ W) ||| (X / 2 ^ s) : Nat) : Int) := by
  rw [hk, or_low _ _ _ hW, up_nat X r W hW, down_nat X s W hX]
theorem ror_nat {k : Int} {W : Nat} (hk : ∀ n, wr k n = n % 2 ^ W) (hW : W < 63) (X r s : Nat) (hX : X < 2 ^ W) :
    wr k (bits .or .i64 ((X : Int) / 2 ^ s) (wrap64 ((X : Int) * 2 ^ r))) = (((X / 2 ^ s) ||| (X * 2 ^ r % 2 ^ W) : Nat) : Int) := by
  rw [hk, or_low _ _ _ hW, up_nat X r W hW, down_nat X s W hX]
theorem turns {k : Int} {W : Nat} (h : k = 8 ∨ k = 9 ∨ k = 10) (hk : ∀ n, wr k n = n % 2 ^ W) (hd : wd k = W) (hW : 0 < W ∧ W < 63) (a n : Int) : shv tROR k (shv tROL k a n) n = wr k a := by
  rw [shv_ROR h, shv_ROL h]
  generalize max n 0 = m
  have hm0 : 0 ≤ m % (W : Int) := Int.emod_nonneg _ (by omega)
  have hm1 : m % (W : Int) < W := Int.emod_lt_of_pos _ (by omega)
  have hp : (0 : Int) < 2 ^ W := Int.pow_pos (by decide)
  have hx0 : 0 ≤ wr k a := by rw [hk]; exact Int.emod_nonneg _ (by omega)
  have hx1 : wr k a < 2 ^ W := by rw [hk]; exact Int.emod_lt_of_pos _ hp
  obtain ⟨X, hX⟩ := Int.eq_ofNat_of_zero_le hx0
  have hXl : X < 2 ^ W := by rw [hX, ← pow_cast] at hx1; exact Int.ofNat_lt.1 hx1
  obtain ⟨r, hr⟩ := Int.eq_ofNat_of_zero_le hm0
  have hrl : r ≤ W := by omega
  unfold rolv rorv
  rw [hd, hr, hX, show ((W : Int) - (r : Int)).toNat = W - r by omega, Int.toNat_natCast, rol_nat hk hW.2 X r (W - r) hXl]
  generalize hY : (X * 2 ^ r % 2 ^ W ||| X / 2 ^ (W - r)) = Y
  have hYl : Y < 2 ^ W := by
    rw [← hY]
    exact Nat.or_lt_two_pow (Nat.mod_lt _ (Nat.two_pow_pos _)) (Nat.lt_of_le_of_lt (Nat.div_le_self _ _) hXl)
  have e : wr k (Y : Int) = (Y : Int) := by
    rw [hk]; exact Int.emod_eq_of_lt (by omega) (by rw [← pow_cast]; exact Int.ofNat_lt.2 hYl)
  rw [e, ror_nat hk hW.2 Y (W - r) r hYl, ← hY, turn_back W r X hrl hXl]
theorem turns8 (a n : Int) : shv tROR 8 (shv tROL 8 a n) n = wr 8 a := turns (W := 8) (by decide) (fun _ => rfl) rfl (by decide) a n
theorem turns9 (a n : Int) : shv tROR 9 (shv tROL 9 a n) n = wr 9 a := turns (W := 16) (by decide) (fun _ => rfl) rfl (by decide) a n
theorem turns10 (a n : Int) : shv tROR 10 (shv tROL 10 a n) n = wr 10 a := turns (W := 32) (by decide) (fun _ => rfl) rfl (by decide) a n
theorem moves_ends {k : Int} (h : k = 8 ∨ k = 9 ∨ k = 10) (a : Int) : shv tSHL k a (wd k) = 0 ∧ shv tSHR k a (wd k) = 0 ∧ shv tSHL k a 0 = wr k a ∧ shv tSHR k a 0 = wr k a ∧ shv tSHL k a (-1) = wr k a ∧ shv tSHR k a (-1) = wr k a := by
  have hw := wd_bits h
  have hb : wr k (wrap64 (wr k a)) = wr k a := by rw [wr_wrap64 k _ (by omega), wr_wr]
  refine ⟨(shl_out h a (by omega)).symm, (shr_out h a (by omega)).symm, ?_, ?_, ?_, ?_⟩
  · rw [← shl_in h a (by omega) (by omega)]; simpa using hb
  · rw [← shr_in h a (by omega) (by omega)]; simp
  · rw [← shl_neg h a (by omega), hb]
  · rw [← shr_neg h a (by omega)]
end Num
end Go.Proofs.YtonbbibnledleaaDoor
