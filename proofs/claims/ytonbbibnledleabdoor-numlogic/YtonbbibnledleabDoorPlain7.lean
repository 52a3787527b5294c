/- AND, OR, XOR and NOT are those of sets, in plain mathematics. -/
import Derived.Test.YtonbbibnledleabDoorPlain3
import Derived.Test.YtonbbibnledleabDoorPlain5
namespace Go.Proofs.YtonbbibnledleabDoor
namespace Num
open Go.RowKit
theorem pow_nat (r : Nat) : ((2 ^ r : Nat) : Int) = (2 : Int) ^ r := by simp
theorem wrap_low (n : Int) (j : Nat) (hj : j < 63) : IntKind.i64.wrap n % 2 ^ j = n % 2 ^ j := by
  have hd : ((2 : Int) ^ j) ∣ (18446744073709551616 : Int) := ⟨2 ^ (64 - j), by rw [← Int.pow_add, show j + (64 - j) = 64 by omega]; rfl⟩
  have e : IntKind.i64.wrap n = n + 18446744073709551616 * (-((n + 9223372036854775808) / 18446744073709551616)) := by rw [IntKind.wrap_i64]; omega
  obtain ⟨c, hc⟩ := hd
  rw [e, hc, Int.mul_assoc, Int.add_mul_emod_self_left]
theorem of_low (n : Int) (j : Nat) (hj : j < 63) : (BitVec.ofInt 64 n).toNat % 2 ^ j = (BitVec.ofInt j n).toNat := by
  have hd : ((2 : Int) ^ j) ∣ (((2 ^ 64 : Nat)) : Int) := ⟨2 ^ (64 - j), by rw [← Int.pow_add, show j + (64 - j) = 64 by omega]; rfl⟩
  rw [BitVec.toNat_ofInt, BitVec.toNat_ofInt]
  have hn : 0 ≤ n % ((2 ^ 64 : Nat) : Int) := Int.emod_nonneg _ (by decide)
  have : (((n % ((2 ^ 64 : Nat) : Int)).toNat % 2 ^ j : Nat) : Int) = n % ((2 ^ j : Nat) : Int) := by
    rw [Int.natCast_emod, Int.toNat_of_nonneg hn, pow_nat]
    exact Int.emod_emod_of_dvd _ hd
  rw [← this, Int.toNat_natCast]
theorem and_bv (A B : Int) (j : Nat) (hj : j < 63) : bits .and .i64 A B % 2 ^ j = (((BitVec.ofInt j A &&& BitVec.ofInt j B).toNat : Nat) : Int) := by
  show IntKind.i64.wrap ((BitVec.ofInt 64 A &&& BitVec.ofInt 64 B).toNat : Int) % 2 ^ j = _
  rw [wrap_low _ _ hj, BitVec.toNat_and, ← pow_nat, ← Int.natCast_emod, Nat.and_mod_two_pow, of_low _ _ hj, of_low _ _ hj, BitVec.toNat_and]
theorem or_bv (A B : Int) (j : Nat) (hj : j < 63) : bits .or .i64 A B % 2 ^ j = (((BitVec.ofInt j A ||| BitVec.ofInt j B).toNat : Nat) : Int) := by
  show IntKind.i64.wrap ((BitVec.ofInt 64 A ||| BitVec.ofInt 64 B).toNat : Int) % 2 ^ j = _
  rw [wrap_low _ _ hj, BitVec.toNat_or, ← pow_nat, ← Int.natCast_emod, Nat.or_mod_two_pow, of_low _ _ hj, of_low _ _ hj, BitVec.toNat_or]
theorem xor_bv (A B : Int) (j : Nat) (hj : j < 63) : bits .xor .i64 A B % 2 ^ j = (((BitVec.ofInt j A ^^^ BitVec.ofInt j B).toNat : Nat) : Int) := by
  show IntKind.i64.wrap ((BitVec.ofInt 64 A ^^^ BitVec.ofInt 64 B).toNat : Int) % 2 ^ j = _
  rw [wrap_low _ _ hj, BitVec.toNat_xor, ← pow_nat, ← Int.natCast_emod, Nat.xor_mod_two_pow, of_low _ _ hj, of_low _ _ hj, BitVec.toNat_xor]
theorem wr_bv {k : Int} {W : Nat} (hk : ∀ n, wr k n = n % 2 ^ W) (n : Int) : wr k n = ((BitVec.ofInt W n).toNat : Int) := by
  rw [hk, BitVec.toNat_ofInt, pow_nat, Int.toNat_of_nonneg (Int.emod_nonneg _ (by have : (0 : Int) < 2 ^ W := Int.pow_pos (by decide); omega))]
theorem bv_nat {W : Nat} (x : BitVec W) : BitVec.ofInt W (x.toNat : Int) = x := by rw [BitVec.ofInt_natCast, BitVec.ofNat_toNat, BitVec.setWidth_eq]
theorem bv_wr {k : Int} {W : Nat} (hk : ∀ n, wr k n = n % 2 ^ W) (n : Int) : BitVec.ofInt W (wr k n) = BitVec.ofInt W n := by rw [wr_bv hk, bv_nat]
theorem sc_bits {k : Int} (h : k = 8 ∨ k = 9 ∨ k = 10) : sc k = true := by rcases h with rfl | rfl | rfl <;> decide
theorem ap_and {k : Int} {W : Nat} (h : k = 8 ∨ k = 9 ∨ k = 10) (hk : ∀ n, wr k n = n % 2 ^ W) (hW : W < 63) (a b : Int) : apv 16 k a b = (((BitVec.ofInt W a &&& BitVec.ofInt W b).toNat : Nat) : Int) := by
  unfold apv
  rw [sc_bits h, if_pos rfl]
  show wr k (bits .and .i64 (wr k a) (wr k b)) = _
  rw [hk, and_bv _ _ _ hW, bv_wr hk, bv_wr hk]
theorem ap_or {k : Int} {W : Nat} (h : k = 8 ∨ k = 9 ∨ k = 10) (hk : ∀ n, wr k n = n % 2 ^ W) (hW : W < 63) (a b : Int) : apv 18 k a b = (((BitVec.ofInt W a ||| BitVec.ofInt W b).toNat : Nat) : Int) := by
  unfold apv
  rw [sc_bits h, if_pos rfl]
  show wr k (bits .or .i64 (wr k a) (wr k b)) = _
  rw [hk, or_bv _ _ _ hW, bv_wr hk, bv_wr hk]
theorem ap_xor {k : Int} {W : Nat} (h : k = 8 ∨ k = 9 ∨ k = 10) (hk : ∀ n, wr k n = n % 2 ^ W) (hW : W < 63) (a b : Int) : apv 17 k a b = (((BitVec.ofInt W a ^^^ BitVec.ofInt W b).toNat : Nat) : Int) := by
  unfold apv
  rw [sc_bits h, if_pos rfl]
  show wr k (bits .xor .i64 (wr k a) (wr k b)) = _
  rw [hk, xor_bv _ _ _ hW, bv_wr hk, bv_wr hk]
theorem nt_bv {k : Int} {W : Nat} (h : k = 8 ∨ k = 9 ∨ k = 10) (hk : ∀ n, wr k n = n % 2 ^ W) (a : Int) : ntv k a = (((~~~ BitVec.ofInt W a).toNat : Nat) : Int) := by
  unfold ntv
  rw [if_neg (by omega), wr_bv hk]
  have e : BitVec.ofInt W (-1 - a) = ~~~ BitVec.ofInt W a := by
    rw [BitVec.not_def]
    apply BitVec.eq_of_toNat_eq
    rw [← BitVec.not_def, BitVec.toNat_not, BitVec.toNat_ofInt, BitVec.toNat_ofInt]
    have hp : (0 : Int) < ((2 ^ W : Nat) : Int) := by rw [pow_nat]; exact Int.pow_pos (by decide)
    have h1 := Int.emod_nonneg a (show ((2 ^ W : Nat) : Int) ≠ 0 by omega)
    have h2 := Int.emod_lt_of_pos a hp
    have h3 : (-1 - a) % ((2 ^ W : Nat) : Int) = ((2 ^ W : Nat) : Int) - 1 - a % ((2 ^ W : Nat) : Int) := by
      have e1 : -1 - a = (((2 ^ W : Nat) : Int) - 1 - a % ((2 ^ W : Nat) : Int)) + ((2 ^ W : Nat) : Int) * (-1 - a / ((2 ^ W : Nat) : Int)) := by
        have := Int.mul_ediv_add_emod a ((2 ^ W : Nat) : Int)
        rw [Int.mul_sub]
        omega
      rw [e1, Int.add_mul_emod_self_left]
      exact Int.emod_eq_of_lt (by omega) (by omega)
    rw [h3]
    omega
  rw [e]
theorem q1_bits {k : Int} {W : Nat} (h : k = 8 ∨ k = 9 ∨ k = 10) (hk : ∀ n, wr k n = n % 2 ^ W) (hW : W < 63) (a : Int) : ntv k (ntv k a) = wr k a := by
  have _ := hW
  rw [nt_bv h hk, nt_bv h hk, bv_nat, BitVec.not_not, wr_bv hk]
theorem q2_bits {k : Int} {W : Nat} (h : k = 8 ∨ k = 9 ∨ k = 10) (hk : ∀ n, wr k n = n % 2 ^ W) (hW : W < 63) (a b : Int) : ntv k (apv 16 k a b) = apv 18 k (ntv k a) (ntv k b) := by
  have _ := hW
  rw [nt_bv h hk (apv 16 k a b), ap_and h hk hW, ap_or h hk hW, nt_bv h hk, nt_bv h hk, bv_nat, bv_nat, bv_nat, BitVec.not_and]
theorem q3_bits {k : Int} {W : Nat} (h : k = 8 ∨ k = 9 ∨ k = 10) (hk : ∀ n, wr k n = n % 2 ^ W) (hW : W < 63) (a b c : Int) : apv 16 k a (apv 18 k b c) = apv 18 k (apv 16 k a b) (apv 16 k a c) := by
  have _ := hW
  rw [ap_and h hk hW a (apv 18 k b c), ap_or h hk hW b c, ap_or h hk hW, ap_and h hk hW, ap_and h hk hW, bv_nat, bv_nat, bv_nat]
  congr 2
  ext i hi
  simp [Bool.and_or_distrib_left]
theorem q4_bits {k : Int} {W : Nat} (h : k = 8 ∨ k = 9 ∨ k = 10) (hk : ∀ n, wr k n = n % 2 ^ W) (hW : W < 63) (a b : Int) : apv 17 k a b = apv 16 k (apv 18 k a b) (ntv k (apv 16 k a b)) := by
  have _ := hW
  rw [ap_xor h hk hW, ap_and h hk hW (apv 18 k a b), ap_or h hk hW, nt_bv h hk, ap_and h hk hW, bv_nat, bv_nat, bv_nat]
  congr 2
  ext i hi
  simp
  cases (BitVec.ofInt W a)[i] <;> cases (BitVec.ofInt W b)[i] <;> rfl
theorem q5_bits {k : Int} {W : Nat} (h : k = 8 ∨ k = 9 ∨ k = 10) (hk : ∀ n, wr k n = n % 2 ^ W) (hW : W < 63) (a b : Int) : apv 17 k (apv 17 k a b) b = wr k a := by
  have _ := hW
  rw [ap_xor h hk hW (apv 17 k a b), ap_xor h hk hW, bv_nat, wr_bv hk, BitVec.xor_assoc, BitVec.xor_self, BitVec.xor_zero]
theorem q6_bits {k : Int} {W : Nat} (h : k = 8 ∨ k = 9 ∨ k = 10) (hk : ∀ n, wr k n = n % 2 ^ W) (hW : W < 63) (a : Int) : apv 16 k a (ntv k a) = 0 := by
  have _ := hW
  rw [ap_and h hk hW, nt_bv h hk, bv_nat]
  have e : BitVec.ofInt W a &&& ~~~ BitVec.ofInt W a = BitVec.ofNat W 0 := by
    ext i hi
    simp
  rw [e]
  simp

/- Of BOOL: two numbers, looked at one by one. -/
theorem bool_case (a : Int) : wr 1 a = 0 ∨ wr 1 a = 1 := by rw [wr1]; split <;> simp
theorem apv_bool (op a b : Int) : apv op 1 a b = apv op 1 (wr 1 a) (wr 1 b) := by unfold apv; rw [wr_wr, wr_wr]
theorem ntv_bool (a : Int) : ntv 1 a = ntv 1 (wr 1 a) := by
  show tr (a == 0) = tr (wr 1 a == 0)
  rw [wr1]
  by_cases h : a = 0
  · subst h; rfl
  · rw [if_neg h]
    have : (a == 0) = false := by simpa using h
    rw [this]; rfl
theorem q1_bool (a : Int) : ntv 1 (ntv 1 a) = wr 1 a := by
  rw [ntv_bool a]
  rcases bool_case a with ha | ha <;> simp only [ha] <;> decide +kernel
theorem q2_bool (a b : Int) : ntv 1 (apv 16 1 a b) = apv 18 1 (ntv 1 a) (ntv 1 b) := by
  rw [apv_bool 16 a b, ntv_bool a, ntv_bool b]
  rcases bool_case a with ha | ha <;> rcases bool_case b with hb | hb <;> simp only [ha, hb] <;> decide +kernel
theorem q3_bool (a b c : Int) : apv 16 1 a (apv 18 1 b c) = apv 18 1 (apv 16 1 a b) (apv 16 1 a c) := by
  rw [apv_bool 16 a (apv 18 1 b c), apv_bool 18 b c, apv_bool 16 a b, apv_bool 16 a c]
  rcases bool_case a with ha | ha <;> rcases bool_case b with hb | hb <;> rcases bool_case c with hc | hc <;> simp only [ha, hb, hc] <;> decide +kernel
theorem q4_bool (a b : Int) : apv 17 1 a b = apv 16 1 (apv 18 1 a b) (ntv 1 (apv 16 1 a b)) := by
  rw [apv_bool 17 a b, apv_bool 18 a b, apv_bool 16 a b]
  rcases bool_case a with ha | ha <;> rcases bool_case b with hb | hb <;> simp only [ha, hb] <;> decide +kernel
theorem q5_bool (a b : Int) : apv 17 1 (apv 17 1 a b) b = wr 1 a := by
  rw [apv_bool 17 (apv 17 1 a b) b, apv_bool 17 a b]
  rcases bool_case a with ha | ha <;> rcases bool_case b with hb | hb <;> simp only [ha, hb] <;> decide +kernel
theorem q6_bool (a : Int) : apv 16 1 a (ntv 1 a) = 0 := by
  rw [apv_bool 16 a (ntv 1 a), ntv_bool a]
  rcases bool_case a with ha | ha <;> simp only [ha] <;> decide +kernel
end Num
end Go.Proofs.YtonbbibnledleabDoor
