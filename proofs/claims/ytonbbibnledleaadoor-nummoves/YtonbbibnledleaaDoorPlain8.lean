/- Bits moved and turned round, in plain mathematics. -/
import Derived.Test.YtonbbibnledleaaDoorPlain7
import Derived.Test.YtonbbibnledleaaDoorPlain4
namespace Go.Proofs.YtonbbibnledleaaDoor
namespace Num
open Go.RowKit
def tSHL : ByteArray := ⟨#[83, 72, 76]⟩
def tSHR : ByteArray := ⟨#[83, 72, 82]⟩
def tROL : ByteArray := ⟨#[82, 79, 76]⟩
def tROR : ByteArray := ⟨#[82, 79, 82]⟩
def shlv (k x m : Int) : Int := if wd k ≤ m then 0 else wr k (wrap64 (x * 2 ^ m.toNat))
def shrv (k x m : Int) : Int := if wd k ≤ m then 0 else x / 2 ^ m.toNat
def rolv (k x m : Int) : Int := wr k (bits .or .i64 (wrap64 (x * 2 ^ (m % wd k).toNat)) (x / 2 ^ (wd k - m % wd k).toNat))
def rorv (k x m : Int) : Int := wr k (bits .or .i64 (x / 2 ^ (m % wd k).toNat) (wrap64 (x * 2 ^ (wd k - m % wd k).toNat)))
def shv (s : ByteArray) (k a n : Int) : Int :=
  if k = 8 ∨ k = 9 ∨ k = 10 then
    (if s = tSHL then shlv k (wr k a) (max n 0) else if s = tSHR then shrv k (wr k a) (max n 0)
     else if s = tROL then rolv k (wr k a) (max n 0) else if s = tROR then rorv k (wr k a) (max n 0) else 0)
  else 0
theorem or_comm64 (a b : Int) : bits .or .i64 a b = bits .or .i64 b a := by
  show IntKind.i64.wrap ((BitVec.ofInt 64 a ||| BitVec.ofInt 64 b).toNat : Int) = IntKind.i64.wrap ((BitVec.ofInt 64 b ||| BitVec.ofInt 64 a).toNat : Int)
  rw [BitVec.or_comm]
theorem shv_none (s : ByteArray) {k : Int} (h : ¬ (k = 8 ∨ k = 9 ∨ k = 10)) (a n : Int) : shv s k a n = 0 := by unfold shv; rw [if_neg h]
theorem shv_other {s : ByteArray} (h1 : ¬ s = tSHL) (h2 : ¬ s = tSHR) (h3 : ¬ s = tROL) (h4 : ¬ s = tROR) (k a n : Int) : shv s k a n = 0 := by
  unfold shv
  by_cases hk : k = 8 ∨ k = 9 ∨ k = 10
  · rw [if_pos hk, if_neg h1, if_neg h2, if_neg h3, if_neg h4]
  · rw [if_neg hk]
theorem shv_SHL {k : Int} (h : k = 8 ∨ k = 9 ∨ k = 10) (a n : Int) : shv tSHL k a n = shlv k (wr k a) (max n 0) := by
  unfold shv; rw [if_pos h, if_pos rfl]
theorem shv_SHR {k : Int} (h : k = 8 ∨ k = 9 ∨ k = 10) (a n : Int) : shv tSHR k a n = shrv k (wr k a) (max n 0) := by
  unfold shv; rw [if_pos h, if_neg (by decide), if_pos rfl]
theorem shv_ROL {k : Int} (h : k = 8 ∨ k = 9 ∨ k = 10) (a n : Int) : shv tROL k a n = rolv k (wr k a) (max n 0) := by
  unfold shv; rw [if_pos h, if_neg (by decide), if_neg (by decide), if_pos rfl]
theorem shv_ROR {k : Int} (h : k = 8 ∨ k = 9 ∨ k = 10) (a n : Int) : shv tROR k a n = rorv k (wr k a) (max n 0) := by
  unfold shv; rw [if_pos h, if_neg (by decide), if_neg (by decide), if_neg (by decide), if_pos rfl]
theorem wd_bits {k : Int} (h : k = 8 ∨ k = 9 ∨ k = 10) : 8 ≤ wd k ∧ wd k ≤ 32 := by
  rcases h with rfl | rfl | rfl
  all_goals decide
theorem max_neg {n : Int} (h : n < 0) : max n 0 = 0 := by omega
theorem max_pos {n : Int} (h : 0 ≤ n) : max n 0 = n := by omega
theorem shl_neg {k : Int} (hk : k = 8 ∨ k = 9 ∨ k = 10) (a : Int) {n : Int} (h : n < 0) : wr k (wrap64 (wr k a)) = shv tSHL k a n := by
  have := wd_bits hk
  rw [shv_SHL hk, max_neg h]; unfold shlv; rw [if_neg (by omega)]; simp
theorem shl_in {k : Int} (hk : k = 8 ∨ k = 9 ∨ k = 10) (a : Int) {n : Int} (h : 0 ≤ n) (h' : n < wd k) : wr k (wrap64 (wr k a * 2 ^ n.toNat)) = shv tSHL k a n := by
  rw [shv_SHL hk, max_pos h]; unfold shlv; rw [if_neg (by omega)]
theorem shl_out {k : Int} (hk : k = 8 ∨ k = 9 ∨ k = 10) (a : Int) {n : Int} (h' : wd k ≤ n) : 0 = shv tSHL k a n := by
  have := wd_bits hk
  rw [shv_SHL hk, max_pos (by omega)]; unfold shlv; rw [if_pos h']
theorem shl_out8 (a : Int) {n : Int} (h' : 8 ≤ n) : wr 8 (wrap64 (wr 8 a * 256)) = shv tSHL 8 a n := by
  rw [← shl_out (k := 8) (by decide) a (n := n) h']; show uw 256 (wrap64 (uw 256 a * 256)) = 0; unfold uw wrap64; omega
theorem shl_out9 (a : Int) {n : Int} (h' : 16 ≤ n) : wr 9 (wrap64 (wr 9 a * 65536)) = shv tSHL 9 a n := by
  rw [← shl_out (k := 9) (by decide) a (n := n) h']; show uw 65536 (wrap64 (uw 65536 a * 65536)) = 0; unfold uw wrap64; omega
theorem shl_out10 (a : Int) {n : Int} (h' : 32 ≤ n) : wr 10 (wrap64 (wr 10 a * 4294967296)) = shv tSHL 10 a n := by
  rw [← shl_out (k := 10) (by decide) a (n := n) h']; show uw 4294967296 (wrap64 (uw 4294967296 a * 4294967296)) = 0; unfold uw wrap64; omega
theorem shr_neg {k : Int} (hk : k = 8 ∨ k = 9 ∨ k = 10) (a : Int) {n : Int} (h : n < 0) : wr k a = shv tSHR k a n := by
  have := wd_bits hk
  rw [shv_SHR hk, max_neg h]; unfold shrv; rw [if_neg (by omega)]; simp
theorem shr_in {k : Int} (hk : k = 8 ∨ k = 9 ∨ k = 10) (a : Int) {n : Int} (h : 0 ≤ n) (h' : n < wd k) : wr k a / 2 ^ n.toNat = shv tSHR k a n := by
  rw [shv_SHR hk, max_pos h]; unfold shrv; rw [if_neg (by omega)]
theorem shr_out {k : Int} (hk : k = 8 ∨ k = 9 ∨ k = 10) (a : Int) {n : Int} (h' : wd k ≤ n) : 0 = shv tSHR k a n := by
  have := wd_bits hk
  rw [shv_SHR hk, max_pos (by omega)]; unfold shrv; rw [if_pos h']
theorem shr_out8 (a : Int) {n : Int} (h' : 8 ≤ n) : wr 8 a / 256 = shv tSHR 8 a n := by
  rw [← shr_out (k := 8) (by decide) a (n := n) h']; show uw 256 a / 256 = 0; unfold uw; omega
theorem shr_out9 (a : Int) {n : Int} (h' : 16 ≤ n) : wr 9 a / 65536 = shv tSHR 9 a n := by
  rw [← shr_out (k := 9) (by decide) a (n := n) h']; show uw 65536 a / 65536 = 0; unfold uw; omega
theorem shr_out10 (a : Int) {n : Int} (h' : 32 ≤ n) : wr 10 a / 4294967296 = shv tSHR 10 a n := by
  rw [← shr_out (k := 10) (by decide) a (n := n) h']; show uw 4294967296 a / 4294967296 = 0; unfold uw; omega
theorem rol_in {k : Int} (hk : k = 8 ∨ k = 9 ∨ k = 10) (a : Int) {n : Int} (h : 0 ≤ n) : wr k (bits .or .i64 (wrap64 (wr k a * 2 ^ (n % wd k).toNat)) (wr k a / 2 ^ (wd k - n % wd k).toNat)) = shv tROL k a n := by
  rw [shv_ROL hk, max_pos h]; rfl
theorem rol_neg {k : Int} (hk : k = 8 ∨ k = 9 ∨ k = 10) (a : Int) {n : Int} (h : n < 0) : wr k (bits .or .i64 (wrap64 (wr k a)) (wr k a / 2 ^ (wd k).toNat)) = shv tROL k a n := by
  rw [shv_ROL hk, max_neg h]; unfold rolv; simp
theorem ror_r {k : Int} (hk : k = 8 ∨ k = 9 ∨ k = 10) (a : Int) {n : Int} (h : 0 ≤ n) : wr k (bits .or .i64 (wr k a / 2 ^ (n % wd k).toNat) (wrap64 (wr k a * 2 ^ (wd k - n % wd k).toNat))) = shv tROR k a n := by
  rw [shv_ROR hk, max_pos h]; rfl
theorem ror_rneg {k : Int} (hk : k = 8 ∨ k = 9 ∨ k = 10) (a : Int) {n : Int} (h : n < 0) : wr k (bits .or .i64 (wr k a) (wrap64 (wr k a * 2 ^ (wd k).toNat))) = shv tROR k a n := by
  rw [shv_ROR hk, max_neg h]; unfold rorv; simp
theorem ror_n {k : Int} (hk : k = 8 ∨ k = 9 ∨ k = 10) (a : Int) {n : Int} (h : 0 ≤ n) : wr k (bits .or .i64 (wrap64 (wr k a * 2 ^ (wd k - n % wd k).toNat)) (wr k a / 2 ^ (wd k - (wd k - n % wd k)).toNat)) = shv tROR k a n := by
  rw [← ror_r hk a h, or_comm64, show wd k - (wd k - n % wd k) = n % wd k by omega]
theorem ror_nneg {k : Int} (hk : k = 8 ∨ k = 9 ∨ k = 10) (a : Int) {n : Int} (h : n < 0) : wr k (bits .or .i64 (wrap64 (wr k a * 2 ^ (wd k).toNat)) (wr k a)) = shv tROR k a n := by
  rw [← ror_rneg hk a h, or_comm64]

/- Turned round and back. -/
theorem or_low (A B : Int) (j : Nat) (hj : j < 63) : bits .or .i64 A B % 2 ^ j = (((A % 2 ^ j).toNat ||| (B % 2 ^ j).toNat : Nat) : Int) := by
  show IntKind.i64.wrap ((BitVec.ofInt 64 A ||| BitVec.ofInt 64 B).toNat : Int) % 2 ^ j = _
  have hd : ((2 : Int) ^ j) ∣ (18446744073709551616 : Int) := ⟨2 ^ (64 - j), by rw [← Int.pow_add, show j + (64 - j) = 64 by omega]; rfl⟩
  have hp : ((2 ^ j : Nat) : Int) = (2 : Int) ^ j := by simp
  have hw : ∀ n : Int, IntKind.i64.wrap n % 2 ^ j = n % 2 ^ j := fun n => by
    have e : IntKind.i64.wrap n = n + 18446744073709551616 * (-((n + 9223372036854775808) / 18446744073709551616)) := by rw [IntKind.wrap_i64]; omega
    obtain ⟨c, hc⟩ := hd
    rw [e, hc, Int.mul_assoc, Int.add_mul_emod_self_left]
  have hl : ∀ n : Int, (BitVec.ofInt 64 n).toNat % 2 ^ j = (n % 2 ^ j).toNat := fun n => by
    rw [BitVec.toNat_ofInt]
    have hn : 0 ≤ n % ((2 ^ 64 : Nat) : Int) := Int.emod_nonneg _ (by decide)
    have : (((n % ((2 ^ 64 : Nat) : Int)).toNat % 2 ^ j : Nat) : Int) = n % 2 ^ j := by
      rw [Int.natCast_emod, Int.toNat_of_nonneg hn, hp]
      exact Int.emod_emod_of_dvd _ hd
    rw [← this, Int.toNat_natCast]
  rw [hw, BitVec.toNat_or, ← hp, ← Int.natCast_emod, Nat.or_mod_two_pow, hl, hl, hp]
theorem turn_back (w r x : Nat) (hr : r ≤ w) (hx : x < 2 ^ w) :
    (((x * 2 ^ r % 2 ^ w) ||| (x / 2 ^ (w - r))) / 2 ^ r) ||| (((x * 2 ^ r % 2 ^ w) ||| (x / 2 ^ (w - r))) * 2 ^ (w - r) % 2 ^ w) = x := by
  obtain ⟨s, rfl⟩ : ∃ s, w = r + s := ⟨w - r, by omega⟩
  rw [show r + s - r = s by omega]
  have hs : 0 < 2 ^ s := Nat.two_pow_pos _
  have hr' : 0 < 2 ^ r := Nat.two_pow_pos _
  have hxl : x % 2 ^ s < 2 ^ s := Nat.mod_lt _ hs
  have hxh : x / 2 ^ s < 2 ^ r := Nat.div_lt_of_lt_mul (by rw [Nat.mul_comm, ← Nat.pow_add]; exact hx)
  have hxe : 2 ^ s * (x / 2 ^ s) + x % 2 ^ s = x := Nat.div_add_mod x (2 ^ s)
  generalize x / 2 ^ s = h at *
  generalize x % 2 ^ s = l at *
  have e1 : x * 2 ^ r % 2 ^ (r + s) = 2 ^ r * l := by
    rw [← hxe, Nat.pow_add, Nat.add_mul, show 2 ^ s * h * 2 ^ r = 2 ^ r * 2 ^ s * h by rw [Nat.mul_right_comm, Nat.mul_comm (2 ^ s) (2 ^ r)], Nat.mul_add_mod, Nat.mul_comm l]
    exact Nat.mod_eq_of_lt (Nat.mul_lt_mul_of_pos_left hxl hr')
  rw [e1, ← Nat.two_pow_add_eq_or_of_lt hxh]
  have e2 : (2 ^ r * l + h) / 2 ^ r = l := by rw [Nat.mul_add_div hr', Nat.div_eq_of_lt hxh]; rfl
  have e3 : (2 ^ r * l + h) * 2 ^ s % 2 ^ (r + s) = 2 ^ s * h := by
    rw [Nat.pow_add, Nat.add_mul, show 2 ^ r * l * 2 ^ s = 2 ^ r * 2 ^ s * l by rw [Nat.mul_right_comm], Nat.mul_add_mod, Nat.mul_comm h]
    exact Nat.mod_eq_of_lt (by rw [Nat.mul_comm (2 ^ r)]; exact Nat.mul_lt_mul_of_pos_left hxh hs)
  rw [e2, e3, Nat.or_comm, ← Nat.two_pow_add_eq_or_of_lt hxl, hxe]
end Num
end Go.Proofs.YtonbbibnledleaaDoor
