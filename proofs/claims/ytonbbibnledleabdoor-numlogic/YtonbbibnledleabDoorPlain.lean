/- What the kinds' numbers are, in plain mathematics: widths, wraps, operators. -/
import Derived.WalkKit
namespace Go.Proofs.YtonbbibnledleabDoor
namespace Num
open Go.RowKit

/-- A kind's number is one of eleven, or below, or above. -/
theorem kind_cases (k : Int) : k = 1 ∨ k = 2 ∨ k = 3 ∨ k = 4 ∨ k = 5 ∨ k = 6 ∨ k = 7 ∨ k = 8 ∨ k = 9 ∨ k = 10 ∨ k = 11 ∨ k < 1 ∨ 11 < k := by omega

def wd (k : Int) : Int := if k = 1 then 1 else if k = 2 ∨ k = 5 ∨ k = 8 then 8 else if k = 3 ∨ k = 6 ∨ k = 9 then 16 else if k = 4 ∨ k = 7 ∨ k = 10 ∨ k = 11 then 32 else 0
def sg (k : Int) : Bool := decide (k = 2 ∨ k = 3 ∨ k = 4 ∨ k = 11)
def sc (k : Int) : Bool := decide (1 ≤ k ∧ k ≤ 11)
def lo (k : Int) : Int := if k = 2 then -128 else if k = 3 then -32768 else if k = 4 ∨ k = 11 then -2147483648 else 0
def hi (k : Int) : Int := if k = 1 then 1 else if k = 2 then 127 else if k = 3 then 32767 else if k = 4 ∨ k = 11 then 2147483647 else if k = 5 ∨ k = 8 then 255 else if k = 6 ∨ k = 9 then 65535 else if k = 7 ∨ k = 10 then 4294967295 else 0
def uw (m n : Int) : Int := n % m
def sw (m n : Int) : Int := (n + m / 2) % m - m / 2
def wr (k n : Int) : Int :=
  if k = 1 then (if n = 0 then 0 else 1)
  else if k = 2 then sw 256 n else if k = 3 then sw 65536 n else if k = 4 then sw 4294967296 n
  else if k = 5 then uw 256 n else if k = 6 then uw 65536 n else if k = 7 then uw 4294967296 n
  else if k = 8 then uw 256 n else if k = 9 then uw 65536 n else if k = 10 then uw 4294967296 n
  else if k = 11 then sw 4294967296 n else 0

theorem wd_none {k : Int} (h : k < 1 ∨ 11 < k) : wd k = 0 := by
  unfold wd; rw [if_neg (by omega), if_neg (by omega), if_neg (by omega), if_neg (by omega)]
theorem sg_none {k : Int} (h : k < 1 ∨ 11 < k) : sg k = false := by
  unfold sg; exact decide_eq_false (by omega)
theorem sc_none {k : Int} (h : k < 1 ∨ 11 < k) : sc k = false := by
  unfold sc; exact decide_eq_false (by omega)
theorem lo_none {k : Int} (h : k < 1 ∨ 11 < k) : lo k = 0 := by
  unfold lo; rw [if_neg (by omega), if_neg (by omega), if_neg (by omega)]
theorem hi_none {k : Int} (h : k < 1 ∨ 11 < k) : hi k = 0 := by
  unfold hi; rw [if_neg (by omega), if_neg (by omega), if_neg (by omega), if_neg (by omega), if_neg (by omega), if_neg (by omega), if_neg (by omega)]
theorem wr_none {k : Int} (h : k < 1 ∨ 11 < k) (n : Int) : wr k n = 0 := by
  unfold wr
  rw [if_neg (by omega), if_neg (by omega), if_neg (by omega), if_neg (by omega), if_neg (by omega), if_neg (by omega), if_neg (by omega), if_neg (by omega), if_neg (by omega), if_neg (by omega), if_neg (by omega)]

/- How the program's shifts come to the wraps. -/
theorem s8 (n : Int) : wrap64 (n * 72057594037927936) / 72057594037927936 = sw 256 n := by unfold wrap64 sw; omega
theorem s16 (n : Int) : wrap64 (n * 281474976710656) / 281474976710656 = sw 65536 n := by unfold wrap64 sw; omega
theorem s32 (n : Int) : wrap64 (n * 4294967296) / 4294967296 = sw 4294967296 n := by unfold wrap64 sw; omega
theorem u8 (n : Int) : wrap64 (IntKind.u64.wrap (IntKind.u64.wrap n * 72057594037927936) / 72057594037927936) = uw 256 n := by
  rw [IntKind.wrap_u64, IntKind.wrap_u64]; unfold wrap64 uw; omega
theorem u16 (n : Int) : wrap64 (IntKind.u64.wrap (IntKind.u64.wrap n * 281474976710656) / 281474976710656) = uw 65536 n := by
  rw [IntKind.wrap_u64, IntKind.wrap_u64]; unfold wrap64 uw; omega
theorem u32 (n : Int) : wrap64 (IntKind.u64.wrap (IntKind.u64.wrap n * 4294967296) / 4294967296) = uw 4294967296 n := by
  rw [IntKind.wrap_u64, IntKind.wrap_u64]; unfold wrap64 uw; omega

/-- Any number with the lowest bits kept: the number modulo two to their count. -/
theorem and_mask (n : Int) (j : Nat) (hj : j < 63) : bits .and .i64 n (2 ^ j - 1) = n % 2 ^ j := by
  show IntKind.i64.wrap ((BitVec.ofInt 64 n &&& BitVec.ofInt 64 (2 ^ j - 1)).toNat : Int) = _
  have hp : (2 : Nat) ^ j < 2 ^ 63 := Nat.pow_lt_pow_of_lt (by decide) hj
  have hq : 0 < (2 : Nat) ^ j := Nat.two_pow_pos _
  have e1 : ((2 : Int) ^ j - 1) = ((2 ^ j - 1 : Nat) : Int) := by
    rw [Int.natCast_sub hq]; simp
  have h2 : (BitVec.ofInt 64 ((2 : Int) ^ j - 1)).toNat = 2 ^ j - 1 := by
    rw [e1, BitVec.ofInt_natCast, BitVec.toNat_ofNat]; exact Nat.mod_eq_of_lt (by omega)
  rw [BitVec.toNat_and, h2, Nat.and_two_pow_sub_one_eq_mod, BitVec.toNat_ofInt]
  have h3 : (n % ((2 ^ 64 : Nat) : Int)).toNat % 2 ^ j = (n % 2 ^ j).toNat := by
    have hd : ((2 : Int) ^ j) ∣ ((2 ^ 64 : Nat) : Int) := by
      exact ⟨2 ^ (64 - j), by rw [← Int.pow_add, show j + (64 - j) = 64 by omega]; rfl⟩
    have hn : 0 ≤ n % ((2 ^ 64 : Nat) : Int) := Int.emod_nonneg _ (by decide)
    have hpz : ((2 ^ j : Nat) : Int) = (2 : Int) ^ j := by simp
    have : (((n % ((2 ^ 64 : Nat) : Int)).toNat % 2 ^ j : Nat) : Int) = n % 2 ^ j := by
      rw [Int.natCast_emod, Int.toNat_of_nonneg hn, hpz, Int.emod_emod_of_dvd _ hd]
    rw [← this, Int.toNat_natCast]
  rw [h3]
  have hz : (0 : Int) < 2 ^ j := Int.pow_pos (by decide)
  have h4 : 0 ≤ n % 2 ^ j := Int.emod_nonneg _ (by omega)
  have h5 : n % 2 ^ j < 2 ^ j := Int.emod_lt_of_pos _ hz
  have h6 : (2 : Int) ^ j < 9223372036854775808 := by
    have : ((2 ^ j : Nat) : Int) < ((2 ^ 63 : Nat) : Int) := Int.ofNat_lt.2 hp
    simpa using this
  rw [Int.toNat_of_nonneg h4, IntKind.wrap_i64]
  omega
theorem and8 (n : Int) : bits .and .i64 n 255 = n % 256 := and_mask n 8 (by decide)
theorem and16 (n : Int) : bits .and .i64 n 65535 = n % 65536 := and_mask n 16 (by decide)
theorem and32 (n : Int) : bits .and .i64 n 4294967295 = n % 4294967296 := and_mask n 32 (by decide)
end Num

open Go.RowKit
theorem ret_int {k : IntKind} {a b : Int} (h : a = b) : Ending.returned (.int k a) = .returned (.int k b) := by rw [h]
theorem ret_bool {a b : Bool} (h : a = b) : Ending.returned (.bool a) = .returned (.bool b) := by rw [h]
theorem ret_two {k j : IntKind} {a b c d : Int} (h : a = b) (h' : c = d) : Ending.returned (.tuple #[.int k a, .int j c]) = .returned (.tuple #[.int k b, .int j d]) := by rw [h, h']

/-- What a call makes of the world where it changes nothing that was there. -/
def Kept (w w' : World) : Prop := Below w.heap.size w w'
theorem Kept.refl (w : World) : Kept w w := Below.refl _ _
theorem Kept.trans {a b c : World} (h : Kept a b) (k : Kept b c) : Kept a c := Below.trans h (Below.mono k h.size)
theorem Kept.alloc {a w : World} (h : Kept a w) (o : Obj) : Kept a (w.alloc o) := Below.alloc h h.size o
theorem Kept.drew {a w : World} (h : Kept a w) : Kept a w.drew := Below.drew h
end Go.Proofs.YtonbbibnledleabDoor
