/- Unlike bits, both bits, as the walks spell them, of natural numbers. -/
import Derived.Test.YthhlahimaoiinaaProg
import Derived.Test.YthhlahimaoiinaaCrc
import Derived.WalkKit
import Derived.WalkSpells
import Derived.WalkLawsBesides
namespace Go.Proofs.Ythhlahimaoiinaa
open Go.RowKit
open Crc
theorem and1_16 (a : Nat) : bits .and .u16 (a : Int) 1 = ((a % 2 : Nat) : Int) := by
  show IntKind.u16.wrap ((BitVec.ofInt 16 (a : Int) &&& BitVec.ofInt 16 1).toNat : Int) = _
  have h : (BitVec.ofInt 16 (a : Int) &&& BitVec.ofInt 16 1).toNat = a % 2 := by
    rw [BitVec.toNat_and, BitVec.ofInt_natCast, BitVec.toNat_ofNat, show (BitVec.ofInt 16 1).toNat = 1 from rfl, Nat.and_one_is_mod]
    omega
  rw [h, IntKind.wrap_u16]
  omega
theorem and1_32 (a : Nat) : bits .and .u32 (a : Int) 1 = ((a % 2 : Nat) : Int) := by
  show IntKind.u32.wrap ((BitVec.ofInt 32 (a : Int) &&& BitVec.ofInt 32 1).toNat : Int) = _
  have h : (BitVec.ofInt 32 (a : Int) &&& BitVec.ofInt 32 1).toNat = a % 2 := by
    rw [BitVec.toNat_and, BitVec.ofInt_natCast, BitVec.toNat_ofNat, show (BitVec.ofInt 32 1).toNat = 1 from rfl, Nat.and_one_is_mod]
    omega
  rw [h, IntKind.wrap_u32]
  omega
theorem xor_8 {a b : Nat} (ha : a < 256) (hb : b < 256) : bits .xor .u8 (a : Int) (b : Int) = ((a ^^^ b : Nat) : Int) := by
  show IntKind.u8.wrap ((BitVec.ofInt 8 (a : Int) ^^^ BitVec.ofInt 8 (b : Int)).toNat : Int) = _
  have h : (BitVec.ofInt 8 (a : Int) ^^^ BitVec.ofInt 8 (b : Int)).toNat = a ^^^ b := by
    rw [BitVec.toNat_xor, BitVec.ofInt_natCast, BitVec.toNat_ofNat, BitVec.ofInt_natCast, BitVec.toNat_ofNat, Nat.mod_eq_of_lt ha, Nat.mod_eq_of_lt hb]
  have hlt : a ^^^ b < 2 ^ 8 := Nat.xor_lt_two_pow ha hb
  rw [h, IntKind.wrap_u8]
  omega
theorem xor_16 {a b : Nat} (ha : a < 65536) (hb : b < 65536) : bits .xor .u16 (a : Int) (b : Int) = ((a ^^^ b : Nat) : Int) := by
  show IntKind.u16.wrap ((BitVec.ofInt 16 (a : Int) ^^^ BitVec.ofInt 16 (b : Int)).toNat : Int) = _
  have h : (BitVec.ofInt 16 (a : Int) ^^^ BitVec.ofInt 16 (b : Int)).toNat = a ^^^ b := by
    rw [BitVec.toNat_xor, BitVec.ofInt_natCast, BitVec.toNat_ofNat, BitVec.ofInt_natCast, BitVec.toNat_ofNat, Nat.mod_eq_of_lt ha, Nat.mod_eq_of_lt hb]
  have hlt : a ^^^ b < 2 ^ 16 := Nat.xor_lt_two_pow ha hb
  rw [h, IntKind.wrap_u16]
  omega
theorem xor_32 {a b : Nat} (ha : a < 4294967296) (hb : b < 4294967296) : bits .xor .u32 (a : Int) (b : Int) = ((a ^^^ b : Nat) : Int) := by
  show IntKind.u32.wrap ((BitVec.ofInt 32 (a : Int) ^^^ BitVec.ofInt 32 (b : Int)).toNat : Int) = _
  have h : (BitVec.ofInt 32 (a : Int) ^^^ BitVec.ofInt 32 (b : Int)).toNat = a ^^^ b := by
    rw [BitVec.toNat_xor, BitVec.ofInt_natCast, BitVec.toNat_ofNat, BitVec.ofInt_natCast, BitVec.toNat_ofNat, Nat.mod_eq_of_lt ha, Nat.mod_eq_of_lt hb]
  have hlt : a ^^^ b < 2 ^ 32 := Nat.xor_lt_two_pow ha hb
  rw [h, IntKind.wrap_u32]
  omega
theorem half (a : Nat) : (a : Int) / 2 = ((a / 2 : Nat) : Int) := by omega
theorem odd_16 {a : Nat} (h : (bits .and .u16 (a : Int) 1 == 1) = true) : a % 2 = 1 := by
  rw [and1_16, beq_iff_eq] at h
  omega
theorem even_16 {a : Nat} (h : (bits .and .u16 (a : Int) 1 == 1) = false) : ¬ a % 2 = 1 := by
  rw [and1_16, beq_eq_false_iff_ne] at h
  omega
theorem odd_32 {a : Nat} (h : (bits .and .u32 (a : Int) 1 == 1) = true) : a % 2 = 1 := by
  rw [and1_32, beq_iff_eq] at h
  omega
theorem even_32 {a : Nat} (h : (bits .and .u32 (a : Int) 1 == 1) = false) : ¬ a % 2 = 1 := by
  rw [and1_32, beq_eq_false_iff_ne] at h
  omega
theorem step_odd_16 {s k : Nat} (hs : s < 65536) (h : (bits .and .u16 (its 40961 k s : Nat) 1 == 1) = true) : bits .xor .u16 (((its 40961 k s : Nat) : Int) / 2) 40961 = ((its 40961 (k + 1) s : Nat) : Int) := by
  have hl : its 40961 k s < 2 ^ 16 := its_lt (by decide) k hs
  rw [half, its_succ, st, if_pos (odd_16 h)]
  exact xor_16 (by omega) (by decide)
theorem step_even_16 {s k : Nat} (h : (bits .and .u16 (its 40961 k s : Nat) 1 == 1) = false) : ((its 40961 k s : Nat) : Int) / 2 = ((its 40961 (k + 1) s : Nat) : Int) := by
  rw [half, its_succ, st, if_neg (even_16 h)]
theorem step_odd_32 {s k : Nat} (hs : s < 4294967296) (h : (bits .and .u32 (its 3988292384 k s : Nat) 1 == 1) = true) : bits .xor .u32 (((its 3988292384 k s : Nat) : Int) / 2) 3988292384 = ((its 3988292384 (k + 1) s : Nat) : Int) := by
  have hl : its 3988292384 k s < 2 ^ 32 := its_lt (by decide) k hs
  rw [half, its_succ, st, if_pos (odd_32 h)]
  exact xor_32 (by omega) (by decide)
theorem step_even_32 {s k : Nat} (h : (bits .and .u32 (its 3988292384 k s : Nat) 1 == 1) = false) : ((its 3988292384 k s : Nat) : Int) / 2 = ((its 3988292384 (k + 1) s : Nat) : Int) := by
  rw [half, its_succ, st, if_neg (even_32 h)]
theorem int_is {k : IntKind} {a b : Int} (h : a = b) : Value.int k a = .int k b := by rw [h]
end Go.Proofs.Ythhlahimaoiinaa
