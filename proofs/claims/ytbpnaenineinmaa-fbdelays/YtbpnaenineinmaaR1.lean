/- The reference's Wrap of INT, DINT, TIME; help's Place (stage 17). -/
import Derived.Test.YtbpnaenineinmaaK1
namespace Go.Proofs.Ytbpnaenineinmaa
open Go.RowKit
open Fb
/-- Any number with the lowest bits kept: the number modulo two to their count. -/
theorem and_mask (n : Int) (j : Nat) (hj : j < 63) : bits .and .i64 n (2 ^ j - 1) = n % 2 ^ j := by
  show IntKind.i64.wrap ((BitVec.ofInt 64 n &&& BitVec.ofInt 64 (2 ^ j - 1)).toNat : Int) = _
  have hp : (2 : Nat) ^ j < 2 ^ 63 := Nat.pow_lt_pow_of_lt (by decide) hj
  have hq : 0 < (2 : Nat) ^ j := Nat.two_pow_pos _
  have e1 : ((2 : Int) ^ j - 1) = ((2 ^ j - 1 : Nat) : Int) := by
    rw [Int.natCast_sub hq]; simp
  have h2 : (BitVec.ofInt 64 ((2 : Int) ^ j - 1)).toNat = 2 ^ j - 1 := by
    rw [e1, BitVec.ofInt_natCast, BitVec.toNat_ofNat]; exact Nat.mod_eq_of_lt (by omega)
  rw [BitVec.toNat_and, h2, Nat.and_two_pow_sub_one_eq_mod, BitVec.toNat_ofInt]
  have h3 : (n % ((2 ^ 64 : Nat) : Int)).toNat % 2 ^ j = (n % 2 ^ j).toNat := by
    have hd : ((2 : Int) ^ j) ∣ ((2 ^ 64 : Nat) : Int) := by
      exact ⟨2 ^ (64 - j), by rw [← Int.pow_add, show j + (64 - j) = 64 by omega]; rfl⟩
    have hn : 0 ≤ n % ((2 ^ 64 : Nat) : Int) := Int.emod_nonneg _ (by decide)
    have hpz : ((2 ^ j : Nat) : Int) = (2 : Int) ^ j := by simp
    have : (((n % ((2 ^ 64 : Nat) : Int)).toNat % 2 ^ j : Nat) : Int) = n % 2 ^ j := by
      rw [Int.natCast_emod, Int.toNat_of_nonneg hn, hpz, Int.emod_emod_of_dvd _ hd]
    rw [← this, Int.toNat_natCast]
  rw [h3]
  have hz : (0 : Int) < 2 ^ j := Int.pow_pos (by decide)
  have h4 : 0 ≤ n % 2 ^ j := Int.emod_nonneg _ (by omega)
  have h5 : n % 2 ^ j < 2 ^ j := Int.emod_lt_of_pos _ hz
  have h6 : (2 : Int) ^ j < 9223372036854775808 := by
    have : ((2 ^ j : Nat) : Int) < ((2 ^ 63 : Nat) : Int) := Int.ofNat_lt.2 hp
    simpa using this
  rw [Int.toNat_of_nonneg h4, IntKind.wrap_i64]
  omega
theorem and16 (n : Int) : bits .and .i64 n 65535 = n % 65536 := and_mask n 16 (by decide)
theorem and32 (n : Int) : bits .and .i64 n 4294967295 = n % 4294967296 := and_mask n 32 (by decide)
theorem down16 (n : Int) (h : 32767 < n % 65536) : n % 65536 - 65536 = w16 n := by unfold w16; omega
theorem down32 (n : Int) (h : 2147483647 < n % 4294967296) : n % 4294967296 - 4294967296 = w32 n := by unfold w32; omega
theorem stay16 (n : Int) (h : ¬ 32767 < n % 65536) : n % 65536 = w16 n := by unfold w16; omega
theorem stay32 (n : Int) (h : ¬ 2147483647 < n % 4294967296) : n % 4294967296 = w32 n := by unfold w32; omega
theorem below_drew {B : Nat} {a w : World} (h : Below B a w) : Below B a w.drew := ⟨h.os, h.tape, h.output, h.size, h.block⟩
set_option maxHeartbeats 1000000 in
theorem rwidth_3 (w : World) : Calls Try.prog 25 #[.int .i64 3] w fun e w' => e = .returned (.int .i64 16) ∧ Below w.heap.size w w' := by
  go_enter Try.func25, Try.ntmps25
  go_wp2
  go_ret
  exact ⟨rfl, below_new (Below.refl _ _) _⟩
set_option maxHeartbeats 2000000 in
theorem rrange_3 (w : World) : Calls Try.prog 26 #[.int .i64 3] w fun e w' => e = .returned (.tuple #[.int .i64 (-32768), .int .i64 32767]) ∧ Below w.heap.size w w' := by
  go_enter Try.func26, Try.ntmps26
  go_wp2
  go_region
  all_goals go_wp2
  all_goals go_ret2
  all_goals exact ⟨rfl, below_drew (below_new (Below.refl _ _) _)⟩
set_option maxHeartbeats 2000000 in
theorem rwrap_3 (n : Int) (w : World) : Calls Try.prog 15 #[.int .i64 3, .int .i64 n] w fun e w' => e = .returned (.int .i64 (w16 n)) ∧ Below w.heap.size w w' := by
  have e := and16 n
  have X := hid_as (rwidth_3 w)
  have Y := hid_as (fun U => rrange_3 U)
  by_cases h : 32767 < n % 65536
  · go_enter Try.func15, Try.ntmps15
    go_wp2_with (first | (go_at_call 25; refine X.out.mono ?_; rintro e w1 ⟨rfl, k1⟩) | (go_at_call 26; refine (Y.out _).mono ?_; rintro e w2 ⟨rfl, k2⟩))
    go_ret
    exact ⟨ret_int (down16 n h), below_and k1 k2⟩
  · go_enter Try.func15, Try.ntmps15
    go_wp2_with (first | (go_at_call 25; refine X.out.mono ?_; rintro e w1 ⟨rfl, k1⟩) | (go_at_call 26; refine (Y.out _).mono ?_; rintro e w2 ⟨rfl, k2⟩))
    go_ret
    exact ⟨ret_int (stay16 n (by omega)), below_and k1 k2⟩
set_option maxHeartbeats 1000000 in
theorem rwidth_4 (w : World) : Calls Try.prog 25 #[.int .i64 4] w fun e w' => e = .returned (.int .i64 32) ∧ Below w.heap.size w w' := by
  go_enter Try.func25, Try.ntmps25
  go_wp2
  go_ret
  exact ⟨rfl, below_new (Below.refl _ _) _⟩
set_option maxHeartbeats 2000000 in
theorem rrange_4 (w : World) : Calls Try.prog 26 #[.int .i64 4] w fun e w' => e = .returned (.tuple #[.int .i64 (-2147483648), .int .i64 2147483647]) ∧ Below w.heap.size w w' := by
  go_enter Try.func26, Try.ntmps26
  go_wp2
  go_region
  all_goals go_wp2
  all_goals go_ret2
  all_goals exact ⟨rfl, below_drew (below_new (Below.refl _ _) _)⟩
set_option maxHeartbeats 2000000 in
theorem rwrap_4 (n : Int) (w : World) : Calls Try.prog 15 #[.int .i64 4, .int .i64 n] w fun e w' => e = .returned (.int .i64 (w32 n)) ∧ Below w.heap.size w w' := by
  have e := and32 n
  have X := hid_as (rwidth_4 w)
  have Y := hid_as (fun U => rrange_4 U)
  by_cases h : 2147483647 < n % 4294967296
  · go_enter Try.func15, Try.ntmps15
    go_wp2_with (first | (go_at_call 25; refine X.out.mono ?_; rintro e w1 ⟨rfl, k1⟩) | (go_at_call 26; refine (Y.out _).mono ?_; rintro e w2 ⟨rfl, k2⟩))
    go_ret
    exact ⟨ret_int (down32 n h), below_and k1 k2⟩
  · go_enter Try.func15, Try.ntmps15
    go_wp2_with (first | (go_at_call 25; refine X.out.mono ?_; rintro e w1 ⟨rfl, k1⟩) | (go_at_call 26; refine (Y.out _).mono ?_; rintro e w2 ⟨rfl, k2⟩))
    go_ret
    exact ⟨ret_int (stay32 n (by omega)), below_and k1 k2⟩
set_option maxHeartbeats 1000000 in
theorem rwidth_11 (w : World) : Calls Try.prog 25 #[.int .i64 11] w fun e w' => e = .returned (.int .i64 32) ∧ Below w.heap.size w w' := by
  go_enter Try.func25, Try.ntmps25
  go_wp2
  go_ret
  exact ⟨rfl, below_new (Below.refl _ _) _⟩
set_option maxHeartbeats 2000000 in
theorem rrange_11 (w : World) : Calls Try.prog 26 #[.int .i64 11] w fun e w' => e = .returned (.tuple #[.int .i64 (-2147483648), .int .i64 2147483647]) ∧ Below w.heap.size w w' := by
  go_enter Try.func26, Try.ntmps26
  go_wp2
  go_region
  all_goals go_wp2
  all_goals go_ret2
  all_goals exact ⟨rfl, below_drew (below_new (Below.refl _ _) _)⟩
set_option maxHeartbeats 2000000 in
theorem rwrap_11 (n : Int) (w : World) : Calls Try.prog 15 #[.int .i64 11, .int .i64 n] w fun e w' => e = .returned (.int .i64 (w32 n)) ∧ Below w.heap.size w w' := by
  have e := and32 n
  have X := hid_as (rwidth_11 w)
  have Y := hid_as (fun U => rrange_11 U)
  by_cases h : 2147483647 < n % 4294967296
  · go_enter Try.func15, Try.ntmps15
    go_wp2_with (first | (go_at_call 25; refine X.out.mono ?_; rintro e w1 ⟨rfl, k1⟩) | (go_at_call 26; refine (Y.out _).mono ?_; rintro e w2 ⟨rfl, k2⟩))
    go_ret
    exact ⟨ret_int (down32 n h), below_and k1 k2⟩
  · go_enter Try.func15, Try.ntmps15
    go_wp2_with (first | (go_at_call 25; refine X.out.mono ?_; rintro e w1 ⟨rfl, k1⟩) | (go_at_call 26; refine (Y.out _).mono ?_; rintro e w2 ⟨rfl, k2⟩))
    go_ret
    exact ⟨ret_int (stay32 n (by omega)), below_and k1 k2⟩
end Go.Proofs.Ytbpnaenineinmaa
