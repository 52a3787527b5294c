/- The walks: the sum of 32 bits (stage 9). -/
import Derived.Test.YtoiadofoclgnoaaB1
import Derived.Test.YtoiadofoclgnoaaCrc
namespace Go.Proofs.Ytoiadofoclgnoaa
open Go.RowKit
open Pdu
open Crc
theorem and1_32 (a : Nat) : bits .and .u32 (a : Int) 1 = ((a % 2 : Nat) : Int) := by
  show IntKind.u32.wrap ((BitVec.ofInt 32 (a : Int) &&& BitVec.ofInt 32 1).toNat : Int) = _
  have h : (BitVec.ofInt 32 (a : Int) &&& BitVec.ofInt 32 1).toNat = a % 2 := by
    rw [BitVec.toNat_and, BitVec.ofInt_natCast, BitVec.toNat_ofNat, show (BitVec.ofInt 32 1).toNat = 1 from rfl, Nat.and_one_is_mod]
    omega
  rw [h, IntKind.wrap_u32]
  omega
theorem xor_32 {a b : Nat} (ha : a < 4294967296) (hb : b < 4294967296) : bits .xor .u32 (a : Int) (b : Int) = ((a ^^^ b : Nat) : Int) := by
  show IntKind.u32.wrap ((BitVec.ofInt 32 (a : Int) ^^^ BitVec.ofInt 32 (b : Int)).toNat : Int) = _
  have h : (BitVec.ofInt 32 (a : Int) ^^^ BitVec.ofInt 32 (b : Int)).toNat = a ^^^ b := by
    rw [BitVec.toNat_xor, BitVec.ofInt_natCast, BitVec.toNat_ofNat, BitVec.ofInt_natCast, BitVec.toNat_ofNat, Nat.mod_eq_of_lt ha, Nat.mod_eq_of_lt hb]
  have hlt : a ^^^ b < 2 ^ 32 := Nat.xor_lt_two_pow ha hb
  rw [h, IntKind.wrap_u32]
  omega
theorem half (a : Nat) : (a : Int) / 2 = ((a / 2 : Nat) : Int) := by omega
theorem odd_32 {a : Nat} (h : (bits .and .u32 (a : Int) 1 == 1) = true) : a % 2 = 1 := by
  rw [and1_32, beq_iff_eq] at h
  omega
theorem even_32 {a : Nat} (h : (bits .and .u32 (a : Int) 1 == 1) = false) : ¬ a % 2 = 1 := by
  rw [and1_32, beq_eq_false_iff_ne] at h
  omega
theorem step_odd_32 {s k : Nat} (hs : s < 4294967296) (h : (bits .and .u32 (its 3988292384 k s : Nat) 1 == 1) = true) : bits .xor .u32 (((its 3988292384 k s : Nat) : Int) / 2) 3988292384 = ((its 3988292384 (k + 1) s : Nat) : Int) := by
  have hl : its 3988292384 k s < 2 ^ 32 := its_lt (by decide) k hs
  rw [half, its_succ, st, if_pos (odd_32 h)]
  exact xor_32 (by omega) (by decide)
theorem step_even_32 {s k : Nat} (h : (bits .and .u32 (its 3988292384 k s : Nat) 1 == 1) = false) : ((its 3988292384 k s : Nat) : Int) / 2 = ((its 3988292384 (k + 1) s : Nat) : Int) := by
  rw [half, its_succ, st, if_neg (even_32 h)]
set_option maxHeartbeats 2000000 in
theorem halve32_c (s : Nat) (hs : s < 4294967296) (w : World) : Calls Try.prog 54 #[.int .u32 s] w fun e w' => e = .returned (.int .u32 (its 3988292384 8 s : Nat)) ∧ w' = w := by
  go_enter Try.func54, Try.ntmps54
  go_wp2
  go_loop [0, 4] (fun t i => ∃ k : Nat, k ≤ 8 ∧ i = .int .i64 k ∧ t = .int .u32 (its 3988292384 k s : Nat)) (fun _ i => 8 - (intOf i).toNat)
  case atStart => exact ⟨0, by omega, rfl, rfl⟩
  case round =>
    obtain ⟨k, hk, rfl, rfl⟩ := hrel
    go_wp2
    · have ho : (bits BinOp.and IntKind.u32 (↑(its 3988292384 k s)) 1 == 1) = true := by assumption
      go_round
      case rel => exact ⟨k + 1, by omega, by go_num, int_is (step_odd_32 hs ho)⟩
      case measure => simp [intOf]; omega
    · have ho : (bits BinOp.and IntKind.u32 (↑(its 3988292384 k s)) 1 == 1) = false := by assumption
      go_round
      case rel => exact ⟨k + 1, by omega, by go_num, int_is (step_even_32 ho)⟩
      case measure => simp [intOf]; omega
    · obtain rfl : k = 8 := by omega
      go_ret
      exact ⟨rfl, rfl⟩
abbrev r32 (bs : List Nat) : Nat := sum 3988292384 4294967295 bs
theorem r32_lt {bs : List Nat} (h : Bytes bs) : r32 bs < 4294967296 := sum_lt (m := 32) (by decide) bs (fun x hx => Nat.lt_of_lt_of_le (h x hx) (by decide)) 4294967295 (by decide)
/-- The sum of 32 bits. -/
def s32 (bs : List Nat) : Nat := 4294967295 ^^^ r32 bs
theorem s32_lt {bs : List Nat} (h : Bytes bs) : s32 bs < 4294967296 := Nat.xor_lt_two_pow (n := 32) (by decide) (r32_lt h)
theorem lt_of_hid {k n m : Nat} (h : k < n) (hn : Hid (n = m)) : k < m := hn ▸ h
theorem sum_step {p c n k x s : Nat} {bs : List Nat} (hn : Hid (n = bs.length)) (hx : Hid (x = bs.getD k 0)) (hs : Hid (s = sum p c (bs.take k))) (hk : k < n) : its p 8 (s ^^^ x) = sum p c (bs.take (k + 1)) := by
  rw [sum_take_succ p c bs k (lt_of_hid hk hn), ← (show s = _ from hs), ← (show x = _ from hx)]
  rfl
theorem sum_end {p c n s : Nat} {bs : List Nat} (hn : Hid (n = bs.length)) (hs : Hid (s = sum p c (bs.take n))) : s = sum p c bs := by
  rw [show s = _ from hs, show n = _ from hn, List.take_length]
set_option maxHeartbeats 2000000 in
theorem sum32_at (b off n cap : Nat) (bs : List Nat) (w : World) (hn : n = bs.length) (hb : Bytes bs) (hm : n ≤ 1000000) (hc : Lies w b off (u8s bs)) :
    Calls Try.prog 53 #[.slice (some ⟨b, off, none⟩) n cap] w fun e w' => e = .returned (.int .u32 (bits .xor .u32 4294967295 (r32 bs : Nat))) ∧ w' = w := by
  have HN : Hid (n = bs.length) := hn
  clear hn
  go_enter Try.func53, Try.ntmps53
  go_wp2
  go_loop [3, 8] (fun t i => ∃ k : Nat, k ≤ n ∧ i = .int .i64 k ∧ t = .int .u32 (r32 (bs.take k) : Nat)) (fun _ i => n - (intOf i).toNat)
  case atStart => exact ⟨0, by omega, rfl, rfl⟩
  case round =>
    obtain ⟨k, hk, rfl, rfl⟩ := hrel
    obtain ⟨x, hx⟩ : ∃ x, x = bs.getD k 0 := ⟨_, rfl⟩
    obtain ⟨s, hs⟩ : ∃ s, s = r32 (bs.take k) := ⟨_, rfl⟩
    have hx8 : x < 256 := by rw [hx]; exact hb.at k
    have hsl : s < 4294967296 := by rw [hs]; exact r32_lt (hb.take k)
    have hcell : k < n → w.cell? ⟨b, off + k, none⟩ = some (.int .u8 x) := fun h => by rw [hx]; exact hc.u8 k (lt_of_hid h HN)
    have hxor : bits .xor .u32 (s : Int) (x : Int) = ((s ^^^ x : Nat) : Int) := xor_32 hsl (by omega)
    have hlt : s ^^^ x < 4294967296 := Nat.xor_lt_two_pow (n := 32) hsl (by omega)
    have HX : Hid (x = bs.getD k 0) := hx
    have HS : Hid (s = r32 (bs.take k)) := hs
    rw [← hs]
    clear hx hs
    go_wp2_with (go_at_call 54; refine (halve32_c (s ^^^ x) hlt _).mono ?_; rintro e w' ⟨rfl, hw⟩; subst w')
    · have hkn : k < n := by assumption
      go_round
      case rel => exact ⟨k + 1, by omega, by go_num, int_is (congrArg _ (sum_step HN HX HS hkn))⟩
      case measure => simp [intOf]; omega
    · obtain rfl : k = n := by omega
      go_ret
      exact ⟨congrArg (fun t : Nat => Ending.returned (.int .u32 (bits .xor .u32 4294967295 (t : Int)))) (sum_end HN HS), rfl⟩
theorem sum32_c {b off n cap : Nat} {bs : List Nat} {w : World} (hn : n = bs.length) (hb : Bytes bs) (hm : n ≤ 1000000) (hc : Lies w b off (u8s bs)) :
    Calls Try.prog 53 #[.slice (some ⟨b, off, none⟩) n cap] w fun e w' => e = .returned (.int .u32 (s32 bs : Nat)) ∧ w' = w := by
  have e : bits .xor .u32 4294967295 (r32 bs : Nat) = ((s32 bs : Nat) : Int) := xor_32 (a := 4294967295) (by decide) (r32_lt hb)
  rw [← e]
  exact sum32_at b off n cap bs w hn hb hm hc
theorem st_ne {n : Nat} (h0 : n ≠ 0) (hn : n < 4294967296) : st 3988292384 n ≠ 0 := by
  unfold st
  split
  · intro h
    have : n / 2 = 3988292384 := by
      have := congrArg (· ^^^ 3988292384) h
      simpa [Nat.xor_assoc] using this
    omega
  · omega
theorem its_ne (k : Nat) {n : Nat} (h0 : n ≠ 0) (hn : n < 4294967296) : its 3988292384 k n ≠ 0 := by
  induction k generalizing n with
  | zero => exact h0
  | succ k ih => exact ih (st_ne h0 hn) (st_lt (m := 32) (by decide) hn)
/-- One byte unlike: the sum is unlike. -/
theorem s32_tells {bs : List Nat} {j y : Nat} (hj : j < bs.length) (h0 : y ≠ 0) (hy : y < 256) : s32 (bs.set j (bs.getD j 0 ^^^ y)) ≠ s32 bs := by
  have hle := le_set bs j y hj
  have hl : (bs.set j (bs.getD j 0 ^^^ y)).length = bs.length := List.length_set ..
  generalize bs.set j (bs.getD j 0 ^^^ y) = cs at hle hl
  unfold s32 r32
  intro h
  have h := congrArg (4294967295 ^^^ ·) h
  simp only [← Nat.xor_assoc, Nat.xor_self, Nat.zero_xor] at h
  revert h
  rw [sum_le, sum_le, hl, hle, ← Nat.xor_assoc, its_xor, show 8 * bs.length = 8 * j + (8 * bs.length - 8 * j) by omega, its_add 3988292384 (8 * j) _ (y * 2 ^ (8 * j)), its_shift]
  intro h
  have h2 := its_ne (8 * bs.length - 8 * j) h0 (by omega)
  apply h2
  have := congrArg (its 3988292384 (8 * j + (8 * bs.length - 8 * j)) (4294967295 ^^^ le bs) ^^^ ·) h
  simpa [← Nat.xor_assoc] using this
end Go.Proofs.Ytoiadofoclgnoaa
