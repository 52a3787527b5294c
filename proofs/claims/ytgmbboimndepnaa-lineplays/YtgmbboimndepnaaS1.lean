/- The walks: check sums (stage 7). -/
import Derived.Test.YtgmbboimndepnaaB1
import Derived.Test.YtgmbboimndepnaaCrc
namespace Go.Proofs.Ytgmbboimndepnaa
open Go.RowKit
open Pdu
open Crc
theorem and1_16 (a : Nat) : bits .and .u16 (a : Int) 1 = ((a % 2 : Nat) : Int) := by
  show IntKind.u16.wrap ((BitVec.ofInt 16 (a : Int) &&& BitVec.ofInt 16 1).toNat : Int) = _
  have h : (BitVec.ofInt 16 (a : Int) &&& BitVec.ofInt 16 1).toNat = a % 2 := by
    rw [BitVec.toNat_and, BitVec.ofInt_natCast, BitVec.toNat_ofNat, show (BitVec.ofInt 16 1).toNat = 1 from rfl, Nat.and_one_is_mod]
    omega
  rw [h, IntKind.wrap_u16]
  omega
theorem xor_8 {a b : Nat} (ha : a < 256) (hb : b < 256) : bits .xor .u8 (a : Int) (b : Int) = ((a ^^^ b : Nat) : Int) := by
  show IntKind.u8.wrap ((BitVec.ofInt 8 (a : Int) ^^^ BitVec.ofInt 8 (b : Int)).toNat : Int) = _
  have h : (BitVec.ofInt 8 (a : Int) ^^^ BitVec.ofInt 8 (b : Int)).toNat = a ^^^ b := by
    rw [BitVec.toNat_xor, BitVec.ofInt_natCast, BitVec.toNat_ofNat, BitVec.ofInt_natCast, BitVec.toNat_ofNat, Nat.mod_eq_of_lt ha, Nat.mod_eq_of_lt hb]
  have hlt : a ^^^ b < 2 ^ 8 := Nat.xor_lt_two_pow ha hb
  rw [h, IntKind.wrap_u8]
  omega
theorem xor_16 {a b : Nat} (ha : a < 65536) (hb : b < 65536) : bits .xor .u16 (a : Int) (b : Int) = ((a ^^^ b : Nat) : Int) := by
  show IntKind.u16.wrap ((BitVec.ofInt 16 (a : Int) ^^^ BitVec.ofInt 16 (b : Int)).toNat : Int) = _
  have h : (BitVec.ofInt 16 (a : Int) ^^^ BitVec.ofInt 16 (b : Int)).toNat = a ^^^ b := by
    rw [BitVec.toNat_xor, BitVec.ofInt_natCast, BitVec.toNat_ofNat, BitVec.ofInt_natCast, BitVec.toNat_ofNat, Nat.mod_eq_of_lt ha, Nat.mod_eq_of_lt hb]
  have hlt : a ^^^ b < 2 ^ 16 := Nat.xor_lt_two_pow ha hb
  rw [h, IntKind.wrap_u16]
  omega
theorem half (a : Nat) : (a : Int) / 2 = ((a / 2 : Nat) : Int) := by omega
theorem odd_16 {a : Nat} (h : (bits .and .u16 (a : Int) 1 == 1) = true) : a % 2 = 1 := by
  rw [and1_16, beq_iff_eq] at h
  omega
theorem even_16 {a : Nat} (h : (bits .and .u16 (a : Int) 1 == 1) = false) : ¬ a % 2 = 1 := by
  rw [and1_16, beq_eq_false_iff_ne] at h
  omega
theorem step_odd_16 {s k : Nat} (hs : s < 65536) (h : (bits .and .u16 (its 40961 k s : Nat) 1 == 1) = true) : bits .xor .u16 (((its 40961 k s : Nat) : Int) / 2) 40961 = ((its 40961 (k + 1) s : Nat) : Int) := by
  have hl : its 40961 k s < 2 ^ 16 := its_lt (by decide) k hs
  rw [half, its_succ, st, if_pos (odd_16 h)]
  exact xor_16 (by omega) (by decide)
theorem step_even_16 {s k : Nat} (h : (bits .and .u16 (its 40961 k s : Nat) 1 == 1) = false) : ((its 40961 k s : Nat) : Int) / 2 = ((its 40961 (k + 1) s : Nat) : Int) := by
  rw [half, its_succ, st, if_neg (even_16 h)]
set_option maxHeartbeats 2000000 in
theorem halve16_c (s : Nat) (hs : s < 65536) (w : World) : Calls Try.prog 26 #[.int .u16 s] w fun e w' => e = .returned (.int .u16 (its 40961 8 s : Nat)) ∧ w' = w := by
  go_enter Try.func26, Try.ntmps26
  go_wp2
  go_loop [0, 4] (fun t i => ∃ k : Nat, k ≤ 8 ∧ i = .int .i64 k ∧ t = .int .u16 (its 40961 k s : Nat)) (fun _ i => 8 - (intOf i).toNat)
  case atStart => exact ⟨0, by omega, rfl, rfl⟩
  case round =>
    obtain ⟨k, hk, rfl, rfl⟩ := hrel
    go_wp2
    · have ho : (bits BinOp.and IntKind.u16 (↑(its 40961 k s)) 1 == 1) = true := by assumption
      go_round
      case rel => exact ⟨k + 1, by omega, by go_num, int_is (step_odd_16 hs ho)⟩
      case measure => simp [intOf]; omega
    · have ho : (bits BinOp.and IntKind.u16 (↑(its 40961 k s)) 1 == 1) = false := by assumption
      go_round
      case rel => exact ⟨k + 1, by omega, by go_num, int_is (step_even_16 ho)⟩
      case measure => simp [intOf]; omega
    · obtain rfl : k = 8 := by omega
      go_ret
      exact ⟨rfl, rfl⟩
abbrev s16 (bs : List Nat) : Nat := sum 40961 65535 bs
theorem s16_lt {bs : List Nat} (h : Bytes bs) : s16 bs < 65536 := sum_lt (m := 16) (by decide) bs (fun x hx => Nat.lt_of_lt_of_le (h x hx) (by decide)) 65535 (by decide)
theorem lt_of_hid {k n m : Nat} (h : k < n) (hn : Hid (n = m)) : k < m := hn ▸ h
theorem sum_step {p c n k x s : Nat} {bs : List Nat} (hn : Hid (n = bs.length)) (hx : Hid (x = bs.getD k 0)) (hs : Hid (s = sum p c (bs.take k))) (hk : k < n) : its p 8 (s ^^^ x) = sum p c (bs.take (k + 1)) := by
  rw [sum_take_succ p c bs k (lt_of_hid hk hn), ← (show s = _ from hs), ← (show x = _ from hx)]
  rfl
theorem sum_end {p c n s : Nat} {bs : List Nat} (hn : Hid (n = bs.length)) (hs : Hid (s = sum p c (bs.take n))) : s = sum p c bs := by
  rw [show s = _ from hs, show n = _ from hn, List.take_length]
set_option maxHeartbeats 2000000 in
theorem sum16_at (b off n cap : Nat) (bs : List Nat) (w : World) (hn : n = bs.length) (hb : Bytes bs) (hm : n ≤ 1000000) (hc : Lies w b off (u8s bs)) :
    Calls Try.prog 25 #[.slice (some ⟨b, off, none⟩) n cap] w fun e w' => e = .returned (.int .u16 (s16 bs : Nat)) ∧ w' = w := by
  have HN : Hid (n = bs.length) := hn
  clear hn
  go_enter Try.func25, Try.ntmps25
  go_wp2
  go_loop [3, 8] (fun t i => ∃ k : Nat, k ≤ n ∧ i = .int .i64 k ∧ t = .int .u16 (s16 (bs.take k) : Nat)) (fun _ i => n - (intOf i).toNat)
  case atStart => exact ⟨0, by omega, rfl, rfl⟩
  case round =>
    obtain ⟨k, hk, rfl, rfl⟩ := hrel
    obtain ⟨x, hx⟩ : ∃ x, x = bs.getD k 0 := ⟨_, rfl⟩
    obtain ⟨s, hs⟩ : ∃ s, s = s16 (bs.take k) := ⟨_, rfl⟩
    have hx8 : x < 256 := by rw [hx]; exact hb.at k
    have hsl : s < 65536 := by rw [hs]; exact s16_lt (hb.take k)
    have hcell : k < n → w.cell? ⟨b, off + k, none⟩ = some (.int .u8 x) := fun h => by rw [hx]; exact hc.u8 k (lt_of_hid h HN)
    have hxor : bits .xor .u16 (s : Int) (x : Int) = ((s ^^^ x : Nat) : Int) := xor_16 hsl (by omega)
    have hlt : s ^^^ x < 65536 := Nat.xor_lt_two_pow (n := 16) hsl (by omega)
    have HX : Hid (x = bs.getD k 0) := hx
    have HS : Hid (s = s16 (bs.take k)) := hs
    rw [← hs]
    clear hx hs
    go_wp2_with (go_at_call 26; refine (halve16_c (s ^^^ x) hlt _).mono ?_; rintro e w' ⟨rfl, hw⟩; subst w')
    · have hkn : k < n := by assumption
      go_round
      case rel => exact ⟨k + 1, by omega, by go_num, int_is (congrArg _ (sum_step HN HX HS hkn))⟩
      case measure => simp [intOf]; omega
    · obtain rfl : k = n := by omega
      go_ret
      exact ⟨congrArg (fun t : Nat => Ending.returned (.int .u16 (t : Int))) (sum_end HN HS), rfl⟩
set_option maxHeartbeats 4000000 in
theorem ref16_at (b off n cap : Nat) (bs : List Nat) (w : World) (hn : n = bs.length) (hb : Bytes bs) (hm : n ≤ 1000000) (hc : Lies w b off (u8s bs)) :
    Calls Try.prog 19 #[.slice (some ⟨b, off, none⟩) n cap] w fun e w' => e = .returned (.int .u16 (s16 bs : Nat)) ∧ w' = w := by
  have HN : Hid (n = bs.length) := hn
  clear hn
  go_enter Try.func19, Try.ntmps19
  go_wp2
  go_loop [3, 4] (fun t i => ∃ k : Nat, k ≤ n ∧ i = .int .i64 k ∧ t = .int .u16 (s16 (bs.take k) : Nat)) (fun _ i => n - (intOf i).toNat)
  case atStart => exact ⟨0, by omega, rfl, rfl⟩
  case round =>
    obtain ⟨k, hk, rfl, rfl⟩ := hrel
    obtain ⟨x, hx⟩ : ∃ x, x = bs.getD k 0 := ⟨_, rfl⟩
    obtain ⟨s, hs⟩ : ∃ s, s = s16 (bs.take k) := ⟨_, rfl⟩
    have hx8 : x < 256 := by rw [hx]; exact hb.at k
    have hsl : s < 65536 := by rw [hs]; exact s16_lt (hb.take k)
    have hcell : k < n → w.cell? ⟨b, off + k, none⟩ = some (.int .u8 x) := fun h => by rw [hx]; exact hc.u8 k (lt_of_hid h HN)
    have hxor : bits .xor .u16 (s : Int) (x : Int) = ((s ^^^ x : Nat) : Int) := xor_16 hsl (by omega)
    have hlt : s ^^^ x < 65536 := Nat.xor_lt_two_pow (n := 16) hsl (by omega)
    have HX : Hid (x = bs.getD k 0) := hx
    have HS : Hid (s = s16 (bs.take k)) := hs
    rw [← hs]
    clear hx hs
    go_wp2
    · have hkn : k < n := by assumption
      go_loop [3, 5] (fun t i => ∃ j : Nat, j ≤ 8 ∧ i = .int .i64 j ∧ t = .int .u16 (its 40961 j (s ^^^ x) : Nat)) (fun _ i => 8 - (intOf i).toNat)
      case atStart => exact ⟨0, by omega, rfl, rfl⟩
      case round =>
        obtain ⟨j, hj, rfl, rfl⟩ := hrel
        go_wp2
        · have ho : (bits BinOp.and IntKind.u16 (↑(its 40961 j (s ^^^ x))) 1 == 1) = true := by assumption
          go_round
          case rel => exact ⟨j + 1, by omega, by go_num, int_is (step_odd_16 hlt ho)⟩
          case measure => simp [intOf]; omega
        · have ho : (bits BinOp.and IntKind.u16 (↑(its 40961 j (s ^^^ x))) 1 == 1) = false := by assumption
          go_round
          case rel => exact ⟨j + 1, by omega, by go_num, int_is (step_even_16 ho)⟩
          case measure => simp [intOf]; omega
        · obtain rfl : j = 8 := by omega
          go_round
          case rel => exact ⟨k + 1, by omega, by go_num, int_is (congrArg _ (sum_step HN HX HS hkn))⟩
          case measure => simp [intOf]; omega
    · obtain rfl : k = n := by omega
      go_ret
      exact ⟨congrArg (fun t : Nat => Ending.returned (.int .u16 (t : Int))) (sum_end HN HS), rfl⟩
set_option maxHeartbeats 2000000 in
theorem sum16_none (ao : Option Addr) (cap : Nat) (w : World) : Calls Try.prog 25 #[.slice ao 0 cap] w fun e w' => e = .returned (.int .u16 65535) ∧ w' = w := by
  go_enter Try.func25, Try.ntmps25
  go_wp2
  go_loop [3, 8] (fun t i => i = .int .i64 0 ∧ t = .int .u16 65535) (fun _ _ => 0)
  case atStart => exact ⟨rfl, rfl⟩
  case round =>
    obtain ⟨rfl, rfl⟩ := hrel
    go_wp2
    go_ret
    exact ⟨rfl, rfl⟩
set_option maxHeartbeats 2000000 in
theorem ref16_none (ao : Option Addr) (cap : Nat) (w : World) : Calls Try.prog 19 #[.slice ao 0 cap] w fun e w' => e = .returned (.int .u16 65535) ∧ w' = w := by
  go_enter Try.func19, Try.ntmps19
  go_wp2
  go_loop [3, 4] (fun t i => i = .int .i64 0 ∧ t = .int .u16 65535) (fun _ _ => 0)
  case atStart => exact ⟨rfl, rfl⟩
  case round =>
    obtain ⟨rfl, rfl⟩ := hrel
    go_wp2
    go_ret
    exact ⟨rfl, rfl⟩
theorem sum16_c {v : Value} {bs : List Nat} {w : World} (h : Sl w v (u8s bs)) (hb : Bytes bs) (hm : bs.length ≤ 1000000) : Calls Try.prog 25 #[v] w fun e w' => e = .returned (.int .u16 (s16 bs : Nat)) ∧ w' = w := by
  rcases h with ⟨h, ao, cap, rfl, _⟩ | ⟨b, off, cap, rfl, _, hc⟩
  · have e : bs = [] := List.length_eq_zero_iff.1 (by rw [← u8s_len, h]; rfl)
    subst e
    exact sum16_none ao cap w
  · rw [u8s_len]
    exact sum16_at b off _ cap bs w rfl hb hm hc
theorem ref16_c {v : Value} {bs : List Nat} {w : World} (h : Sl w v (u8s bs)) (hb : Bytes bs) (hm : bs.length ≤ 1000000) : Calls Try.prog 19 #[v] w fun e w' => e = .returned (.int .u16 (s16 bs : Nat)) ∧ w' = w := by
  rcases h with ⟨h, ao, cap, rfl, _⟩ | ⟨b, off, cap, rfl, _, hc⟩
  · have e : bs = [] := List.length_eq_zero_iff.1 (by rw [← u8s_len, h]; rfl)
    subst e
    exact ref16_none ao cap w
  · rw [u8s_len]
    exact ref16_at b off _ cap bs w rfl hb hm hc
end Go.Proofs.Ytgmbboimndepnaa
