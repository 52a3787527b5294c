/- The walks: eight halvings. -/
import Derived.Test.YthhlahimaoiinaaBits
namespace Go.Proofs.Ythhlahimaoiinaa
open Go.RowKit
open Crc

set_option maxHeartbeats 2000000 in
theorem halve16_c (s : Nat) (hs : s < 65536) (w : World) : Calls Try.prog 19 #[.int .u16 s] w fun e w' => e = .returned (.int .u16 (its 40961 8 s : Nat)) ∧ w' = w := by
  go_enter Try.func19, Try.ntmps19
  go_wp2
  go_loop [0, 4] (fun t i => ∃ k : Nat, k ≤ 8 ∧ i = .int .i64 k ∧ t = .int .u16 (its 40961 k s : Nat)) (fun _ i => 8 - (intOf i).toNat)
  case atStart => exact ⟨0, by omega, rfl, rfl⟩
  case round =>
    obtain ⟨k, hk, rfl, rfl⟩ := hrel
    go_wp2
    · have ho : (bits BinOp.and IntKind.u16 (↑(its 40961 k s)) 1 == 1) = true := by assumption
      go_round
      case rel => exact ⟨k + 1, by omega, by go_num, int_is (step_odd_16 hs ho)⟩
      case measure => simp [intOf]; omega
    · have ho : (bits BinOp.and IntKind.u16 (↑(its 40961 k s)) 1 == 1) = false := by assumption
      go_round
      case rel => exact ⟨k + 1, by omega, by go_num, int_is (step_even_16 ho)⟩
      case measure => simp [intOf]; omega
    · obtain rfl : k = 8 := by omega
      go_ret
      exact ⟨rfl, rfl⟩

set_option maxHeartbeats 2000000 in
theorem halve32_c (s : Nat) (hs : s < 4294967296) (w : World) : Calls Try.prog 20 #[.int .u32 s] w fun e w' => e = .returned (.int .u32 (its 3988292384 8 s : Nat)) ∧ w' = w := by
  go_enter Try.func20, Try.ntmps20
  go_wp2
  go_loop [0, 4] (fun t i => ∃ k : Nat, k ≤ 8 ∧ i = .int .i64 k ∧ t = .int .u32 (its 3988292384 k s : Nat)) (fun _ i => 8 - (intOf i).toNat)
  case atStart => exact ⟨0, by omega, rfl, rfl⟩
  case round =>
    obtain ⟨k, hk, rfl, rfl⟩ := hrel
    go_wp2
    · have ho : (bits BinOp.and IntKind.u32 (↑(its 3988292384 k s)) 1 == 1) = true := by assumption
      go_round
      case rel => exact ⟨k + 1, by omega, by go_num, int_is (step_odd_32 hs ho)⟩
      case measure => simp [intOf]; omega
    · have ho : (bits BinOp.and IntKind.u32 (↑(its 3988292384 k s)) 1 == 1) = false := by assumption
      go_round
      case rel => exact ⟨k + 1, by omega, by go_num, int_is (step_even_32 ho)⟩
      case measure => simp [intOf]; omega
    · obtain rfl : k = 8 := by omega
      go_ret
      exact ⟨rfl, rfl⟩
end Go.Proofs.Ythhlahimaoiinaa
