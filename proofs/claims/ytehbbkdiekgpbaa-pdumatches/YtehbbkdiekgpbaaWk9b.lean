/- The walks: limits of replies. -/
import Derived.Test.YtehbbkdiekgpbaaWk9
namespace Go.Proofs.Ytehbbkdiekgpbaa
open Go.RowKit
open Pdu
set_option maxHeartbeats 1600000 in
theorem plim_1 (w : World) : Calls Try.prog 55 #[.int .u8 1] w fun e w' => e = .returned (.tuple #[.agg #[.int .u16 0, .int .u16 0, .int .u16 0, .int .u16 0, .int .u16 0, .int .u16 0, .int .u16 1, .int .u16 2000, .int .u16 0, .int .u16 0], .bool true]) ∧ w' = (w.alloc (.cells #[.int .u16 0, .int .u16 0, .int .u16 0, .int .u16 0, .int .u16 0, .int .u16 0, .int .u16 1, .int .u16 2000, .int .u16 0, .int .u16 0] 76)).alloc (.cells #[.int .u16 0, .int .u16 65535] 74) := by
  go_enter Try.func55, Try.ntmps55
  go_wp2
  refine bodyPost_ret (v := .tuple #[.agg #[.int .u16 0, .int .u16 0, .int .u16 0, .int .u16 0, .int .u16 0, .int .u16 0, .int .u16 1, .int .u16 2000, .int .u16 0, .int .u16 0], .bool true]) (by simp [results, Try.results55, go_sem]) rfl ⟨rfl, rfl⟩
set_option maxHeartbeats 1600000 in
theorem plim_2 (w : World) : Calls Try.prog 55 #[.int .u8 2] w fun e w' => e = .returned (.tuple #[.agg #[.int .u16 0, .int .u16 0, .int .u16 0, .int .u16 0, .int .u16 0, .int .u16 0, .int .u16 1, .int .u16 2000, .int .u16 0, .int .u16 0], .bool true]) ∧ w' = (w.alloc (.cells #[.int .u16 0, .int .u16 0, .int .u16 0, .int .u16 0, .int .u16 0, .int .u16 0, .int .u16 1, .int .u16 2000, .int .u16 0, .int .u16 0] 76)).alloc (.cells #[.int .u16 0, .int .u16 65535] 74) := by
  go_enter Try.func55, Try.ntmps55
  go_wp2
  refine bodyPost_ret (v := .tuple #[.agg #[.int .u16 0, .int .u16 0, .int .u16 0, .int .u16 0, .int .u16 0, .int .u16 0, .int .u16 1, .int .u16 2000, .int .u16 0, .int .u16 0], .bool true]) (by simp [results, Try.results55, go_sem]) rfl ⟨rfl, rfl⟩
set_option maxHeartbeats 1600000 in
theorem plim_3 (w : World) : Calls Try.prog 55 #[.int .u8 3] w fun e w' => e = .returned (.tuple #[.agg #[.int .u16 0, .int .u16 0, .int .u16 0, .int .u16 0, .int .u16 0, .int .u16 0, .int .u16 0, .int .u16 0, .int .u16 1, .int .u16 125], .bool true]) ∧ w' = (w.alloc (.cells #[.int .u16 0, .int .u16 0, .int .u16 0, .int .u16 0, .int .u16 0, .int .u16 0, .int .u16 0, .int .u16 0, .int .u16 1, .int .u16 125] 76)).alloc (.cells #[.int .u16 0, .int .u16 65535] 74) := by
  go_enter Try.func55, Try.ntmps55
  go_wp2
  refine bodyPost_ret (v := .tuple #[.agg #[.int .u16 0, .int .u16 0, .int .u16 0, .int .u16 0, .int .u16 0, .int .u16 0, .int .u16 0, .int .u16 0, .int .u16 1, .int .u16 125], .bool true]) (by simp [results, Try.results55, go_sem]) rfl ⟨rfl, rfl⟩
set_option maxHeartbeats 1600000 in
theorem plim_4 (w : World) : Calls Try.prog 55 #[.int .u8 4] w fun e w' => e = .returned (.tuple #[.agg #[.int .u16 0, .int .u16 0, .int .u16 0, .int .u16 0, .int .u16 0, .int .u16 0, .int .u16 0, .int .u16 0, .int .u16 1, .int .u16 125], .bool true]) ∧ w' = (w.alloc (.cells #[.int .u16 0, .int .u16 0, .int .u16 0, .int .u16 0, .int .u16 0, .int .u16 0, .int .u16 0, .int .u16 0, .int .u16 1, .int .u16 125] 76)).alloc (.cells #[.int .u16 0, .int .u16 65535] 74) := by
  go_enter Try.func55, Try.ntmps55
  go_wp2
  refine bodyPost_ret (v := .tuple #[.agg #[.int .u16 0, .int .u16 0, .int .u16 0, .int .u16 0, .int .u16 0, .int .u16 0, .int .u16 0, .int .u16 0, .int .u16 1, .int .u16 125], .bool true]) (by simp [results, Try.results55, go_sem]) rfl ⟨rfl, rfl⟩
set_option maxHeartbeats 1600000 in
theorem plim_5 (w : World) : Calls Try.prog 55 #[.int .u8 5] w fun e w' => e = .returned (.tuple #[.agg #[.int .u16 0, .int .u16 65535, .int .u16 0, .int .u16 0, .int .u16 0, .int .u16 0, .int .u16 1, .int .u16 1, .int .u16 0, .int .u16 0], .bool true]) ∧ w' = (w.alloc (.cells #[.int .u16 0, .int .u16 65535, .int .u16 0, .int .u16 0, .int .u16 0, .int .u16 0, .int .u16 1, .int .u16 1, .int .u16 0, .int .u16 0] 76)).alloc (.cells #[.int .u16 0, .int .u16 65535] 74) := by
  go_enter Try.func55, Try.ntmps55
  go_wp2
  refine bodyPost_ret (v := .tuple #[.agg #[.int .u16 0, .int .u16 65535, .int .u16 0, .int .u16 0, .int .u16 0, .int .u16 0, .int .u16 1, .int .u16 1, .int .u16 0, .int .u16 0], .bool true]) (by simp [results, Try.results55, go_sem]) rfl ⟨rfl, rfl⟩
set_option maxHeartbeats 1600000 in
theorem plim_6 (w : World) : Calls Try.prog 55 #[.int .u8 6] w fun e w' => e = .returned (.tuple #[.agg #[.int .u16 0, .int .u16 65535, .int .u16 0, .int .u16 0, .int .u16 0, .int .u16 0, .int .u16 0, .int .u16 0, .int .u16 1, .int .u16 1], .bool true]) ∧ w' = (w.alloc (.cells #[.int .u16 0, .int .u16 65535, .int .u16 0, .int .u16 0, .int .u16 0, .int .u16 0, .int .u16 0, .int .u16 0, .int .u16 1, .int .u16 1] 76)).alloc (.cells #[.int .u16 0, .int .u16 65535] 74) := by
  go_enter Try.func55, Try.ntmps55
  go_wp2
  refine bodyPost_ret (v := .tuple #[.agg #[.int .u16 0, .int .u16 65535, .int .u16 0, .int .u16 0, .int .u16 0, .int .u16 0, .int .u16 0, .int .u16 0, .int .u16 1, .int .u16 1], .bool true]) (by simp [results, Try.results55, go_sem]) rfl ⟨rfl, rfl⟩
set_option maxHeartbeats 1600000 in
theorem plim_15 (w : World) : Calls Try.prog 55 #[.int .u8 15] w fun e w' => e = .returned (.tuple #[.agg #[.int .u16 0, .int .u16 65535, .int .u16 0, .int .u16 0, .int .u16 1, .int .u16 1968, .int .u16 0, .int .u16 0, .int .u16 0, .int .u16 0], .bool true]) ∧ w' = (w.alloc (.cells #[.int .u16 0, .int .u16 65535, .int .u16 0, .int .u16 0, .int .u16 1, .int .u16 1968, .int .u16 0, .int .u16 0, .int .u16 0, .int .u16 0] 76)).alloc (.cells #[.int .u16 0, .int .u16 65535] 74) := by
  go_enter Try.func55, Try.ntmps55
  go_wp2
  refine bodyPost_ret (v := .tuple #[.agg #[.int .u16 0, .int .u16 65535, .int .u16 0, .int .u16 0, .int .u16 1, .int .u16 1968, .int .u16 0, .int .u16 0, .int .u16 0, .int .u16 0], .bool true]) (by simp [results, Try.results55, go_sem]) rfl ⟨rfl, rfl⟩
set_option maxHeartbeats 1600000 in
theorem plim_16 (w : World) : Calls Try.prog 55 #[.int .u8 16] w fun e w' => e = .returned (.tuple #[.agg #[.int .u16 0, .int .u16 65535, .int .u16 0, .int .u16 0, .int .u16 1, .int .u16 123, .int .u16 0, .int .u16 0, .int .u16 0, .int .u16 0], .bool true]) ∧ w' = (w.alloc (.cells #[.int .u16 0, .int .u16 65535, .int .u16 0, .int .u16 0, .int .u16 1, .int .u16 123, .int .u16 0, .int .u16 0, .int .u16 0, .int .u16 0] 76)).alloc (.cells #[.int .u16 0, .int .u16 65535] 74) := by
  go_enter Try.func55, Try.ntmps55
  go_wp2
  refine bodyPost_ret (v := .tuple #[.agg #[.int .u16 0, .int .u16 65535, .int .u16 0, .int .u16 0, .int .u16 1, .int .u16 123, .int .u16 0, .int .u16 0, .int .u16 0, .int .u16 0], .bool true]) (by simp [results, Try.results55, go_sem]) rfl ⟨rfl, rfl⟩
set_option maxHeartbeats 1600000 in
theorem plim_22 (w : World) : Calls Try.prog 55 #[.int .u8 22] w fun e w' => e = .returned (.tuple #[.agg #[.int .u16 0, .int .u16 65535, .int .u16 0, .int .u16 0, .int .u16 0, .int .u16 0, .int .u16 0, .int .u16 0, .int .u16 2, .int .u16 2], .bool true]) ∧ w' = (w.alloc (.cells #[.int .u16 0, .int .u16 65535, .int .u16 0, .int .u16 0, .int .u16 0, .int .u16 0, .int .u16 0, .int .u16 0, .int .u16 2, .int .u16 2] 76)).alloc (.cells #[.int .u16 0, .int .u16 65535] 74) := by
  go_enter Try.func55, Try.ntmps55
  go_wp2
  refine bodyPost_ret (v := .tuple #[.agg #[.int .u16 0, .int .u16 65535, .int .u16 0, .int .u16 0, .int .u16 0, .int .u16 0, .int .u16 0, .int .u16 0, .int .u16 2, .int .u16 2], .bool true]) (by simp [results, Try.results55, go_sem]) rfl ⟨rfl, rfl⟩
set_option maxHeartbeats 1600000 in
theorem plim_23 (w : World) : Calls Try.prog 55 #[.int .u8 23] w fun e w' => e = .returned (.tuple #[.agg #[.int .u16 0, .int .u16 0, .int .u16 0, .int .u16 0, .int .u16 0, .int .u16 0, .int .u16 0, .int .u16 0, .int .u16 1, .int .u16 125], .bool true]) ∧ w' = (w.alloc (.cells #[.int .u16 0, .int .u16 0, .int .u16 0, .int .u16 0, .int .u16 0, .int .u16 0, .int .u16 0, .int .u16 0, .int .u16 1, .int .u16 125] 76)).alloc (.cells #[.int .u16 0, .int .u16 65535] 74) := by
  go_enter Try.func55, Try.ntmps55
  go_wp2
  refine bodyPost_ret (v := .tuple #[.agg #[.int .u16 0, .int .u16 0, .int .u16 0, .int .u16 0, .int .u16 0, .int .u16 0, .int .u16 0, .int .u16 0, .int .u16 1, .int .u16 125], .bool true]) (by simp [results, Try.results55, go_sem]) rfl ⟨rfl, rfl⟩
set_option maxHeartbeats 1600000 in
theorem plim_no (fn : Nat) (h1 : fn ≠ 1) (h2 : fn ≠ 2) (h3 : fn ≠ 3) (h4 : fn ≠ 4) (h5 : fn ≠ 5) (h6 : fn ≠ 6) (h15 : fn ≠ 15) (h16 : fn ≠ 16) (h22 : fn ≠ 22) (h23 : fn ≠ 23) (w : World) : Calls Try.prog 55 #[.int .u8 fn] w fun e w' => e = .returned (.tuple #[.agg #[.int .u16 0, .int .u16 0, .int .u16 0, .int .u16 0, .int .u16 0, .int .u16 0, .int .u16 0, .int .u16 0, .int .u16 0, .int .u16 0], .bool false]) ∧ w' = (w.alloc (.cells #[.int .u16 0, .int .u16 0, .int .u16 0, .int .u16 0, .int .u16 0, .int .u16 0, .int .u16 0, .int .u16 0, .int .u16 0, .int .u16 0] 76)).alloc (.cells #[.int .u16 0, .int .u16 65535] 74) := by
  have g1 : ((fn : Int) == 1) = false := by rw [beq_eq_false_iff_ne]; omega
  have g2 : ((fn : Int) == 2) = false := by rw [beq_eq_false_iff_ne]; omega
  have g3 : ((fn : Int) == 3) = false := by rw [beq_eq_false_iff_ne]; omega
  have g4 : ((fn : Int) == 4) = false := by rw [beq_eq_false_iff_ne]; omega
  have g5 : ((fn : Int) == 5) = false := by rw [beq_eq_false_iff_ne]; omega
  have g6 : ((fn : Int) == 6) = false := by rw [beq_eq_false_iff_ne]; omega
  have g15 : ((fn : Int) == 15) = false := by rw [beq_eq_false_iff_ne]; omega
  have g16 : ((fn : Int) == 16) = false := by rw [beq_eq_false_iff_ne]; omega
  have g22 : ((fn : Int) == 22) = false := by rw [beq_eq_false_iff_ne]; omega
  have g23 : ((fn : Int) == 23) = false := by rw [beq_eq_false_iff_ne]; omega
  go_enter Try.func55, Try.ntmps55
  go_wp2
  refine bodyPost_ret (v := .tuple #[.agg #[.int .u16 0, .int .u16 0, .int .u16 0, .int .u16 0, .int .u16 0, .int .u16 0, .int .u16 0, .int .u16 0, .int .u16 0, .int .u16 0], .bool false]) (by simp [results, Try.results55, go_sem]) rfl ⟨rfl, rfl⟩
theorem plim_c (fn : Nat) (w : World) : Calls Try.prog 55 #[.int .u8 fn] w fun e w' => e = .returned (.tuple #[limV (plim fn), .bool (known fn)]) ∧ w' = (w.alloc (.cells (limA (plim fn)) 76)).alloc (.cells #[.int .u16 0, .int .u16 65535] 74) := by
  rcases known_cases fn with rfl | rfl | rfl | rfl | rfl | rfl | rfl | rfl | rfl | rfl | ⟨h1, h2, h3, h4, h5, h6, h15, h16, h22, h23⟩
  · exact plim_1 w
  · exact plim_2 w
  · exact plim_3 w
  · exact plim_4 w
  · exact plim_5 w
  · exact plim_6 w
  · exact plim_15 w
  · exact plim_16 w
  · exact plim_22 w
  · exact plim_23 w
  · rw [show known fn = false by unfold known; rw [decide_eq_false]; omega, show plim fn = [0, 0, 0, 0, 0, 0, 0, 0, 0, 0] by unfold plim; simp [*]]
    exact plim_no fn h1 h2 h3 h4 h5 h6 h15 h16 h22 h23 w
end Go.Proofs.Ytehbbkdiekgpbaa
