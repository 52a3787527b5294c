/- The walks: limits. -/
import Derived.Test.YtehbbkdiekgpbaaJ1
namespace Go.Proofs.Ytehbbkdiekgpbaa
open Go.RowKit
open Pdu
def inside (n lo hi : Nat) : Bool := decide (lo ≤ n) && decide (n ≤ hi)
theorem inside_iff (n lo hi : Nat) : inside n lo hi = true ↔ lo ≤ n ∧ n ≤ hi := by unfold inside; simp
/-- Ten limits, one by one. -/
def limA (l : List Nat) : Array Value := #[.int .u16 (l.getD 0 0 : Nat), .int .u16 (l.getD 1 0 : Nat), .int .u16 (l.getD 2 0 : Nat), .int .u16 (l.getD 3 0 : Nat), .int .u16 (l.getD 4 0 : Nat), .int .u16 (l.getD 5 0 : Nat), .int .u16 (l.getD 6 0 : Nat), .int .u16 (l.getD 7 0 : Nat), .int .u16 (l.getD 8 0 : Nat), .int .u16 (l.getD 9 0 : Nat)]
def limV (l : List Nat) : Value := .agg (limA l)
def known (fn : Nat) : Bool := decide (fn = 1 ∨ fn = 2 ∨ fn = 3 ∨ fn = 4 ∨ fn = 5 ∨ fn = 6 ∨ fn = 15 ∨ fn = 16 ∨ fn = 22 ∨ fn = 23)
theorem known_cases (fn : Nat) : fn = 1 ∨ fn = 2 ∨ fn = 3 ∨ fn = 4 ∨ fn = 5 ∨ fn = 6 ∨ fn = 15 ∨ fn = 16 ∨ fn = 22 ∨ fn = 23 ∨ (fn ≠ 1 ∧ fn ≠ 2 ∧ fn ≠ 3 ∧ fn ≠ 4 ∧ fn ≠ 5 ∧ fn ≠ 6 ∧ fn ≠ 15 ∧ fn ≠ 16 ∧ fn ≠ 22 ∧ fn ≠ 23) := by omega
def rlim (fn : Nat) : List Nat := if fn = 1 then [0, 0, 0, 0, 1, 2000, 0, 0, 0, 0] else if fn = 2 then [0, 0, 0, 0, 1, 2000, 0, 0, 0, 0] else if fn = 3 then [0, 0, 0, 0, 1, 125, 0, 0, 0, 0] else if fn = 4 then [0, 0, 0, 0, 1, 125, 0, 0, 0, 0] else if fn = 5 then [0, 0, 0, 0, 0, 0, 1, 1, 0, 0] else if fn = 6 then [0, 0, 0, 0, 0, 0, 0, 0, 1, 1] else if fn = 15 then [0, 0, 0, 0, 0, 0, 1, 1968, 0, 0] else if fn = 16 then [0, 0, 0, 0, 0, 0, 0, 0, 1, 123] else if fn = 22 then [0, 0, 0, 0, 0, 0, 0, 0, 2, 2] else if fn = 23 then [0, 0, 0, 65535, 1, 125, 0, 0, 1, 121] else [0, 0, 0, 0, 0, 0, 0, 0, 0, 0]
def plim (fn : Nat) : List Nat := if fn = 1 then [0, 0, 0, 0, 0, 0, 1, 2000, 0, 0] else if fn = 2 then [0, 0, 0, 0, 0, 0, 1, 2000, 0, 0] else if fn = 3 then [0, 0, 0, 0, 0, 0, 0, 0, 1, 125] else if fn = 4 then [0, 0, 0, 0, 0, 0, 0, 0, 1, 125] else if fn = 5 then [0, 65535, 0, 0, 0, 0, 1, 1, 0, 0] else if fn = 6 then [0, 65535, 0, 0, 0, 0, 0, 0, 1, 1] else if fn = 15 then [0, 65535, 0, 0, 1, 1968, 0, 0, 0, 0] else if fn = 16 then [0, 65535, 0, 0, 1, 123, 0, 0, 0, 0] else if fn = 22 then [0, 65535, 0, 0, 0, 0, 0, 0, 2, 2] else if fn = 23 then [0, 0, 0, 0, 0, 0, 0, 0, 1, 125] else [0, 0, 0, 0, 0, 0, 0, 0, 0, 0]
set_option maxHeartbeats 1600000 in
theorem rlim_1 (w : World) : Calls Try.prog 48 #[.int .u8 1] w fun e w' => e = .returned (.tuple #[.agg #[.int .u16 0, .int .u16 0, .int .u16 0, .int .u16 0, .int .u16 1, .int .u16 2000, .int .u16 0, .int .u16 0, .int .u16 0, .int .u16 0], .bool true]) ∧ w' = w.alloc (.cells #[.int .u16 0, .int .u16 0, .int .u16 0, .int .u16 0, .int .u16 1, .int .u16 2000, .int .u16 0, .int .u16 0, .int .u16 0, .int .u16 0] 76) := by
  go_enter Try.func48, Try.ntmps48
  go_wp2
  refine bodyPost_ret (v := .tuple #[.agg #[.int .u16 0, .int .u16 0, .int .u16 0, .int .u16 0, .int .u16 1, .int .u16 2000, .int .u16 0, .int .u16 0, .int .u16 0, .int .u16 0], .bool true]) (by simp [results, Try.results48, go_sem]) rfl ⟨rfl, rfl⟩
set_option maxHeartbeats 1600000 in
theorem rlim_2 (w : World) : Calls Try.prog 48 #[.int .u8 2] w fun e w' => e = .returned (.tuple #[.agg #[.int .u16 0, .int .u16 0, .int .u16 0, .int .u16 0, .int .u16 1, .int .u16 2000, .int .u16 0, .int .u16 0, .int .u16 0, .int .u16 0], .bool true]) ∧ w' = w.alloc (.cells #[.int .u16 0, .int .u16 0, .int .u16 0, .int .u16 0, .int .u16 1, .int .u16 2000, .int .u16 0, .int .u16 0, .int .u16 0, .int .u16 0] 76) := by
  go_enter Try.func48, Try.ntmps48
  go_wp2
  refine bodyPost_ret (v := .tuple #[.agg #[.int .u16 0, .int .u16 0, .int .u16 0, .int .u16 0, .int .u16 1, .int .u16 2000, .int .u16 0, .int .u16 0, .int .u16 0, .int .u16 0], .bool true]) (by simp [results, Try.results48, go_sem]) rfl ⟨rfl, rfl⟩
set_option maxHeartbeats 1600000 in
theorem rlim_3 (w : World) : Calls Try.prog 48 #[.int .u8 3] w fun e w' => e = .returned (.tuple #[.agg #[.int .u16 0, .int .u16 0, .int .u16 0, .int .u16 0, .int .u16 1, .int .u16 125, .int .u16 0, .int .u16 0, .int .u16 0, .int .u16 0], .bool true]) ∧ w' = w.alloc (.cells #[.int .u16 0, .int .u16 0, .int .u16 0, .int .u16 0, .int .u16 1, .int .u16 125, .int .u16 0, .int .u16 0, .int .u16 0, .int .u16 0] 76) := by
  go_enter Try.func48, Try.ntmps48
  go_wp2
  refine bodyPost_ret (v := .tuple #[.agg #[.int .u16 0, .int .u16 0, .int .u16 0, .int .u16 0, .int .u16 1, .int .u16 125, .int .u16 0, .int .u16 0, .int .u16 0, .int .u16 0], .bool true]) (by simp [results, Try.results48, go_sem]) rfl ⟨rfl, rfl⟩
set_option maxHeartbeats 1600000 in
theorem rlim_4 (w : World) : Calls Try.prog 48 #[.int .u8 4] w fun e w' => e = .returned (.tuple #[.agg #[.int .u16 0, .int .u16 0, .int .u16 0, .int .u16 0, .int .u16 1, .int .u16 125, .int .u16 0, .int .u16 0, .int .u16 0, .int .u16 0], .bool true]) ∧ w' = w.alloc (.cells #[.int .u16 0, .int .u16 0, .int .u16 0, .int .u16 0, .int .u16 1, .int .u16 125, .int .u16 0, .int .u16 0, .int .u16 0, .int .u16 0] 76) := by
  go_enter Try.func48, Try.ntmps48
  go_wp2
  refine bodyPost_ret (v := .tuple #[.agg #[.int .u16 0, .int .u16 0, .int .u16 0, .int .u16 0, .int .u16 1, .int .u16 125, .int .u16 0, .int .u16 0, .int .u16 0, .int .u16 0], .bool true]) (by simp [results, Try.results48, go_sem]) rfl ⟨rfl, rfl⟩
set_option maxHeartbeats 1600000 in
theorem rlim_5 (w : World) : Calls Try.prog 48 #[.int .u8 5] w fun e w' => e = .returned (.tuple #[.agg #[.int .u16 0, .int .u16 0, .int .u16 0, .int .u16 0, .int .u16 0, .int .u16 0, .int .u16 1, .int .u16 1, .int .u16 0, .int .u16 0], .bool true]) ∧ w' = w.alloc (.cells #[.int .u16 0, .int .u16 0, .int .u16 0, .int .u16 0, .int .u16 0, .int .u16 0, .int .u16 1, .int .u16 1, .int .u16 0, .int .u16 0] 76) := by
  go_enter Try.func48, Try.ntmps48
  go_wp2
  refine bodyPost_ret (v := .tuple #[.agg #[.int .u16 0, .int .u16 0, .int .u16 0, .int .u16 0, .int .u16 0, .int .u16 0, .int .u16 1, .int .u16 1, .int .u16 0, .int .u16 0], .bool true]) (by simp [results, Try.results48, go_sem]) rfl ⟨rfl, rfl⟩
set_option maxHeartbeats 1600000 in
theorem rlim_6 (w : World) : Calls Try.prog 48 #[.int .u8 6] w fun e w' => e = .returned (.tuple #[.agg #[.int .u16 0, .int .u16 0, .int .u16 0, .int .u16 0, .int .u16 0, .int .u16 0, .int .u16 0, .int .u16 0, .int .u16 1, .int .u16 1], .bool true]) ∧ w' = w.alloc (.cells #[.int .u16 0, .int .u16 0, .int .u16 0, .int .u16 0, .int .u16 0, .int .u16 0, .int .u16 0, .int .u16 0, .int .u16 1, .int .u16 1] 76) := by
  go_enter Try.func48, Try.ntmps48
  go_wp2
  refine bodyPost_ret (v := .tuple #[.agg #[.int .u16 0, .int .u16 0, .int .u16 0, .int .u16 0, .int .u16 0, .int .u16 0, .int .u16 0, .int .u16 0, .int .u16 1, .int .u16 1], .bool true]) (by simp [results, Try.results48, go_sem]) rfl ⟨rfl, rfl⟩
set_option maxHeartbeats 1600000 in
theorem rlim_15 (w : World) : Calls Try.prog 48 #[.int .u8 15] w fun e w' => e = .returned (.tuple #[.agg #[.int .u16 0, .int .u16 0, .int .u16 0, .int .u16 0, .int .u16 0, .int .u16 0, .int .u16 1, .int .u16 1968, .int .u16 0, .int .u16 0], .bool true]) ∧ w' = w.alloc (.cells #[.int .u16 0, .int .u16 0, .int .u16 0, .int .u16 0, .int .u16 0, .int .u16 0, .int .u16 1, .int .u16 1968, .int .u16 0, .int .u16 0] 76) := by
  go_enter Try.func48, Try.ntmps48
  go_wp2
  refine bodyPost_ret (v := .tuple #[.agg #[.int .u16 0, .int .u16 0, .int .u16 0, .int .u16 0, .int .u16 0, .int .u16 0, .int .u16 1, .int .u16 1968, .int .u16 0, .int .u16 0], .bool true]) (by simp [results, Try.results48, go_sem]) rfl ⟨rfl, rfl⟩
set_option maxHeartbeats 1600000 in
theorem rlim_16 (w : World) : Calls Try.prog 48 #[.int .u8 16] w fun e w' => e = .returned (.tuple #[.agg #[.int .u16 0, .int .u16 0, .int .u16 0, .int .u16 0, .int .u16 0, .int .u16 0, .int .u16 0, .int .u16 0, .int .u16 1, .int .u16 123], .bool true]) ∧ w' = w.alloc (.cells #[.int .u16 0, .int .u16 0, .int .u16 0, .int .u16 0, .int .u16 0, .int .u16 0, .int .u16 0, .int .u16 0, .int .u16 1, .int .u16 123] 76) := by
  go_enter Try.func48, Try.ntmps48
  go_wp2
  refine bodyPost_ret (v := .tuple #[.agg #[.int .u16 0, .int .u16 0, .int .u16 0, .int .u16 0, .int .u16 0, .int .u16 0, .int .u16 0, .int .u16 0, .int .u16 1, .int .u16 123], .bool true]) (by simp [results, Try.results48, go_sem]) rfl ⟨rfl, rfl⟩
set_option maxHeartbeats 1600000 in
theorem rlim_22 (w : World) : Calls Try.prog 48 #[.int .u8 22] w fun e w' => e = .returned (.tuple #[.agg #[.int .u16 0, .int .u16 0, .int .u16 0, .int .u16 0, .int .u16 0, .int .u16 0, .int .u16 0, .int .u16 0, .int .u16 2, .int .u16 2], .bool true]) ∧ w' = w.alloc (.cells #[.int .u16 0, .int .u16 0, .int .u16 0, .int .u16 0, .int .u16 0, .int .u16 0, .int .u16 0, .int .u16 0, .int .u16 2, .int .u16 2] 76) := by
  go_enter Try.func48, Try.ntmps48
  go_wp2
  refine bodyPost_ret (v := .tuple #[.agg #[.int .u16 0, .int .u16 0, .int .u16 0, .int .u16 0, .int .u16 0, .int .u16 0, .int .u16 0, .int .u16 0, .int .u16 2, .int .u16 2], .bool true]) (by simp [results, Try.results48, go_sem]) rfl ⟨rfl, rfl⟩
set_option maxHeartbeats 1600000 in
theorem rlim_23 (w : World) : Calls Try.prog 48 #[.int .u8 23] w fun e w' => e = .returned (.tuple #[.agg #[.int .u16 0, .int .u16 0, .int .u16 0, .int .u16 65535, .int .u16 1, .int .u16 125, .int .u16 0, .int .u16 0, .int .u16 1, .int .u16 121], .bool true]) ∧ w' = w.alloc (.cells #[.int .u16 0, .int .u16 0, .int .u16 0, .int .u16 65535, .int .u16 1, .int .u16 125, .int .u16 0, .int .u16 0, .int .u16 1, .int .u16 121] 76) := by
  go_enter Try.func48, Try.ntmps48
  go_wp2
  refine bodyPost_ret (v := .tuple #[.agg #[.int .u16 0, .int .u16 0, .int .u16 0, .int .u16 65535, .int .u16 1, .int .u16 125, .int .u16 0, .int .u16 0, .int .u16 1, .int .u16 121], .bool true]) (by simp [results, Try.results48, go_sem]) rfl ⟨rfl, rfl⟩
set_option maxHeartbeats 1600000 in
theorem rlim_no (fn : Nat) (h1 : fn ≠ 1) (h2 : fn ≠ 2) (h3 : fn ≠ 3) (h4 : fn ≠ 4) (h5 : fn ≠ 5) (h6 : fn ≠ 6) (h15 : fn ≠ 15) (h16 : fn ≠ 16) (h22 : fn ≠ 22) (h23 : fn ≠ 23) (w : World) : Calls Try.prog 48 #[.int .u8 fn] w fun e w' => e = .returned (.tuple #[.agg #[.int .u16 0, .int .u16 0, .int .u16 0, .int .u16 0, .int .u16 0, .int .u16 0, .int .u16 0, .int .u16 0, .int .u16 0, .int .u16 0], .bool false]) ∧ w' = w.alloc (.cells #[.int .u16 0, .int .u16 0, .int .u16 0, .int .u16 0, .int .u16 0, .int .u16 0, .int .u16 0, .int .u16 0, .int .u16 0, .int .u16 0] 76) := by
  have g1 : ((fn : Int) == 1) = false := by rw [beq_eq_false_iff_ne]; omega
  have g2 : ((fn : Int) == 2) = false := by rw [beq_eq_false_iff_ne]; omega
  have g3 : ((fn : Int) == 3) = false := by rw [beq_eq_false_iff_ne]; omega
  have g4 : ((fn : Int) == 4) = false := by rw [beq_eq_false_iff_ne]; omega
  have g5 : ((fn : Int) == 5) = false := by rw [beq_eq_false_iff_ne]; omega
  have g6 : ((fn : Int) == 6) = false := by rw [beq_eq_false_iff_ne]; omega
  have g15 : ((fn : Int) == 15) = false := by rw [beq_eq_false_iff_ne]; omega
  have g16 : ((fn : Int) == 16) = false := by rw [beq_eq_false_iff_ne]; omega
  have g22 : ((fn : Int) == 22) = false := by rw [beq_eq_false_iff_ne]; omega
  have g23 : ((fn : Int) == 23) = false := by rw [beq_eq_false_iff_ne]; omega
  go_enter Try.func48, Try.ntmps48
  go_wp2
  refine bodyPost_ret (v := .tuple #[.agg #[.int .u16 0, .int .u16 0, .int .u16 0, .int .u16 0, .int .u16 0, .int .u16 0, .int .u16 0, .int .u16 0, .int .u16 0, .int .u16 0], .bool false]) (by simp [results, Try.results48, go_sem]) rfl ⟨rfl, rfl⟩
theorem rlim_c (fn : Nat) (w : World) : Calls Try.prog 48 #[.int .u8 fn] w fun e w' => e = .returned (.tuple #[limV (rlim fn), .bool (known fn)]) ∧ w' = w.alloc (.cells (limA (rlim fn)) 76) := by
  rcases known_cases fn with rfl | rfl | rfl | rfl | rfl | rfl | rfl | rfl | rfl | rfl | ⟨h1, h2, h3, h4, h5, h6, h15, h16, h22, h23⟩
  · exact rlim_1 w
  · exact rlim_2 w
  · exact rlim_3 w
  · exact rlim_4 w
  · exact rlim_5 w
  · exact rlim_6 w
  · exact rlim_15 w
  · exact rlim_16 w
  · exact rlim_22 w
  · exact rlim_23 w
  · rw [show known fn = false by unfold known; rw [decide_eq_false]; omega, show rlim fn = [0, 0, 0, 0, 0, 0, 0, 0, 0, 0] by unfold rlim; simp [*]]
    exact rlim_no fn h1 h2 h3 h4 h5 h6 h15 h16 h22 h23 w
set_option maxHeartbeats 1600000 in
theorem within16_c (n lo hi : Nat) (w : World) : Calls Try.prog 49 #[.int .u16 n, .agg #[.int .u16 lo, .int .u16 hi]] w fun e w' => e = .returned (.bool (inside n lo hi)) ∧ w' = w.alloc (.cells #[.int .u16 lo, .int .u16 hi] 74) := by
  by_cases h1 : lo ≤ n
  · by_cases h2 : n ≤ hi
    · rw [show inside n lo hi = true by unfold inside; simp [h1, h2]]
      go_enter Try.func49, Try.ntmps49
      go_wp2
      go_ret
      exact ⟨rfl, rfl⟩
    · rw [show inside n lo hi = false by unfold inside; simp [h1, h2]]
      go_enter Try.func49, Try.ntmps49
      go_wp2
      go_ret
      exact ⟨rfl, rfl⟩
  · rw [show inside n lo hi = false by unfold inside; simp [h1]]
    go_enter Try.func49, Try.ntmps49
    go_wp2
    go_ret
    exact ⟨rfl, rfl⟩
set_option maxHeartbeats 1600000 in
theorem withini_c (n lo hi : Nat) (hlo : lo < 65536) (hhi : hi < 65536) (w : World) : Calls Try.prog 50 #[.int .i64 n, .agg #[.int .u16 lo, .int .u16 hi]] w fun e w' => e = .returned (.bool (inside n lo hi)) ∧ w' = w.alloc (.cells #[.int .u16 lo, .int .u16 hi] 74) := by
  by_cases h1 : lo ≤ n
  · by_cases h2 : n ≤ hi
    · rw [show inside n lo hi = true by unfold inside; simp [h1, h2]]
      go_enter Try.func50, Try.ntmps50
      go_wp2
      go_ret
      exact ⟨rfl, rfl⟩
    · rw [show inside n lo hi = false by unfold inside; simp [h1, h2]]
      go_enter Try.func50, Try.ntmps50
      go_wp2
      go_ret
      exact ⟨rfl, rfl⟩
  · rw [show inside n lo hi = false by unfold inside; simp [h1]]
    go_enter Try.func50, Try.ntmps50
    go_wp2
    go_ret
    exact ⟨rfl, rfl⟩
set_option maxHeartbeats 1600000 in
theorem known_c (fn : Nat) (w : World) : Calls Try.prog 28 #[.int .u8 fn] w fun e w' => e = .returned (.bool (known fn)) ∧ Below w.heap.size w w' := by
  have hr := rlim_c fn
  unfold limV limA at hr
  go_enter Try.func28, Try.ntmps28
  go_wp2_with (go_at_call 48; refine (hr w).mono ?_; rintro e w' ⟨rfl, hw⟩; subst w')
  go_ret
  exact ⟨rfl, ((Below.refl _ w).alloc (Nat.le_refl _) _).alloc (by simp) _⟩
end Go.Proofs.Ytehbbkdiekgpbaa
