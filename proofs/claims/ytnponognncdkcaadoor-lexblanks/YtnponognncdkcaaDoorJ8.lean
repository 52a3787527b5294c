/- The reference's kinds: signed, scalar, width (stage 12). · The reference's ranges (stage 12). -/
import Derived.Test.YtnponognncdkcaaDoorT1
import Derived.Test.YtnponognncdkcaaDoorW3
import Derived.Test.YtnponognncdkcaaDoorW8
import Derived.Deep.CutRange
namespace Go.Proofs.YtnponognncdkcaaDoor
open Go.RowKit
open Adr Lx
def wdK : Nat → Int
  | 1 => 1
  | 2 | 5 | 8 => 8
  | 3 | 6 | 9 => 16
  | _ => 32
theorem signed_r (k : Nat) (h1 : 1 ≤ k) (h2 : k ≤ 11) (w : World) : Calls Tryd.prog 71 #[.int .i64 k] w fun e w' => e = .returned (.bool (decide (klo k < 0))) ∧ w' = w := by
  have hc : k = 1 ∨ k = 2 ∨ k = 3 ∨ k = 4 ∨ k = 5 ∨ k = 6 ∨ k = 7 ∨ k = 8 ∨ k = 9 ∨ k = 10 ∨ k = 11 := by omega
  rcases hc with rfl | rfl | rfl | rfl | rfl | rfl | rfl | rfl | rfl | rfl | rfl
  all_goals
    go_enter Tryd.func71, Tryd.ntmps71
    go_wp2
    go_ret
    exact ⟨rfl, rfl⟩
theorem scalar_r (k : Nat) (h1 : 1 ≤ k) (h2 : k ≤ 11) (w : World) : Calls Tryd.prog 88 #[.int .i64 k] w fun e w' => e = .returned (.bool true) ∧ w' = w := by
  have a1 : (1 : Int) ≤ k := by omega
  have a2 : (k : Int) ≤ 11 := by omega
  go_enter Tryd.func88, Tryd.ntmps88
  go_wp2
  go_ret
  exact ⟨rfl, rfl⟩
set_option maxHeartbeats 2000000 in
theorem width_r (k : Nat) (h1 : 1 ≤ k) (h2 : k ≤ 11) (w : World) : Calls Tryd.prog 86 #[.int .i64 k] w fun e w' => e = .returned (.int .i64 (wdK k)) ∧ Below w.heap.size w w' := by
  have S := hid_as (scalar_r k h1 h2)
  have hc : k = 1 ∨ k = 2 ∨ k = 3 ∨ k = 4 ∨ k = 5 ∨ k = 6 ∨ k = 7 ∨ k = 8 ∨ k = 9 ∨ k = 10 ∨ k = 11 := by omega
  rcases hc with rfl | rfl | rfl | rfl | rfl | rfl | rfl | rfl | rfl | rfl | rfl
  all_goals
    go_enter Tryd.func86, Tryd.ntmps86
    go_wp2_with (go_at_call 88; refine (S.out _).mono ?_; rintro e w' ⟨rfl, hw⟩; subst w')
    go_ret
    exact ⟨rfl, below_new1 _ _⟩
open Go.RowKit
open Adr Lx
set_option maxHeartbeats 1000000 in
theorem range_1 (w : World) : Calls Tryd.prog 73 #[.int .i64 1] w fun e w' => e = .returned (.tuple #[.int .i64 (klo 1), .int .i64 (khi 1)]) ∧ Below w.heap.size w w' := by
  have S : Hid (∀ W, Calls Tryd.prog 71 #[.int .i64 1] W fun e w' => e = .returned (.bool false) ∧ w' = W) := fun W => signed_r 1 (by omega) (by omega) W
  have Wd : Hid (∀ W, Calls Tryd.prog 86 #[.int .i64 1] W fun e w' => e = .returned (.int .i64 1) ∧ Below W.heap.size W w') := fun W => width_r 1 (by omega) (by omega) W
  go_enter Tryd.func73, Tryd.ntmps73
  go_wp2_with (first
    | (go_at_call 86; (with_reducible refine (Wd.out _).mono ?_); rintro e w3 ⟨rfl, b3⟩)
    | (go_at_call 71; (with_reducible refine (S.out _).mono ?_); rintro e w' ⟨rfl, hw⟩; subst w'))
  go_region
  go_wp2
  go_ret2
  exact ⟨rfl, b3.drew⟩
set_option maxHeartbeats 1000000 in
theorem range_2 (w : World) : Calls Tryd.prog 73 #[.int .i64 2] w fun e w' => e = .returned (.tuple #[.int .i64 (klo 2), .int .i64 (khi 2)]) ∧ Below w.heap.size w w' := by
  have S : Hid (∀ W, Calls Tryd.prog 71 #[.int .i64 2] W fun e w' => e = .returned (.bool true) ∧ w' = W) := fun W => signed_r 2 (by omega) (by omega) W
  have Wd : Hid (∀ W, Calls Tryd.prog 86 #[.int .i64 2] W fun e w' => e = .returned (.int .i64 8) ∧ Below W.heap.size W w') := fun W => width_r 2 (by omega) (by omega) W
  go_enter Tryd.func73, Tryd.ntmps73
  go_wp2_with (first
    | (go_at_call 86; (with_reducible refine (Wd.out _).mono ?_); rintro e w3 ⟨rfl, b3⟩)
    | (go_at_call 71; (with_reducible refine (S.out _).mono ?_); rintro e w' ⟨rfl, hw⟩; subst w'))
  go_region
  go_wp2
  go_ret2
  exact ⟨rfl, b3.drew⟩
set_option maxHeartbeats 1000000 in
theorem range_3 (w : World) : Calls Tryd.prog 73 #[.int .i64 3] w fun e w' => e = .returned (.tuple #[.int .i64 (klo 3), .int .i64 (khi 3)]) ∧ Below w.heap.size w w' := by
  have S : Hid (∀ W, Calls Tryd.prog 71 #[.int .i64 3] W fun e w' => e = .returned (.bool true) ∧ w' = W) := fun W => signed_r 3 (by omega) (by omega) W
  have Wd : Hid (∀ W, Calls Tryd.prog 86 #[.int .i64 3] W fun e w' => e = .returned (.int .i64 16) ∧ Below W.heap.size W w') := fun W => width_r 3 (by omega) (by omega) W
  go_enter Tryd.func73, Tryd.ntmps73
  go_wp2_with (first
    | (go_at_call 86; (with_reducible refine (Wd.out _).mono ?_); rintro e w3 ⟨rfl, b3⟩)
    | (go_at_call 71; (with_reducible refine (S.out _).mono ?_); rintro e w' ⟨rfl, hw⟩; subst w'))
  go_region
  go_wp2
  go_ret2
  exact ⟨rfl, b3.drew⟩
set_option maxHeartbeats 1000000 in
theorem range_4 (w : World) : Calls Tryd.prog 73 #[.int .i64 4] w fun e w' => e = .returned (.tuple #[.int .i64 (klo 4), .int .i64 (khi 4)]) ∧ Below w.heap.size w w' := by
  have S : Hid (∀ W, Calls Tryd.prog 71 #[.int .i64 4] W fun e w' => e = .returned (.bool true) ∧ w' = W) := fun W => signed_r 4 (by omega) (by omega) W
  have Wd : Hid (∀ W, Calls Tryd.prog 86 #[.int .i64 4] W fun e w' => e = .returned (.int .i64 32) ∧ Below W.heap.size W w') := fun W => width_r 4 (by omega) (by omega) W
  go_enter Tryd.func73, Tryd.ntmps73
  go_wp2_with (first
    | (go_at_call 86; (with_reducible refine (Wd.out _).mono ?_); rintro e w3 ⟨rfl, b3⟩)
    | (go_at_call 71; (with_reducible refine (S.out _).mono ?_); rintro e w' ⟨rfl, hw⟩; subst w'))
  go_region
  go_wp2
  go_ret2
  exact ⟨rfl, b3.drew⟩
set_option maxHeartbeats 1000000 in
theorem range_5 (w : World) : Calls Tryd.prog 73 #[.int .i64 5] w fun e w' => e = .returned (.tuple #[.int .i64 (klo 5), .int .i64 (khi 5)]) ∧ Below w.heap.size w w' := by
  have S : Hid (∀ W, Calls Tryd.prog 71 #[.int .i64 5] W fun e w' => e = .returned (.bool false) ∧ w' = W) := fun W => signed_r 5 (by omega) (by omega) W
  have Wd : Hid (∀ W, Calls Tryd.prog 86 #[.int .i64 5] W fun e w' => e = .returned (.int .i64 8) ∧ Below W.heap.size W w') := fun W => width_r 5 (by omega) (by omega) W
  go_enter Tryd.func73, Tryd.ntmps73
  go_wp2_with (first
    | (go_at_call 86; (with_reducible refine (Wd.out _).mono ?_); rintro e w3 ⟨rfl, b3⟩)
    | (go_at_call 71; (with_reducible refine (S.out _).mono ?_); rintro e w' ⟨rfl, hw⟩; subst w'))
  go_region
  go_wp2
  go_ret2
  exact ⟨rfl, b3.drew⟩
set_option maxHeartbeats 1000000 in
theorem range_6 (w : World) : Calls Tryd.prog 73 #[.int .i64 6] w fun e w' => e = .returned (.tuple #[.int .i64 (klo 6), .int .i64 (khi 6)]) ∧ Below w.heap.size w w' := by
  have S : Hid (∀ W, Calls Tryd.prog 71 #[.int .i64 6] W fun e w' => e = .returned (.bool false) ∧ w' = W) := fun W => signed_r 6 (by omega) (by omega) W
  have Wd : Hid (∀ W, Calls Tryd.prog 86 #[.int .i64 6] W fun e w' => e = .returned (.int .i64 16) ∧ Below W.heap.size W w') := fun W => width_r 6 (by omega) (by omega) W
  go_enter Tryd.func73, Tryd.ntmps73
  go_wp2_with (first
    | (go_at_call 86; (with_reducible refine (Wd.out _).mono ?_); rintro e w3 ⟨rfl, b3⟩)
    | (go_at_call 71; (with_reducible refine (S.out _).mono ?_); rintro e w' ⟨rfl, hw⟩; subst w'))
  go_region
  go_wp2
  go_ret2
  exact ⟨rfl, b3.drew⟩
set_option maxHeartbeats 1000000 in
theorem range_7 (w : World) : Calls Tryd.prog 73 #[.int .i64 7] w fun e w' => e = .returned (.tuple #[.int .i64 (klo 7), .int .i64 (khi 7)]) ∧ Below w.heap.size w w' := by
  have S : Hid (∀ W, Calls Tryd.prog 71 #[.int .i64 7] W fun e w' => e = .returned (.bool false) ∧ w' = W) := fun W => signed_r 7 (by omega) (by omega) W
  have Wd : Hid (∀ W, Calls Tryd.prog 86 #[.int .i64 7] W fun e w' => e = .returned (.int .i64 32) ∧ Below W.heap.size W w') := fun W => width_r 7 (by omega) (by omega) W
  go_enter Tryd.func73, Tryd.ntmps73
  go_wp2_with (first
    | (go_at_call 86; (with_reducible refine (Wd.out _).mono ?_); rintro e w3 ⟨rfl, b3⟩)
    | (go_at_call 71; (with_reducible refine (S.out _).mono ?_); rintro e w' ⟨rfl, hw⟩; subst w'))
  go_region
  go_wp2
  go_ret2
  exact ⟨rfl, b3.drew⟩
set_option maxHeartbeats 1000000 in
theorem range_8 (w : World) : Calls Tryd.prog 73 #[.int .i64 8] w fun e w' => e = .returned (.tuple #[.int .i64 (klo 8), .int .i64 (khi 8)]) ∧ Below w.heap.size w w' := by
  have S : Hid (∀ W, Calls Tryd.prog 71 #[.int .i64 8] W fun e w' => e = .returned (.bool false) ∧ w' = W) := fun W => signed_r 8 (by omega) (by omega) W
  have Wd : Hid (∀ W, Calls Tryd.prog 86 #[.int .i64 8] W fun e w' => e = .returned (.int .i64 8) ∧ Below W.heap.size W w') := fun W => width_r 8 (by omega) (by omega) W
  go_enter Tryd.func73, Tryd.ntmps73
  go_wp2_with (first
    | (go_at_call 86; (with_reducible refine (Wd.out _).mono ?_); rintro e w3 ⟨rfl, b3⟩)
    | (go_at_call 71; (with_reducible refine (S.out _).mono ?_); rintro e w' ⟨rfl, hw⟩; subst w'))
  go_region
  go_wp2
  go_ret2
  exact ⟨rfl, b3.drew⟩
set_option maxHeartbeats 1000000 in
theorem range_9 (w : World) : Calls Tryd.prog 73 #[.int .i64 9] w fun e w' => e = .returned (.tuple #[.int .i64 (klo 9), .int .i64 (khi 9)]) ∧ Below w.heap.size w w' := by
  have S : Hid (∀ W, Calls Tryd.prog 71 #[.int .i64 9] W fun e w' => e = .returned (.bool false) ∧ w' = W) := fun W => signed_r 9 (by omega) (by omega) W
  have Wd : Hid (∀ W, Calls Tryd.prog 86 #[.int .i64 9] W fun e w' => e = .returned (.int .i64 16) ∧ Below W.heap.size W w') := fun W => width_r 9 (by omega) (by omega) W
  go_enter Tryd.func73, Tryd.ntmps73
  go_wp2_with (first
    | (go_at_call 86; (with_reducible refine (Wd.out _).mono ?_); rintro e w3 ⟨rfl, b3⟩)
    | (go_at_call 71; (with_reducible refine (S.out _).mono ?_); rintro e w' ⟨rfl, hw⟩; subst w'))
  go_region
  go_wp2
  go_ret2
  exact ⟨rfl, b3.drew⟩
set_option maxHeartbeats 1000000 in
theorem range_10 (w : World) : Calls Tryd.prog 73 #[.int .i64 10] w fun e w' => e = .returned (.tuple #[.int .i64 (klo 10), .int .i64 (khi 10)]) ∧ Below w.heap.size w w' := by
  have S : Hid (∀ W, Calls Tryd.prog 71 #[.int .i64 10] W fun e w' => e = .returned (.bool false) ∧ w' = W) := fun W => signed_r 10 (by omega) (by omega) W
  have Wd : Hid (∀ W, Calls Tryd.prog 86 #[.int .i64 10] W fun e w' => e = .returned (.int .i64 32) ∧ Below W.heap.size W w') := fun W => width_r 10 (by omega) (by omega) W
  go_enter Tryd.func73, Tryd.ntmps73
  go_wp2_with (first
    | (go_at_call 86; (with_reducible refine (Wd.out _).mono ?_); rintro e w3 ⟨rfl, b3⟩)
    | (go_at_call 71; (with_reducible refine (S.out _).mono ?_); rintro e w' ⟨rfl, hw⟩; subst w'))
  go_region
  go_wp2
  go_ret2
  exact ⟨rfl, b3.drew⟩
set_option maxHeartbeats 1000000 in
theorem range_11 (w : World) : Calls Tryd.prog 73 #[.int .i64 11] w fun e w' => e = .returned (.tuple #[.int .i64 (klo 11), .int .i64 (khi 11)]) ∧ Below w.heap.size w w' := by
  have S : Hid (∀ W, Calls Tryd.prog 71 #[.int .i64 11] W fun e w' => e = .returned (.bool true) ∧ w' = W) := fun W => signed_r 11 (by omega) (by omega) W
  have Wd : Hid (∀ W, Calls Tryd.prog 86 #[.int .i64 11] W fun e w' => e = .returned (.int .i64 32) ∧ Below W.heap.size W w') := fun W => width_r 11 (by omega) (by omega) W
  go_enter Tryd.func73, Tryd.ntmps73
  go_wp2_with (first
    | (go_at_call 86; (with_reducible refine (Wd.out _).mono ?_); rintro e w3 ⟨rfl, b3⟩)
    | (go_at_call 71; (with_reducible refine (S.out _).mono ?_); rintro e w' ⟨rfl, hw⟩; subst w'))
  go_region
  go_wp2
  go_ret2
  exact ⟨rfl, b3.drew⟩
theorem range_r (k : Nat) (h1 : 1 ≤ k) (h2 : k ≤ 11) (w : World) : Calls Tryd.prog 73 #[.int .i64 k] w fun e w' => e = .returned (.tuple #[.int .i64 (klo k), .int .i64 (khi k)]) ∧ Below w.heap.size w w' := by
  have hc : k = 1 ∨ k = 2 ∨ k = 3 ∨ k = 4 ∨ k = 5 ∨ k = 6 ∨ k = 7 ∨ k = 8 ∨ k = 9 ∨ k = 10 ∨ k = 11 := by omega
  rcases hc with rfl | rfl | rfl | rfl | rfl | rfl | rfl | rfl | rfl | rfl | rfl
  · exact range_1 w
  · exact range_2 w
  · exact range_3 w
  · exact range_4 w
  · exact range_5 w
  · exact range_6 w
  · exact range_7 w
  · exact range_8 w
  · exact range_9 w
  · exact range_10 w
  · exact range_11 w
end Go.Proofs.YtnponognncdkcaaDoor
