/- The walks of small functions: bit, wrap, machineOf (stage 17). -/
import Derived.Test.YtbpnaenineinmaaM1
namespace Go.Proofs.Ytbpnaenineinmaa
open Go.RowKit
open Fb
theorem ret_bool {a b : Bool} (h : a = b) : Ending.returned (.bool a) = .returned (.bool b) := by rw [h]
theorem ret_int {a b : Int} (h : a = b) : Ending.returned (.int .i64 a) = .returned (.int .i64 b) := by rw [h]
theorem bit_c (b : Bool) (w : World) : Calls Try.prog 30 #[.bool b] w fun e w' => e = .returned (.int .i64 (b01 b)) ∧ w' = w := by
  cases b
  · go_enter Try.func30, Try.ntmps30
    go_wp2
    go_ret
    exact ⟨rfl, rfl⟩
  · go_enter Try.func30, Try.ntmps30
    go_wp2
    go_ret
    exact ⟨rfl, rfl⟩
theorem i16_is0 (n : Int) : IntKind.i16.wrap n = w16 n := by
  simp only [IntKind.wrap, IntKind.bits, IntKind.signed, w16]
  simp
  omega
theorem i16_is (n : Int) : wrap64 (IntKind.i16.wrap n) = w16 n := by
  rw [i16_is0]; unfold w16 wrap64; omega
theorem i32_is (n : Int) : wrap64 (wrap32 n) = w32 n := by unfold wrap64 wrap32 w32; omega
set_option maxHeartbeats 400000 in
theorem wrap_bool (n : Int) (w : World) : Calls Try.prog 20 #[.int .i64 1, .int .i64 n] w fun e w' => e = .returned (.int .i64 (b01 (tr n))) ∧ w' = w := by
  cases h : tr n with
  | false =>
    have h1 : (n != 0) = false := h
    have C := hid_as (bit_c false w)
    have h := hid_as h
    go_enter Try.func20, Try.ntmps20
    go_wp2_with (go_at_call 30; refine C.out.mono ?_; rintro e w' ⟨rfl, hw⟩; subst w')
    go_ret
    exact ⟨rfl, rfl⟩
  | true =>
    have h1 : (n != 0) = true := h
    have C := hid_as (bit_c true w)
    have h := hid_as h
    go_enter Try.func20, Try.ntmps20
    go_wp2_with (go_at_call 30; refine C.out.mono ?_; rintro e w' ⟨rfl, hw⟩; subst w')
    go_ret
    exact ⟨rfl, rfl⟩
set_option maxHeartbeats 400000 in
theorem wrap_int (n : Int) (w : World) : Calls Try.prog 20 #[.int .i64 3, .int .i64 n] w fun e w' => e = .returned (.int .i64 (w16 n)) ∧ w' = w := by
  have h := hid_as (i16_is n)
  go_enter Try.func20, Try.ntmps20
  go_wp2
  go_ret
  exact ⟨ret_int h.out, rfl⟩
set_option maxHeartbeats 400000 in
theorem wrap_else (k n : Int) (h1 : (k == 1) = false) (h3 : (k == 3) = false) (w : World) : Calls Try.prog 20 #[.int .i64 k, .int .i64 n] w fun e w' => e = .returned (.int .i64 (w32 n)) ∧ w' = w := by
  have h := hid_as (i32_is n)
  go_enter Try.func20, Try.ntmps20
  go_wp2
  go_ret
  exact ⟨ret_int h.out, rfl⟩
theorem wrap_c (k n : Int) (w : World) : Calls Try.prog 20 #[.int .i64 k, .int .i64 n] w fun e w' => e = .returned (.int .i64 (wkd k n)) ∧ w' = w := by
  unfold wkd
  by_cases h1 : k = 1
  · subst h1; rw [if_pos rfl]; exact wrap_bool n w
  · rw [if_neg h1]
    by_cases h3 : k = 3
    · subst h3; rw [if_pos rfl]; exact wrap_int n w
    · rw [if_neg h3]; exact wrap_else k n (by rw [beq_eq_false_iff_ne]; exact h1) (by rw [beq_eq_false_iff_ne]; exact h3) w
end Go.Proofs.Ytbpnaenineinmaa
