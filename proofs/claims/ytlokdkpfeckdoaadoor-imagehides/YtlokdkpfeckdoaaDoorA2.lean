/- The reference's Size, Bit; is there such a place; a bit's value (stage 11). -/
import Derived.Test.YtlokdkpfeckdoaaDoorA1
namespace Go.Proofs.YtlokdkpfeckdoaaDoor
open Go.RowKit
open Adr
set_option maxHeartbeats 800000 in
theorem rsize_c (a : Int) (w : World) : Calls Tryd.prog 36 #[.int .i64 a] w fun e w' => e = .returned (.int .i64 (szI a)) ∧ w' = w := by
  rcases int_cases a with ⟨k, hk, rfl⟩ | h
  · have hc : k = 0 ∨ k = 1 ∨ k = 2 ∨ k = 3 ∨ k = 4 ∨ k = 5 ∨ k = 6 := by omega
    rcases hc with rfl | rfl | rfl | rfl | rfl | rfl | rfl
    all_goals
      go_enter Tryd.func36, Tryd.ntmps36
      go_wp2
      go_ret
      exact ⟨rfl, rfl⟩
  · rw [szI_out h]
    have n1 : (a == 1) = false := by rw [beq_eq_false_iff_ne]; omega
    have n2 : (a == 2) = false := by rw [beq_eq_false_iff_ne]; omega
    have n3 : (a == 3) = false := by rw [beq_eq_false_iff_ne]; omega
    have n4 : (a == 4) = false := by rw [beq_eq_false_iff_ne]; omega
    have n5 : (a == 5) = false := by rw [beq_eq_false_iff_ne]; omega
    have n6 : (a == 6) = false := by rw [beq_eq_false_iff_ne]; omega
    clear h
    go_enter Tryd.func36, Tryd.ntmps36
    go_wp2
    go_ret
    exact ⟨rfl, rfl⟩
set_option maxHeartbeats 800000 in
theorem rbit_c (a : Int) (w : World) : Calls Tryd.prog 39 #[.int .i64 a] w fun e w' => e = .returned (.bool (btI a)) ∧ w' = w := by
  rcases int_cases a with ⟨k, hk, rfl⟩ | h
  · have hc : k = 0 ∨ k = 1 ∨ k = 2 ∨ k = 3 ∨ k = 4 ∨ k = 5 ∨ k = 6 := by omega
    rcases hc with rfl | rfl | rfl | rfl | rfl | rfl | rfl
    all_goals
      go_enter Tryd.func39, Tryd.ntmps39
      go_wp2
      go_ret
      exact ⟨rfl, rfl⟩
  · rw [btI_out h]
    have n1 : (a == 1) = false := by rw [beq_eq_false_iff_ne]; omega
    have n2 : (a == 2) = false := by rw [beq_eq_false_iff_ne]; omega
    have n3 : (a == 3) = false := by rw [beq_eq_false_iff_ne]; omega
    clear h
    go_enter Tryd.func39, Tryd.ntmps39
    go_wp2
    go_ret
    exact ⟨rfl, rfl⟩
set_option maxHeartbeats 800000 in
/-- has, of any numbers. -/
theorem has_c (a n : Int) (w : World) (hA : AreasAt w) : Calls Tryd.prog 37 #[.int .i64 a, .int .i64 n] w fun e w' => e = .returned (.bool (hasI a n)) ∧ w' = w := by
  by_cases h : 0 ≤ n
  · unfold hasI
    rw [decide_eq_true h]
    go_enter Tryd.func37, Tryd.ntmps37
    go_wp2_with (go_at_call 35; refine (size_c _ _ hA).mono ?_; rintro e w' ⟨rfl, hw⟩; subst w')
    go_ret
    exact ⟨rfl, rfl⟩
  · rw [hasI_lo (by omega)]
    go_enter Tryd.func37, Tryd.ntmps37
    go_wp2
    go_ret
    exact ⟨rfl, rfl⟩
set_option maxHeartbeats 800000 in
/-- The reference's is, of any numbers. -/
theorem is_c (a n : Int) (w : World) : Calls Tryd.prog 28 #[.int .i64 a, .int .i64 n] w fun e w' => e = .returned (.bool (hasI a n)) ∧ w' = w := by
  by_cases h : 0 ≤ n
  · unfold hasI
    rw [decide_eq_true h]
    go_enter Tryd.func28, Tryd.ntmps28
    go_wp2_with (go_at_call 36; refine (rsize_c _ _).mono ?_; rintro e w' ⟨rfl, hw⟩; subst w')
    go_ret
    exact ⟨rfl, rfl⟩
  · rw [hasI_lo (by omega)]
    go_enter Tryd.func28, Tryd.ntmps28
    go_wp2
    go_ret
    exact ⟨rfl, rfl⟩
namespace Adr
/-- What a value becomes in an area. -/
def bv (a : Int) (v : Nat) : Nat := if btI a then min v 1 else v
theorem bv_word {a : Int} (v : Nat) (h : btI a = false) : bv a v = v := by unfold bv; rw [h]; rfl
theorem bv_bit {a : Int} (v : Nat) (h : btI a = true) : bv a v = min v 1 := by unfold bv; rw [h]; rfl
end Adr
set_option maxHeartbeats 800000 in
/-- The reference's bit. -/
theorem bitv_c (a : Int) (v : Nat) (w : World) : Calls Tryd.prog 29 #[.int .i64 a, .int .u16 (v : Int)] w fun e w' => e = .returned (.int .u16 (bv a v : Int)) ∧ w' = w := by
  by_cases h : btI a = true
  · rw [bv_bit v h]
    by_cases hv : v = 0
    · subst hv
      go_enter Tryd.func29, Tryd.ntmps29
      go_wp2_with (go_at_call 39; refine (rbit_c _ _).mono ?_; rintro e w' ⟨rfl, hw⟩; subst w'; rw [h])
      go_ret
      exact ⟨rfl, rfl⟩
    · rw [show min v 1 = 1 by omega]
      have hv' : ((v : Int) == 0) = false := by rw [beq_eq_false_iff_ne]; omega
      go_enter Tryd.func29, Tryd.ntmps29
      go_wp2_with (go_at_call 39; refine (rbit_c _ _).mono ?_; rintro e w' ⟨rfl, hw⟩; subst w'; rw [h])
      go_ret
      exact ⟨rfl, rfl⟩
  · have h' : btI a = false := by simpa using h
    rw [bv_word v h']
    go_enter Tryd.func29, Tryd.ntmps29
    go_wp2_with (go_at_call 39; refine (rbit_c _ _).mono ?_; rintro e w' ⟨rfl, hw⟩; subst w'; rw [h'])
    go_ret
    exact ⟨rfl, rfl⟩
end Go.Proofs.YtlokdkpfeckdoaaDoor
