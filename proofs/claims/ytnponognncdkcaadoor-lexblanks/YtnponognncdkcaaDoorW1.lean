/- Signs: letters, digits, blanks; heads of texts (stage 12). -/
import Derived.Test.YtnponognncdkcaaDoorQ1
import Derived.Deep.RegionHeld3
namespace Go.Proofs.YtnponognncdkcaaDoor
open Go.RowKit
open Adr Lx
theorem ret_bool {a b : Bool} (h : a = b) : Ending.returned (.bool a) = .returned (.bool b) := by rw [h]
theorem ret_int {a b : Int} (h : a = b) : Ending.returned (.int .i64 a) = .returned (.int .i64 b) := by rw [h]
theorem isDigit_c (c : UInt8) (w : World) : Calls Tryd.prog 30 #[.int .u8 c.toNat] w fun e w' => e = .returned (.bool (dgt c)) ∧ w' = w := by
  go_enter Tryd.func30, Tryd.ntmps30
  go_wp2
  all_goals go_ret
  all_goals refine ⟨ret_bool ?_, rfl⟩
  all_goals unfold dgt
  all_goals (first | rfl | grind)
theorem isLetter_c (c : UInt8) (w : World) : Calls Tryd.prog 28 #[.int .u8 c.toNat] w fun e w' => e = .returned (.bool (isL c)) ∧ w' = w := by
  go_enter Tryd.func28, Tryd.ntmps28
  go_wp2
  all_goals go_ret
  all_goals refine ⟨ret_bool ?_, rfl⟩
  all_goals unfold isL
  all_goals (first | rfl | grind)
theorem isBlank_c (c : UInt8) (il : Bool) (w : World) : Calls Tryd.prog 18 #[.int .u8 c.toNat, .bool il] w fun e w' => e = .returned (.bool (blk c il)) ∧ w' = w := by
  cases il
  all_goals
    go_enter Tryd.func18, Tryd.ntmps18
    go_wp2
    all_goals go_ret
    all_goals refine ⟨ret_bool ?_, rfl⟩
    all_goals unfold blk
    all_goals (first | rfl | grind)
theorem inWord_c (c : UInt8) (w : World) : Calls Tryd.prog 43 #[.int .u8 c.toNat] w fun e w' => e = .returned (.bool (inW c)) ∧ w' = w := by
  unfold inW
  cases h : isL c
  all_goals
    go_enter Tryd.func43, Tryd.ntmps43
    go_wp2_with (first | (go_at_call 28; refine (isLetter_c _ _).mono ?_; rintro e w' ⟨rfl, hw⟩; subst w'; rw [h]) | (go_at_call 30; refine (isDigit_c _ _).mono ?_; rintro e w' ⟨rfl, hw⟩; subst w'))
    go_ret
    exact ⟨rfl, rfl⟩
theorem inAddress_c (c : UInt8) (w : World) : Calls Tryd.prog 48 #[.int .u8 c.toNat] w fun e w' => e = .returned (.bool (inA c)) ∧ w' = w := by
  unfold inA
  by_cases h5 : c.toNat = 95
  · rw [decide_eq_true h5, decide_eq_false (p := c.toNat = 46) (by omega)]
    have h5' : (c.toNat : Int) = 95 := by omega
    go_enter Tryd.func48, Tryd.ntmps48
    go_wp2
    go_ret
    exact ⟨rfl, rfl⟩
  · rw [decide_eq_false h5]
    have h5' : ¬ (c.toNat : Int) = 95 := by omega
    cases h : inW c
    all_goals
      go_enter Tryd.func48, Tryd.ntmps48
      go_wp2_with (go_at_call 43; refine (inWord_c _ _).mono ?_; rintro e w' ⟨rfl, hw⟩; subst w'; rw [h])
      go_ret
      refine ⟨ret_bool ?_, rfl⟩
      first | rfl | grind
theorem digit_c (c : UInt8) (w : World) : Calls Tryd.prog 81 #[.int .u8 c.toNat] w fun e w' => e = .returned (.int .i64 (dv c)) ∧ w' = w := by
  have hc := c.toNat_lt
  unfold dv
  cases h : dgt c
  · rw [if_neg Bool.false_ne_true]
    by_cases h6 : 65 ≤ c.toNat ∧ c.toNat ≤ 70
    · rw [decide_eq_true h6.1, decide_eq_true h6.2]
      have a1 : (65 : Int) ≤ c.toNat := by omega
      have a2 : (c.toNat : Int) ≤ 70 := by omega
      go_enter Tryd.func81, Tryd.ntmps81
      go_wp2_with (go_at_call 30; refine (isDigit_c _ _).mono ?_; rintro e w' ⟨rfl, hw⟩; subst w'; rw [h])
      go_ret
      refine ⟨ret_int ?_, rfl⟩
      omega
    · have e0 : (decide (65 ≤ c.toNat) && decide (c.toNat ≤ 70)) = false := by
        rw [Bool.and_eq_false_iff, decide_eq_false_iff_not, decide_eq_false_iff_not]; omega
      rw [e0]
      go_enter Tryd.func81, Tryd.ntmps81
      go_wp2_with (go_at_call 30; refine (isDigit_c _ _).mono ?_; rintro e w' ⟨rfl, hw⟩; subst w'; rw [h])
      all_goals first | (go_ret; exact ⟨rfl, rfl⟩) | (exfalso; omega)
  · rw [if_pos rfl]
    have hd : 48 ≤ c.toNat ∧ c.toNat ≤ 57 := by unfold dgt at h; simpa using h
    go_enter Tryd.func81, Tryd.ntmps81
    go_wp2_with (go_at_call 30; refine (isDigit_c _ _).mono ?_; rintro e w' ⟨rfl, hw⟩; subst w'; rw [h])
    go_ret
    refine ⟨ret_int ?_, rfl⟩
    omega
theorem hasPrefix_c (s p : ByteArray) (w : World) : Calls Tryd.prog 19 #[.string s, .string p] w fun e w' => e = .returned (.bool (hp s.data.toList p.data.toList)) ∧ w' = w := by
  unfold hp
  rw [← Lib.hasPrefix_raw]
  by_cases h1 : p.size ≤ s.size
  · rw [decide_eq_true h1]
    go_enter Tryd.func19, Tryd.ntmps19
    go_wp2
    go_ret
    exact ⟨rfl, rfl⟩
  · rw [decide_eq_false h1]
    go_enter Tryd.func19, Tryd.ntmps19
    go_wp2
    go_ret
    exact ⟨rfl, rfl⟩
end Go.Proofs.YtnponognncdkcaaDoor
