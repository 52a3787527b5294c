/- The reference's Size, Bit, Coil; numbers of tables: tableOf, Place, the reference's Place; help's Place (stage 10). -/
import Derived.Test.YtkalcabhafcdoaaDoorA1
namespace Go.Proofs.YtkalcabhafcdoaaDoor
open Go.RowKit
open Adr
theorem ret_int {a b : Int} (h : a = b) : Ending.returned (.int .i64 a) = .returned (.int .i64 b) := by rw [h]
set_option maxHeartbeats 800000 in
theorem rsize_c (a : Int) (w : World) : Calls Tryd.prog 12 #[.int .i64 a] w fun e w' => e = .returned (.int .i64 (szI a)) ∧ w' = w := by
  rcases int_cases a with ⟨k, hk, rfl⟩ | h
  · have hc : k = 0 ∨ k = 1 ∨ k = 2 ∨ k = 3 ∨ k = 4 ∨ k = 5 ∨ k = 6 := by omega
    rcases hc with rfl | rfl | rfl | rfl | rfl | rfl | rfl
    all_goals
      go_enter Tryd.func12, Tryd.ntmps12
      go_wp2
      go_ret
      exact ⟨rfl, rfl⟩
  · rw [szI_out h]
    have n1 : (a == 1) = false := by rw [beq_eq_false_iff_ne]; omega
    have n2 : (a == 2) = false := by rw [beq_eq_false_iff_ne]; omega
    have n3 : (a == 3) = false := by rw [beq_eq_false_iff_ne]; omega
    have n4 : (a == 4) = false := by rw [beq_eq_false_iff_ne]; omega
    have n5 : (a == 5) = false := by rw [beq_eq_false_iff_ne]; omega
    have n6 : (a == 6) = false := by rw [beq_eq_false_iff_ne]; omega
    clear h
    go_enter Tryd.func12, Tryd.ntmps12
    go_wp2
    go_ret
    exact ⟨rfl, rfl⟩
set_option maxHeartbeats 800000 in
theorem rbit_c (a : Int) (w : World) : Calls Tryd.prog 14 #[.int .i64 a] w fun e w' => e = .returned (.bool (btI a)) ∧ w' = w := by
  rcases int_cases a with ⟨k, hk, rfl⟩ | h
  · have hc : k = 0 ∨ k = 1 ∨ k = 2 ∨ k = 3 ∨ k = 4 ∨ k = 5 ∨ k = 6 := by omega
    rcases hc with rfl | rfl | rfl | rfl | rfl | rfl | rfl
    all_goals
      go_enter Tryd.func14, Tryd.ntmps14
      go_wp2
      go_ret
      exact ⟨rfl, rfl⟩
  · rw [btI_out h]
    have n1 : (a == 1) = false := by rw [beq_eq_false_iff_ne]; omega
    have n2 : (a == 2) = false := by rw [beq_eq_false_iff_ne]; omega
    have n3 : (a == 3) = false := by rw [beq_eq_false_iff_ne]; omega
    clear h
    go_enter Tryd.func14, Tryd.ntmps14
    go_wp2
    go_ret
    exact ⟨rfl, rfl⟩
set_option maxHeartbeats 800000 in
theorem rcoil_c (a n : Int) (w : World) : Calls Tryd.prog 16 #[.int .i64 a, .int .i64 n] w fun e w' => e = .returned (.int .i64 (coilI a n)) ∧ w' = w := by
  by_cases hh : hasI a n = true
  · obtain ⟨h0, h1, h2, h3, h4⟩ := hasI_yes hh
    have he : coilI a n = frs a.toNat + n := by unfold coilI; rw [if_pos hh]
    rw [he]
    clear he hh
    have h0' : ¬ n < 0 := by omega
    have h1' : decide (szI a ≤ n) = false := decide_eq_false (by omega)
    by_cases h3 : a = 3
    · subst h3
      go_enter Tryd.func16, Tryd.ntmps16
      go_wp2_with (go_at_call 12; refine (rsize_c _ _).mono ?_; rintro e w' ⟨rfl, hw⟩; subst w')
      go_ret
      exact ⟨rfl, rfl⟩
    · by_cases h6 : a = 6
      · subst h6
        go_enter Tryd.func16, Tryd.ntmps16
        go_wp2_with (go_at_call 12; refine (rsize_c _ _).mono ?_; rintro e w' ⟨rfl, hw⟩; subst w')
        go_ret
        exact ⟨rfl, rfl⟩
      · have hf : n = frs a.toNat + n := by unfold frs; split <;> omega
        replace hf := hid_as hf
        have n3 : (a == 3) = false := beq_eq_false_iff_ne.2 h3
        have n6 : (a == 6) = false := beq_eq_false_iff_ne.2 h6
        go_enter Tryd.func16, Tryd.ntmps16
        go_wp2_with (go_at_call 12; refine (rsize_c _ _).mono ?_; rintro e w' ⟨rfl, hw⟩; subst w')
        go_ret
        exact ⟨ret_int hf.out, rfl⟩
  · have he : coilI a n = -1 := by unfold coilI; rw [if_neg hh]
    have hh' : hasI a n = false := by simpa using hh
    rw [he]
    clear he hh
    by_cases h0 : n < 0
    · clear hh'
      go_enter Tryd.func16, Tryd.ntmps16
      go_wp2
      go_ret
      exact ⟨rfl, rfl⟩
    · have h1' : decide (szI a ≤ n) = true := by
        rw [decide_eq_true_eq]
        by_cases h : szI a ≤ n
        · exact h
        · rw [hasI_mk (by omega) (by omega)] at hh'; cases hh'
      clear hh'
      go_enter Tryd.func16, Tryd.ntmps16
      go_wp2_with (go_at_call 12; refine (rsize_c _ _).mono ?_; rintro e w' ⟨rfl, hw⟩; subst w')
      go_ret
      exact ⟨rfl, rfl⟩
/-- Which table a function is about. -/
def tbl (f : Nat) : Int := if f = 1 ∨ f = 5 ∨ f = 15 then 1 else if f = 2 then 2 else if f = 3 ∨ f = 6 ∨ f = 16 ∨ f = 22 ∨ f = 23 then 3 else if f = 4 then 4 else 0
theorem fn_cases (f : Nat) : f = 1 ∨ f = 5 ∨ f = 15 ∨ f = 2 ∨ f = 3 ∨ f = 6 ∨ f = 16 ∨ f = 22 ∨ f = 23 ∨ f = 4 ∨ (¬ f = 1 ∧ ¬ f = 5 ∧ ¬ f = 15 ∧ ¬ f = 2 ∧ ¬ f = 3 ∧ ¬ f = 6 ∧ ¬ f = 16 ∧ ¬ f = 22 ∧ ¬ f = 23 ∧ ¬ f = 4) := by omega
theorem fn_ne {f : Nat} {c : Int} (h : ¬ (f : Int) = c) : ((f : Int) == c) = false := beq_eq_false_iff_ne.2 h
set_option maxHeartbeats 800000 in
theorem table_c (f : Nat) (w : World) : Calls Tryd.prog 26 #[.int .u8 f] w fun e w' => e = .returned (.int .i64 (tbl f)) ∧ w' = w := by
  rcases fn_cases f with rfl | rfl | rfl | rfl | rfl | rfl | rfl | rfl | rfl | rfl | ⟨h1, h5, h15, h2, h3, h6, h16, h22, h23, h4⟩
  rotate_right
  · have e : tbl f = 0 := by unfold tbl; rw [if_neg (by omega), if_neg (by omega), if_neg (by omega), if_neg (by omega)]
    rw [e]
    have n1 := fn_ne (f := f) (c := 1) (by omega)
    have n5 := fn_ne (f := f) (c := 5) (by omega)
    have n15 := fn_ne (f := f) (c := 15) (by omega)
    have n2 := fn_ne (f := f) (c := 2) (by omega)
    have n3 := fn_ne (f := f) (c := 3) (by omega)
    have n6 := fn_ne (f := f) (c := 6) (by omega)
    have n16 := fn_ne (f := f) (c := 16) (by omega)
    have n22 := fn_ne (f := f) (c := 22) (by omega)
    have n23 := fn_ne (f := f) (c := 23) (by omega)
    have n4 := fn_ne (f := f) (c := 4) (by omega)
    clear h1 h5 h15 h2 h3 h6 h16 h22 h23 h4 e
    go_enter Tryd.func26, Tryd.ntmps26
    go_wp2
    go_ret
    exact ⟨rfl, rfl⟩
  all_goals
    go_enter Tryd.func26, Tryd.ntmps26
    go_wp2
    go_ret
    exact ⟨rfl, rfl⟩
/-- Where a number of a table is. -/
def plA (t n : Int) : Nat := if t = 1 then (if 0 ≤ n ∧ n < 128 then 2 else if 128 ≤ n ∧ n < 256 then 3 else 0) else if t = 2 then (if 0 ≤ n ∧ n < 128 then 1 else 0) else if t = 3 then (if 0 ≤ n ∧ n < 64 then 5 else if 64 ≤ n ∧ n < 128 then 6 else 0) else if t = 4 then (if 0 ≤ n ∧ n < 64 then 4 else 0) else 0
def plN (t n : Int) : Int := if plA t n = 0 then 0 else n - frs (plA t n)
end Go.Proofs.YtkalcabhafcdoaaDoor
