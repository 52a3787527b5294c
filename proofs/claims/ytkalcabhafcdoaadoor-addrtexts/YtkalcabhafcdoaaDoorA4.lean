/- Where a number of a table is: the reference's Place; help's Place (stage 10). -/
import Derived.Test.YtkalcabhafcdoaaDoorA3
namespace Go.Proofs.YtkalcabhafcdoaaDoor
open Go.RowKit
open Adr
theorem rsize_at (a v : Int) (h : szI a = v) (w : World) : Calls Tryd.prog 12 #[.int .i64 a] w fun e w' => e = .returned (.int .i64 v) ∧ w' = w := by
  subst h; exact rsize_c a w
theorem pl_at {t n : Int} {a : Nat} (h : plA t n = a) (h0 : ¬ a = 0) : plN t n = n - frs a := by unfold plN; rw [h, if_neg h0]
set_option maxHeartbeats 4000000 in
theorem rplace_coils (f : Nat) (hf : f = 1 ∨ f = 5 ∨ f = 15) (n : Int) (b0 : -9223372036854775808 ≤ n) (b1 : n ≤ 9223372036854775807) (w : World) : Calls Tryd.prog 19 #[.int .u8 f, .int .i64 n] w fun e w' => e = .returned (.tuple #[.int .i64 (plA 1 n), .int .i64 (plN 1 n)]) ∧ w' = w := by
  by_cases h1 : 128 ≤ n
  · by_cases h2 : n < 256
    · have e := hid_as (show plA 1 n = 3 by show (if 0 ≤ n ∧ n < 128 then 2 else if 128 ≤ n ∧ n < 256 then 3 else 0) = 3; rw [if_neg (by omega), if_pos (by omega)])
      have e2 := hid_as (show n - 128 = plN 1 n by rw [pl_at e.out (by decide)]; rfl)
      have h3 : ¬ n - 128 < 0 := by omega
      have h4 : decide ((128 : Int) ≤ n - 128) = false := decide_eq_false (by omega)
      rcases hf with rfl | rfl | rfl
      all_goals
        go_enter Tryd.func19, Tryd.ntmps19
        go_wp2_with (go_at_call 12; refine (rsize_at 3 128 rfl _).mono ?_; rintro e w' ⟨rfl, hw⟩; subst w')
        go_ret2
        exact ⟨ret_two (by rw [e.out]; rfl) e2.out, rfl⟩
    · have e := hid_as (show plA 1 n = 0 by show (if 0 ≤ n ∧ n < 128 then 2 else if 128 ≤ n ∧ n < 256 then 3 else 0) = 0; rw [if_neg (by omega), if_neg (by omega)])
      have h3 : ¬ n - 128 < 0 := by omega
      have h4 : decide ((128 : Int) ≤ n - 128) = true := decide_eq_true (by omega)
      rcases hf with rfl | rfl | rfl
      all_goals
        go_enter Tryd.func19, Tryd.ntmps19
        go_wp2_with (go_at_call 12; refine (rsize_at 3 128 rfl _).mono ?_; rintro e w' ⟨rfl, hw⟩; subst w')
        go_ret2
        exact ⟨ret_two (by rw [e.out]; rfl) (by rw [plN_none e.out]), rfl⟩
  · have hd : decide ((128 : Int) ≤ n) = false := decide_eq_false h1
    by_cases h2 : n < 0
    · have e := hid_as (show plA 1 n = 0 by show (if 0 ≤ n ∧ n < 128 then 2 else if 128 ≤ n ∧ n < 256 then 3 else 0) = 0; rw [if_neg (by omega), if_neg (by omega)])
      rcases hf with rfl | rfl | rfl
      all_goals
        go_enter Tryd.func19, Tryd.ntmps19
        go_wp2_with (go_at_call 12; refine (rsize_at 2 128 rfl _).mono ?_; rintro e w' ⟨rfl, hw⟩; subst w')
        go_ret2
        exact ⟨ret_two (by rw [e.out]; rfl) (by rw [plN_none e.out]), rfl⟩
    · have e := hid_as (show plA 1 n = 2 by show (if 0 ≤ n ∧ n < 128 then 2 else if 128 ≤ n ∧ n < 256 then 3 else 0) = 2; rw [if_pos (by omega)])
      have e2 := hid_as (show n = plN 1 n by rw [pl_at e.out (by decide)]; show n = n - 0; omega)
      rcases hf with rfl | rfl | rfl
      all_goals
        go_enter Tryd.func19, Tryd.ntmps19
        go_wp2_with (go_at_call 12; refine (rsize_at 2 128 rfl _).mono ?_; rintro e w' ⟨rfl, hw⟩; subst w')
        go_ret2
        exact ⟨ret_two (by rw [e.out]; rfl) e2.out, rfl⟩
end Go.Proofs.YtkalcabhafcdoaaDoor
