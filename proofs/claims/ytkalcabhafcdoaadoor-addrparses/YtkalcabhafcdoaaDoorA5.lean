/- Where a number of a table is: the reference's Place, whole; help's Place (stage 10). -/
import Derived.Test.YtkalcabhafcdoaaDoorA4
namespace Go.Proofs.YtkalcabhafcdoaaDoor
open Go.RowKit
open Adr
set_option maxHeartbeats 4000000 in
theorem rplace_hold (f : Nat) (hf : f = 3 ∨ f = 6 ∨ f = 16 ∨ f = 22 ∨ f = 23) (n : Int) (b0 : -9223372036854775808 ≤ n) (b1 : n ≤ 9223372036854775807) (w : World) : Calls Tryd.prog 19 #[.int .u8 f, .int .i64 n] w fun e w' => e = .returned (.tuple #[.int .i64 (plA 3 n), .int .i64 (plN 3 n)]) ∧ w' = w := by
  by_cases h1 : 64 ≤ n
  · by_cases h2 : n < 128
    · have e := hid_as (show plA 3 n = 6 by show (if 0 ≤ n ∧ n < 64 then 5 else if 64 ≤ n ∧ n < 128 then 6 else 0) = 6; rw [if_neg (by omega), if_pos (by omega)])
      have e2 := hid_as (show n - 64 = plN 3 n by rw [pl_at e.out (by decide)]; rfl)
      have h3 : ¬ n - 64 < 0 := by omega
      have h4 : decide ((64 : Int) ≤ n - 64) = false := decide_eq_false (by omega)
      rcases hf with rfl | rfl | rfl | rfl | rfl
      all_goals
        go_enter Tryd.func19, Tryd.ntmps19
        go_wp2_with (go_at_call 12; refine (rsize_at 6 64 rfl _).mono ?_; rintro e w' ⟨rfl, hw⟩; subst w')
        go_ret2
        exact ⟨ret_two (by rw [e.out]; rfl) e2.out, rfl⟩
    · have e := hid_as (show plA 3 n = 0 by show (if 0 ≤ n ∧ n < 64 then 5 else if 64 ≤ n ∧ n < 128 then 6 else 0) = 0; rw [if_neg (by omega), if_neg (by omega)])
      have h3 : ¬ n - 64 < 0 := by omega
      have h4 : decide ((64 : Int) ≤ n - 64) = true := decide_eq_true (by omega)
      rcases hf with rfl | rfl | rfl | rfl | rfl
      all_goals
        go_enter Tryd.func19, Tryd.ntmps19
        go_wp2_with (go_at_call 12; refine (rsize_at 6 64 rfl _).mono ?_; rintro e w' ⟨rfl, hw⟩; subst w')
        go_ret2
        exact ⟨ret_two (by rw [e.out]; rfl) (by rw [plN_none e.out]), rfl⟩
  · have hd : decide ((64 : Int) ≤ n) = false := decide_eq_false h1
    by_cases h2 : n < 0
    · have e := hid_as (show plA 3 n = 0 by show (if 0 ≤ n ∧ n < 64 then 5 else if 64 ≤ n ∧ n < 128 then 6 else 0) = 0; rw [if_neg (by omega), if_neg (by omega)])
      rcases hf with rfl | rfl | rfl | rfl | rfl
      all_goals
        go_enter Tryd.func19, Tryd.ntmps19
        go_wp2_with (go_at_call 12; refine (rsize_at 5 64 rfl _).mono ?_; rintro e w' ⟨rfl, hw⟩; subst w')
        go_ret2
        exact ⟨ret_two (by rw [e.out]; rfl) (by rw [plN_none e.out]), rfl⟩
    · have e := hid_as (show plA 3 n = 5 by show (if 0 ≤ n ∧ n < 64 then 5 else if 64 ≤ n ∧ n < 128 then 6 else 0) = 5; rw [if_pos (by omega)])
      have e2 := hid_as (show n = plN 3 n by rw [pl_at e.out (by decide)]; show n = n - 0; omega)
      rcases hf with rfl | rfl | rfl | rfl | rfl
      all_goals
        go_enter Tryd.func19, Tryd.ntmps19
        go_wp2_with (go_at_call 12; refine (rsize_at 5 64 rfl _).mono ?_; rintro e w' ⟨rfl, hw⟩; subst w')
        go_ret2
        exact ⟨ret_two (by rw [e.out]; rfl) e2.out, rfl⟩
set_option maxHeartbeats 4000000 in
theorem rplace_in (n : Int) (b0 : -9223372036854775808 ≤ n) (b1 : n ≤ 9223372036854775807) (w : World) : Calls Tryd.prog 19 #[.int .u8 2, .int .i64 n] w fun e w' => e = .returned (.tuple #[.int .i64 (plA 2 n), .int .i64 (plN 2 n)]) ∧ w' = w := by
  by_cases h1 : 0 ≤ n ∧ n < 128
  · have e := hid_as (show plA 2 n = 1 by show (if 0 ≤ n ∧ n < 128 then 1 else 0) = 1; rw [if_pos h1])
    have e2 := hid_as (show n = plN 2 n by rw [pl_at e.out (by decide)]; show n = n - 0; omega)
    have h2 : ¬ n < 0 := by omega
    have h3 : decide ((128 : Int) ≤ n) = false := decide_eq_false (by omega)
    clear h1
    go_enter Tryd.func19, Tryd.ntmps19
    go_wp2_with (go_at_call 12; refine (rsize_at 1 128 rfl _).mono ?_; rintro e w' ⟨rfl, hw⟩; subst w')
    go_ret2
    exact ⟨ret_two (by rw [e.out]; rfl) e2.out, rfl⟩
  · have e := hid_as (show plA 2 n = 0 by show (if 0 ≤ n ∧ n < 128 then 1 else 0) = 0; rw [if_neg h1])
    by_cases h2 : n < 0
    · clear h1
      go_enter Tryd.func19, Tryd.ntmps19
      go_wp2_with (go_at_call 12; refine (rsize_at 1 128 rfl _).mono ?_; rintro e w' ⟨rfl, hw⟩; subst w')
      go_ret2
      exact ⟨ret_two (by rw [e.out]; rfl) (by rw [plN_none e.out]), rfl⟩
    · have h3 : decide ((128 : Int) ≤ n) = true := decide_eq_true (by omega)
      clear h1
      go_enter Tryd.func19, Tryd.ntmps19
      go_wp2_with (go_at_call 12; refine (rsize_at 1 128 rfl _).mono ?_; rintro e w' ⟨rfl, hw⟩; subst w')
      go_ret2
      exact ⟨ret_two (by rw [e.out]; rfl) (by rw [plN_none e.out]), rfl⟩
set_option maxHeartbeats 4000000 in
theorem rplace_reg (n : Int) (b0 : -9223372036854775808 ≤ n) (b1 : n ≤ 9223372036854775807) (w : World) : Calls Tryd.prog 19 #[.int .u8 4, .int .i64 n] w fun e w' => e = .returned (.tuple #[.int .i64 (plA 4 n), .int .i64 (plN 4 n)]) ∧ w' = w := by
  by_cases h1 : 0 ≤ n ∧ n < 64
  · have e := hid_as (show plA 4 n = 4 by show (if 0 ≤ n ∧ n < 64 then 4 else 0) = 4; rw [if_pos h1])
    have e2 := hid_as (show n = plN 4 n by rw [pl_at e.out (by decide)]; show n = n - 0; omega)
    have h2 : ¬ n < 0 := by omega
    have h3 : decide ((64 : Int) ≤ n) = false := decide_eq_false (by omega)
    clear h1
    go_enter Tryd.func19, Tryd.ntmps19
    go_wp2_with (go_at_call 12; refine (rsize_at 4 64 rfl _).mono ?_; rintro e w' ⟨rfl, hw⟩; subst w')
    go_ret2
    exact ⟨ret_two (by rw [e.out]; rfl) e2.out, rfl⟩
  · have e := hid_as (show plA 4 n = 0 by show (if 0 ≤ n ∧ n < 64 then 4 else 0) = 0; rw [if_neg h1])
    by_cases h2 : n < 0
    · clear h1
      go_enter Tryd.func19, Tryd.ntmps19
      go_wp2_with (go_at_call 12; refine (rsize_at 4 64 rfl _).mono ?_; rintro e w' ⟨rfl, hw⟩; subst w')
      go_ret2
      exact ⟨ret_two (by rw [e.out]; rfl) (by rw [plN_none e.out]), rfl⟩
    · have h3 : decide ((64 : Int) ≤ n) = true := decide_eq_true (by omega)
      clear h1
      go_enter Tryd.func19, Tryd.ntmps19
      go_wp2_with (go_at_call 12; refine (rsize_at 4 64 rfl _).mono ?_; rintro e w' ⟨rfl, hw⟩; subst w')
      go_ret2
      exact ⟨ret_two (by rw [e.out]; rfl) (by rw [plN_none e.out]), rfl⟩
set_option maxHeartbeats 4000000 in
/-- The reference's Place, of any function and any number. -/
theorem rplace_c (f : Nat) (n : Int) (b0 : -9223372036854775808 ≤ n) (b1 : n ≤ 9223372036854775807) (w : World) : Calls Tryd.prog 19 #[.int .u8 f, .int .i64 n] w fun e w' => e = .returned (.tuple #[.int .i64 (plA (tbl f) n), .int .i64 (plN (tbl f) n)]) ∧ w' = w := by
  rcases fn_cases f with rfl | rfl | rfl | rfl | rfl | rfl | rfl | rfl | rfl | rfl | ⟨h1, h5, h15, h2, h3, h6, h16, h22, h23, h4⟩
  · exact rplace_coils 1 (by omega) n b0 b1 w
  · exact rplace_coils 5 (by omega) n b0 b1 w
  · exact rplace_coils 15 (by omega) n b0 b1 w
  · exact rplace_in n b0 b1 w
  · exact rplace_hold 3 (by omega) n b0 b1 w
  · exact rplace_hold 6 (by omega) n b0 b1 w
  · exact rplace_hold 16 (by omega) n b0 b1 w
  · exact rplace_hold 22 (by omega) n b0 b1 w
  · exact rplace_hold 23 (by omega) n b0 b1 w
  · exact rplace_reg n b0 b1 w
  · have e : tbl f = 0 := by unfold tbl; rw [if_neg (by omega), if_neg (by omega), if_neg (by omega), if_neg (by omega)]
    rw [e]
    have n1 := fn_ne (f := f) (c := 1) (by omega)
    have n5 := fn_ne (f := f) (c := 5) (by omega)
    have n15 := fn_ne (f := f) (c := 15) (by omega)
    have n2 := fn_ne (f := f) (c := 2) (by omega)
    have n3 := fn_ne (f := f) (c := 3) (by omega)
    have n6 := fn_ne (f := f) (c := 6) (by omega)
    have n16 := fn_ne (f := f) (c := 16) (by omega)
    have n22 := fn_ne (f := f) (c := 22) (by omega)
    have n23 := fn_ne (f := f) (c := 23) (by omega)
    have n4 := fn_ne (f := f) (c := 4) (by omega)
    clear h1 h5 h15 h2 h3 h6 h16 h22 h23 h4 e
    by_cases h2 : n < 0
    · go_enter Tryd.func19, Tryd.ntmps19
      go_wp2_with (go_at_call 12; refine (rsize_at 0 0 rfl _).mono ?_; rintro e w' ⟨rfl, hw⟩; subst w')
      go_ret2
      exact ⟨rfl, rfl⟩
    · have h3 : decide ((0 : Int) ≤ n) = true := decide_eq_true (by omega)
      go_enter Tryd.func19, Tryd.ntmps19
      go_wp2_with (go_at_call 12; refine (rsize_at 0 0 rfl _).mono ?_; rintro e w' ⟨rfl, hw⟩; subst w')
      go_ret2
      exact ⟨rfl, rfl⟩
/-- help's Place: the number modulo another above 0. -/
theorem hplace_c (k m : Int) (h : 0 < m) (hm : m ≤ 128) (b0 : -9223372036854775808 ≤ k) (b1 : k ≤ 9223372036854775807) (w : World) : Calls Tryd.prog 17 #[.int .i64 k, .int .i64 m] w fun e w' => e = .returned (.int .i64 (k % m)) ∧ w' = w := by
  have hne : ¬ m = 0 := by omega
  have ht : Int.tmod k m = if k % m = 0 ∨ 0 ≤ k then k % m else k % m - m := by
    by_cases hk : 0 ≤ k
    · rw [if_pos (Or.inr hk), Int.tmod_eq_emod_of_nonneg hk]
    · rw [Int.tmod_eq_emod]
      by_cases hz : k % m = 0
      · rw [if_pos (Or.inl hz), if_pos (Or.inr (Int.dvd_of_emod_eq_zero hz))]; omega
      · rw [if_neg (show ¬ (0 ≤ k ∨ m ∣ k) from fun q => q.elim hk (fun d => hz (Int.emod_eq_zero_of_dvd d))), if_neg (show ¬ (k % m = 0 ∨ 0 ≤ k) by omega)]; omega
  have r0 := Int.emod_nonneg k hne
  have r1 := Int.emod_lt_of_pos k h
  by_cases hk : k % m = 0 ∨ 0 ≤ k
  · rw [if_pos hk] at ht
    have hn : ¬ Int.tmod k m < 0 := by omega
    have e := hid_as ht
    clear ht hk
    go_enter Tryd.func17, Tryd.ntmps17
    go_wp2
    go_ret
    exact ⟨ret_int e.out, rfl⟩
  · rw [if_neg hk] at ht
    have hn : Int.tmod k m < 0 := by omega
    have e := hid_as (show Int.tmod k m + m = k % m by omega)
    have hw := hid_as (show wrap64 (Int.tmod k m + m) = Int.tmod k m + m by unfold wrap64; omega)
    clear ht hk
    go_enter Tryd.func17, Tryd.ntmps17
    go_wp2
    go_ret
    exact ⟨ret_int (hw.out.trans e.out), rfl⟩
end Go.Proofs.YtkalcabhafcdoaaDoor
