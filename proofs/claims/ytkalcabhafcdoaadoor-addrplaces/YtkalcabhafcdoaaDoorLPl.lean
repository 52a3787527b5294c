/- The law of the tables: every number of every function's table is at its place (stage 10). -/
import Derived.Test.YtkalcabhafcdoaaDoorK1
namespace Go.Proofs.YtkalcabhafcdoaaDoor
open Go.RowKit
open Adr
theorem coil_back {t n : Int} (h : ¬ plA t n = 0) : coilI (plA t n) (plN t n) = n := by
  have hy : ∀ (a : Nat) (m : Int), plA t n = a → plN t n = m → 0 ≤ m → m < szI a → frs a + m = n → coilI (plA t n) (plN t n) = n := by
    intro a m ha hm h0 h1 e
    rw [ha, hm]
    unfold coilI
    rw [if_pos (hasI_mk h0 h1)]
    exact e
  have hp : plN t n = n - frs (plA t n) := by unfold plN; rw [if_neg h]
  have hd : (plA t n = 1 ∧ 0 ≤ n ∧ n < 128) ∨ (plA t n = 2 ∧ 0 ≤ n ∧ n < 128) ∨ (plA t n = 3 ∧ 128 ≤ n ∧ n < 256) ∨ (plA t n = 4 ∧ 0 ≤ n ∧ n < 64) ∨ (plA t n = 5 ∧ 0 ≤ n ∧ n < 64) ∨ (plA t n = 6 ∧ 64 ≤ n ∧ n < 128) := by
    revert h
    clear hy hp
    unfold plA
    repeat' split
    all_goals intro h
    all_goals first | (exfalso; exact h rfl) | skip
    all_goals omega
  rcases hd with ⟨e, h0, h1⟩ | ⟨e, h0, h1⟩ | ⟨e, h0, h1⟩ | ⟨e, h0, h1⟩ | ⟨e, h0, h1⟩ | ⟨e, h0, h1⟩
  · rw [e] at hp; exact hy 1 (n - 0) e hp (by omega) (show n - 0 < 128 by omega) (show 0 + (n - 0) = n by omega)
  · rw [e] at hp; exact hy 2 (n - 0) e hp (by omega) (show n - 0 < 128 by omega) (show 0 + (n - 0) = n by omega)
  · rw [e] at hp; exact hy 3 (n - 128) e hp (by omega) (show n - 128 < 128 by omega) (show 128 + (n - 128) = n by omega)
  · rw [e] at hp; exact hy 4 (n - 0) e hp (by omega) (show n - 0 < 64 by omega) (show 0 + (n - 0) = n by omega)
  · rw [e] at hp; exact hy 5 (n - 0) e hp (by omega) (show n - 0 < 64 by omega) (show 0 + (n - 0) = n by omega)
  · rw [e] at hp; exact hy 6 (n - 64) e hp (by omega) (show n - 64 < 64 by omega) (show 64 + (n - 64) = n by omega)
set_option maxHeartbeats 2000000 in
theorem places_0 (f : Nat) (n : Int) (A : Nat) (M : Int) (w : World) (hA : AreasAt w)
    (P : Hid (∀ w, AreasAt w → Calls Tryd.prog 18 #[.int .u8 f, .int .i64 n] w fun e w' => e = .returned (.tuple #[.int .i64 A, .int .i64 M]) ∧ w' = w))
    (R : Hid (∀ w, Calls Tryd.prog 19 #[.int .u8 f, .int .i64 n] w fun e w' => e = .returned (.tuple #[.int .i64 A, .int .i64 M]) ∧ w' = w))
    (h0 : Hid (A = 0 → M = 0)) (C : Hid (¬ A = 0 → ∀ w, AreasAt w → Calls Tryd.prog 15 #[.int .i64 A, .int .i64 M] w fun e w' => e = .returned (.int .i64 n) ∧ w' = w)) :
    Calls Tryd.prog 5 #[.int .u8 f, .int .i64 n] w fun e w' => e = .returned (.bool true) ∧ Same w w' := by
  by_cases hz : A = 0
  · obtain rfl := h0.out hz
    subst hz
    go_enter Tryd.func5, Tryd.ntmps5
    go_wp2_with (first | (go_at_call 6; refine (known_c _ hA).mono ?_; rintro e w1 ⟨rfl, s1⟩; have hB := hA.same s1) | (go_at_call 18; (with_reducible refine (P.out _ hB).mono ?_); rintro e w' ⟨rfl, hw⟩; subst w') | (go_at_call 19; (with_reducible refine (R.out _).mono ?_); rintro e w' ⟨rfl, hw⟩; subst w'))
    go_ret
    exact ⟨rfl, s1⟩
  · have hz' : ((A : Int) == 0) = false := beq_eq_false_iff_ne.2 (by omega)
    have D := hid_as (C.out hz)
    go_enter Tryd.func5, Tryd.ntmps5
    go_wp2_with (first | (go_at_call 6; refine (known_c _ hA).mono ?_; rintro e w1 ⟨rfl, s1⟩; have hB := hA.same s1) | (go_at_call 18; (with_reducible refine (P.out _ hB).mono ?_); rintro e w' ⟨rfl, hw⟩; subst w') | (go_at_call 19; (with_reducible refine (R.out _).mono ?_); rintro e w' ⟨rfl, hw⟩; subst w') | (go_at_call 15; (with_reducible refine (D.out _ hB).mono ?_); rintro e w' ⟨rfl, hw⟩; subst w'))
    go_ret
    exact ⟨rfl, s1⟩
theorem places_all (f : Nat) (n : Int) (w : World) (hA : AreasAt w) (b0 : -9223372036854775808 ≤ n) (b1 : n ≤ 9223372036854775807) : Calls Tryd.prog 5 #[.int .u8 f, .int .i64 n] w fun e w' => e = .returned (.bool true) ∧ Below w.heap.size w w' :=
  (places_0 f n (plA (tbl f) n) (plN (tbl f) n) w hA (hid_as fun w h => place_c f n b0 b1 w h) (hid_as fun w => rplace_c f n b0 b1 w) (hid_as plN_none) (hid_as fun h w hB => coil_at _ _ n (coil_back h) w hB)).mono fun _ _ h => ⟨h.1, h.2.below⟩
end Go.Proofs.YtkalcabhafcdoaaDoor
