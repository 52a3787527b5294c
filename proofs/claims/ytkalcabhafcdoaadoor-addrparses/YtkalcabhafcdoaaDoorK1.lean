/- The chapter's examples: known; the law of the tables (stage 10). -/
import Derived.Test.YtkalcabhafcdoaaDoorP2
import Derived.Test.YtkalcabhafcdoaaDoorT2
import Derived.Test.YtkalcabhafcdoaaDoorA5
namespace Go.Proofs.YtkalcabhafcdoaaDoor
open Go.RowKit
open Adr
theorem parse_at (s : ByteArray) (a n e : Nat) (h : pa s.data.toList = a ∧ pn s.data.toList = n ∧ pe s.data.toList = e) (hs : s.size ≤ 1000) (w : World) (hA : AreasAt w) : Calls Tryd.prog 7 #[.string s] w fun e' w' => e' = .returned (.tuple #[.int .i64 (a : Int), .int .i64 (n : Int), .int .i64 (e : Int)]) ∧ Same w w' := by
  obtain ⟨rfl, rfl, rfl⟩ := h
  exact parse_c s hs w hA
theorem place_at (f : Nat) (n : Int) (a : Nat) (m : Int) (h : plA (tbl f) n = a ∧ plN (tbl f) n = m) (b0 : -9223372036854775808 ≤ n) (b1 : n ≤ 9223372036854775807) (w : World) (hA : AreasAt w) : Calls Tryd.prog 18 #[.int .u8 f, .int .i64 n] w fun e w' => e = .returned (.tuple #[.int .i64 (a : Int), .int .i64 m]) ∧ w' = w := by
  obtain ⟨rfl, rfl⟩ := h
  exact place_c f n b0 b1 w hA
theorem text_at (a n : Int) (s : ByteArray) (h : tx (txt a n) = s) (w : World) (hA : AreasAt w) : Calls Tryd.prog 9 #[.int .i64 a, .int .i64 n] w fun e w' => e = .returned (.string s) ∧ Same w w' := by
  subst h; exact text_c a n w hA
theorem coil_at (a n v : Int) (h : coilI a n = v) (w : World) (hA : AreasAt w) : Calls Tryd.prog 15 #[.int .i64 a, .int .i64 n] w fun e w' => e = .returned (.int .i64 v) ∧ w' = w := by
  subst h; exact coil_c a n w hA
theorem k1 (w : World) (hA : AreasAt w) : Calls Tryd.prog 7 #[.string ⟨#[37, 81, 88, 49, 46, 51]⟩] w fun e w' => e = .returned (.tuple #[.int .i64 2, .int .i64 11, .int .i64 0]) ∧ Same w w' := parse_at _ 2 11 0 (by decide +kernel) (by decide) w hA
theorem k2 (w : World) (hA : AreasAt w) : Calls Tryd.prog 7 #[.string ⟨#[37, 81, 88, 49, 46, 56]⟩] w fun e w' => e = .returned (.tuple #[.int .i64 0, .int .i64 0, .int .i64 100]) ∧ Same w w' := parse_at _ 0 0 100 (by decide +kernel) (by decide) w hA
theorem k3 (w : World) (hA : AreasAt w) : Calls Tryd.prog 7 #[.string ⟨#[37, 73, 87, 48, 54, 52]⟩] w fun e w' => e = .returned (.tuple #[.int .i64 0, .int .i64 0, .int .i64 100]) ∧ Same w w' := parse_at _ 0 0 100 (by decide +kernel) (by decide) w hA
theorem k4 (w : World) (hA : AreasAt w) : Calls Tryd.prog 18 #[.int .u8 3, .int .i64 70] w fun e w' => e = .returned (.tuple #[.int .i64 6, .int .i64 6]) ∧ w' = w := place_at 3 70 6 6 (by decide +kernel) (by decide) (by decide) w hA
theorem k5 (w : World) (hA : AreasAt w) : Calls Tryd.prog 9 #[.int .i64 2, .int .i64 11] w fun e w' => e = .returned (.string ⟨#[37, 81, 88, 49, 46, 51]⟩) ∧ Same w w' := text_at 2 11 _ (congrArg ByteArray.mk (by decide +kernel)) w hA
theorem k6 (w : World) (hA : AreasAt w) : Calls Tryd.prog 15 #[.int .i64 2, .int .i64 11] w fun e w' => e = .returned (.int .i64 11) ∧ w' = w := coil_at 2 11 11 (by decide +kernel) w hA
theorem k7 (w : World) (hA : AreasAt w) : Calls Tryd.prog 15 #[.int .i64 3, .int .i64 5] w fun e w' => e = .returned (.int .i64 133) ∧ w' = w := coil_at 3 5 133 (by decide +kernel) w hA
set_option maxHeartbeats 2000000 in
theorem known_c (w : World) (hA : AreasAt w) : Calls Tryd.prog 6 #[] w fun e w' => e = .returned (.bool true) ∧ Same w w' := by
  have S0 := Same.refl w
  go_enter Tryd.func6, Tryd.ntmps6
  go_wp2_with (first
    | (go_at_call 7; (first | (with_reducible refine (k1 _ (hA.same S0)).mono ?_) | (with_reducible refine (k2 _ (hA.same S0)).mono ?_) | (with_reducible refine (k3 _ (hA.same S0)).mono ?_)); rintro e w1 ⟨rfl, s1⟩; replace S0 := S0.trans s1; clear s1)
    | (go_at_call 18; (with_reducible refine (k4 _ (hA.same S0)).mono ?_); rintro e w' ⟨rfl, hw⟩; subst w')
    | (go_at_call 9; (with_reducible refine (k5 _ (hA.same S0)).mono ?_); rintro e w1 ⟨rfl, s1⟩; replace S0 := S0.trans s1; clear s1)
    | (go_at_call 15; (first | (with_reducible refine (k6 _ (hA.same S0)).mono ?_) | (with_reducible refine (k7 _ (hA.same S0)).mono ?_)); rintro e w' ⟨rfl, hw⟩; subst w'))
  go_ret
  exact ⟨rfl, S0⟩
end Go.Proofs.YtkalcabhafcdoaaDoor
