/- Bits moved. -/
import Derived.Test.YtonbbibnledleaaDoorProg
import Derived.Test.YtonbbibnledleaaDoorPlain
import Derived.Test.YtonbbibnledleaaDoorWk13
import Derived.Test.YtonbbibnledleaaDoorWk20
import Derived.WalkKit
import Derived.WalkSpells
import Derived.WalkLawsBesides
namespace Go.Proofs.YtonbbibnledleaaDoor
open Go.RowKit
open Num

set_option maxHeartbeats 2000000 in
theorem sh37_SHL_10 (a n : Int) (w : World) : Calls Tryd.prog 37 #[.string ⟨#[83, 72, 76]⟩, .int .i64 10, .int .i64 a, .int .i64 n] w fun e w' => e = .returned (.int .i64 (shv tSHL 10 a n)) ∧ Kept w w' := by
  have k0 := Kept.refl w
  have hc : (n < 0) ∨ (0 ≤ n ∧ n < 32) ∨ (n = 32) ∨ (32 < n) := by omega
  rcases hc with h | ⟨h, h2⟩ | rfl | h
  · go_enter Tryd.func37, Tryd.ntmps37
    go_wp2_with (first | (go_at_call 23; refine (wrap_n _ _ _).mono ?_; rintro e w' ⟨rfl, hw⟩; subst w') | (go_at_call 16; refine (nwidth_at 10 32 rfl _).mono ?_; rintro e w' ⟨rfl, hw⟩; subst w') | (go_at_call 45; refine (turn_n _ _ _ _ _ (by omega) (by omega) (by omega)).mono ?_; rintro e w1 ⟨rfl, k1⟩; replace k0 := k0.trans k1; clear k1) | go_in)
    go_ret
    exact ⟨ret_int (shl_neg (k := 10) (by decide) a (by omega)), k0⟩
  · go_enter Tryd.func37, Tryd.ntmps37
    go_wp2_with (first | (go_at_call 23; refine (wrap_n _ _ _).mono ?_; rintro e w' ⟨rfl, hw⟩; subst w') | (go_at_call 16; refine (nwidth_at 10 32 rfl _).mono ?_; rintro e w' ⟨rfl, hw⟩; subst w') | (go_at_call 45; refine (turn_n _ _ _ _ _ (by omega) (by omega) (by omega)).mono ?_; rintro e w1 ⟨rfl, k1⟩; replace k0 := k0.trans k1; clear k1) | go_in)
    go_ret
    exact ⟨ret_int (shl_in (k := 10) (by decide) a (by omega) (show n < 32 by omega)), k0⟩
  · go_enter Tryd.func37, Tryd.ntmps37
    go_wp2_with (first | (go_at_call 23; refine (wrap_n _ _ _).mono ?_; rintro e w' ⟨rfl, hw⟩; subst w') | (go_at_call 16; refine (nwidth_at 10 32 rfl _).mono ?_; rintro e w' ⟨rfl, hw⟩; subst w') | (go_at_call 45; refine (turn_n _ _ _ _ _ (by omega) (by omega) (by omega)).mono ?_; rintro e w1 ⟨rfl, k1⟩; replace k0 := k0.trans k1; clear k1) | go_in)
    go_ret
    exact ⟨ret_int (shl_out10 a (show (32 : Int) ≤ 32 by omega)), k0⟩
  · go_enter Tryd.func37, Tryd.ntmps37
    go_wp2_with (first | (go_at_call 23; refine (wrap_n _ _ _).mono ?_; rintro e w' ⟨rfl, hw⟩; subst w') | (go_at_call 16; refine (nwidth_at 10 32 rfl _).mono ?_; rintro e w' ⟨rfl, hw⟩; subst w') | (go_at_call 45; refine (turn_n _ _ _ _ _ (by omega) (by omega) (by omega)).mono ?_; rintro e w1 ⟨rfl, k1⟩; replace k0 := k0.trans k1; clear k1) | go_in)
    go_ret
    exact ⟨ret_int (shl_out10 a (show 32 ≤ n by omega)), k0⟩

set_option maxHeartbeats 2000000 in
theorem sh37_SHR_10 (a n : Int) (w : World) : Calls Tryd.prog 37 #[.string ⟨#[83, 72, 82]⟩, .int .i64 10, .int .i64 a, .int .i64 n] w fun e w' => e = .returned (.int .i64 (shv tSHR 10 a n)) ∧ Kept w w' := by
  have k0 := Kept.refl w
  have hc : (n < 0) ∨ (0 ≤ n ∧ n < 32) ∨ (n = 32) ∨ (32 < n) := by omega
  rcases hc with h | ⟨h, h2⟩ | rfl | h
  · go_enter Tryd.func37, Tryd.ntmps37
    go_wp2_with (first | (go_at_call 23; refine (wrap_n _ _ _).mono ?_; rintro e w' ⟨rfl, hw⟩; subst w') | (go_at_call 16; refine (nwidth_at 10 32 rfl _).mono ?_; rintro e w' ⟨rfl, hw⟩; subst w') | (go_at_call 45; refine (turn_n _ _ _ _ _ (by omega) (by omega) (by omega)).mono ?_; rintro e w1 ⟨rfl, k1⟩; replace k0 := k0.trans k1; clear k1) | go_in)
    go_ret
    exact ⟨ret_int (shr_neg (k := 10) (by decide) a (by omega)), k0⟩
  · go_enter Tryd.func37, Tryd.ntmps37
    go_wp2_with (first | (go_at_call 23; refine (wrap_n _ _ _).mono ?_; rintro e w' ⟨rfl, hw⟩; subst w') | (go_at_call 16; refine (nwidth_at 10 32 rfl _).mono ?_; rintro e w' ⟨rfl, hw⟩; subst w') | (go_at_call 45; refine (turn_n _ _ _ _ _ (by omega) (by omega) (by omega)).mono ?_; rintro e w1 ⟨rfl, k1⟩; replace k0 := k0.trans k1; clear k1) | go_in)
    go_ret
    exact ⟨ret_int (shr_in (k := 10) (by decide) a (by omega) (show n < 32 by omega)), k0⟩
  · go_enter Tryd.func37, Tryd.ntmps37
    go_wp2_with (first | (go_at_call 23; refine (wrap_n _ _ _).mono ?_; rintro e w' ⟨rfl, hw⟩; subst w') | (go_at_call 16; refine (nwidth_at 10 32 rfl _).mono ?_; rintro e w' ⟨rfl, hw⟩; subst w') | (go_at_call 45; refine (turn_n _ _ _ _ _ (by omega) (by omega) (by omega)).mono ?_; rintro e w1 ⟨rfl, k1⟩; replace k0 := k0.trans k1; clear k1) | go_in)
    go_ret
    exact ⟨ret_int (shr_out10 a (show (32 : Int) ≤ 32 by omega)), k0⟩
  · go_enter Tryd.func37, Tryd.ntmps37
    go_wp2_with (first | (go_at_call 23; refine (wrap_n _ _ _).mono ?_; rintro e w' ⟨rfl, hw⟩; subst w') | (go_at_call 16; refine (nwidth_at 10 32 rfl _).mono ?_; rintro e w' ⟨rfl, hw⟩; subst w') | (go_at_call 45; refine (turn_n _ _ _ _ _ (by omega) (by omega) (by omega)).mono ?_; rintro e w1 ⟨rfl, k1⟩; replace k0 := k0.trans k1; clear k1) | go_in)
    go_ret
    exact ⟨ret_int (shr_out10 a (show 32 ≤ n by omega)), k0⟩

set_option maxHeartbeats 2000000 in
theorem sh37_ROL_10 (a n : Int) (w : World) : Calls Tryd.prog 37 #[.string ⟨#[82, 79, 76]⟩, .int .i64 10, .int .i64 a, .int .i64 n] w fun e w' => e = .returned (.int .i64 (shv tROL 10 a n)) ∧ Kept w w' := by
  have k0 := Kept.refl w
  have hc : (n < 0) ∨ (0 ≤ n) := by omega
  rcases hc with h | h
  · go_enter Tryd.func37, Tryd.ntmps37
    go_wp2_with (first | (go_at_call 23; refine (wrap_n _ _ _).mono ?_; rintro e w' ⟨rfl, hw⟩; subst w') | (go_at_call 16; refine (nwidth_at 10 32 rfl _).mono ?_; rintro e w' ⟨rfl, hw⟩; subst w') | (go_at_call 45; refine (turn_n _ _ _ _ _ (by omega) (by omega) (by omega)).mono ?_; rintro e w1 ⟨rfl, k1⟩; replace k0 := k0.trans k1; clear k1) | go_in)
    go_ret
    exact ⟨ret_int (rol_neg (k := 10) (by decide) a (by omega)), k0⟩
  · go_enter Tryd.func37, Tryd.ntmps37
    go_wp2_with (first | (go_at_call 23; refine (wrap_n _ _ _).mono ?_; rintro e w' ⟨rfl, hw⟩; subst w') | (go_at_call 16; refine (nwidth_at 10 32 rfl _).mono ?_; rintro e w' ⟨rfl, hw⟩; subst w') | (go_at_call 45; refine (turn_n _ _ _ _ _ (by omega) (by omega) (by omega)).mono ?_; rintro e w1 ⟨rfl, k1⟩; replace k0 := k0.trans k1; clear k1) | go_in)
    go_ret
    exact ⟨ret_int (rol_in (k := 10) (by decide) a (by omega)), k0⟩

set_option maxHeartbeats 2000000 in
theorem sh37_ROR_10 (a n : Int) (w : World) : Calls Tryd.prog 37 #[.string ⟨#[82, 79, 82]⟩, .int .i64 10, .int .i64 a, .int .i64 n] w fun e w' => e = .returned (.int .i64 (shv tROR 10 a n)) ∧ Kept w w' := by
  have k0 := Kept.refl w
  have hc : (n < 0) ∨ (0 ≤ n) := by omega
  rcases hc with h | h
  · go_enter Tryd.func37, Tryd.ntmps37
    go_wp2_with (first | (go_at_call 23; refine (wrap_n _ _ _).mono ?_; rintro e w' ⟨rfl, hw⟩; subst w') | (go_at_call 16; refine (nwidth_at 10 32 rfl _).mono ?_; rintro e w' ⟨rfl, hw⟩; subst w') | (go_at_call 45; refine (turn_n _ _ _ _ _ (by omega) (by omega) (by omega)).mono ?_; rintro e w1 ⟨rfl, k1⟩; replace k0 := k0.trans k1; clear k1) | go_in)
    go_ret
    exact ⟨ret_int (ror_nneg (k := 10) (by decide) a (by omega)), k0⟩
  · go_enter Tryd.func37, Tryd.ntmps37
    go_wp2_with (first | (go_at_call 23; refine (wrap_n _ _ _).mono ?_; rintro e w' ⟨rfl, hw⟩; subst w') | (go_at_call 16; refine (nwidth_at 10 32 rfl _).mono ?_; rintro e w' ⟨rfl, hw⟩; subst w') | (go_at_call 45; refine (turn_n _ _ _ _ _ (by omega) (by omega) (by omega)).mono ?_; rintro e w1 ⟨rfl, k1⟩; replace k0 := k0.trans k1; clear k1) | go_in)
    go_ret
    exact ⟨ret_int (ror_n (k := 10) (by decide) a (by omega)), k0⟩

end Go.Proofs.YtonbbibnledleaaDoor
