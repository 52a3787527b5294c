/- Bits moved. -/
import Derived.Test.YtonbbibnledleaaDoorProg
import Derived.Test.YtonbbibnledleaaDoorPlain
import Derived.Test.YtonbbibnledleaaDoorWk13
import Derived.Test.YtonbbibnledleaaDoorWk20
import Derived.WalkKit
import Derived.WalkSpells
import Derived.WalkLawsBesides
namespace Go.Proofs.YtonbbibnledleaaDoor
open Go.RowKit
open Num

set_option maxHeartbeats 2000000 in
theorem sh37_SHL_9 (a n : Int) (w : World) : Calls Tryd.prog 37 #[.string ⟨#[83, 72, 76]⟩, .int .i64 9, .int .i64 a, .int .i64 n] w fun e w' => e = .returned (.int .i64 (shv tSHL 9 a n)) ∧ Kept w w' := by
  have k0 := Kept.refl w
  have hc : (n < 0) ∨ (0 ≤ n ∧ n < 16) ∨ (n = 16) ∨ (16 < n) := by omega
  rcases hc with h | ⟨h, h2⟩ | rfl | h
  · go_enter Tryd.func37, Tryd.ntmps37
    go_wp2_with (first | (go_at_call 23; refine (wrap_n _ _ _).mono ?_; rintro e w' ⟨rfl, hw⟩; subst w') | (go_at_call 16; refine (nwidth_at 9 16 rfl _).mono ?_; rintro e w' ⟨rfl, hw⟩; subst w') | (go_at_call 45; refine (turn_n _ _ _ _ _ (by omega) (by omega) (by omega)).mono ?_; rintro e w1 ⟨rfl, k1⟩; replace k0 := k0.trans k1; clear k1) | go_in)
    go_ret
    exact ⟨ret_int (shl_neg (k := 9) (by decide) a (by omega)), k0⟩
  · go_enter Tryd.func37, Tryd.ntmps37
    go_wp2_with (first | (go_at_call 23; refine (wrap_n _ _ _).mono ?_; rintro e w' ⟨rfl, hw⟩; subst w') | (go_at_call 16; refine (nwidth_at 9 16 rfl _).mono ?_; rintro e w' ⟨rfl, hw⟩; subst w') | (go_at_call 45; refine (turn_n _ _ _ _ _ (by omega) (by omega) (by omega)).mono ?_; rintro e w1 ⟨rfl, k1⟩; replace k0 := k0.trans k1; clear k1) | go_in)
    go_ret
    exact ⟨ret_int (shl_in (k := 9) (by decide) a (by omega) (show n < 16 by omega)), k0⟩
  · go_enter Tryd.func37, Tryd.ntmps37
    go_wp2_with (first | (go_at_call 23; refine (wrap_n _ _ _).mono ?_; rintro e w' ⟨rfl, hw⟩; subst w') | (go_at_call 16; refine (nwidth_at 9 16 rfl _).mono ?_; rintro e w' ⟨rfl, hw⟩; subst w') | (go_at_call 45; refine (turn_n _ _ _ _ _ (by omega) (by omega) (by omega)).mono ?_; rintro e w1 ⟨rfl, k1⟩; replace k0 := k0.trans k1; clear k1) | go_in)
    go_ret
    exact ⟨ret_int (shl_out9 a (show (16 : Int) ≤ 16 by omega)), k0⟩
  · go_enter Tryd.func37, Tryd.ntmps37
    go_wp2_with (first | (go_at_call 23; refine (wrap_n _ _ _).mono ?_; rintro e w' ⟨rfl, hw⟩; subst w') | (go_at_call 16; refine (nwidth_at 9 16 rfl _).mono ?_; rintro e w' ⟨rfl, hw⟩; subst w') | (go_at_call 45; refine (turn_n _ _ _ _ _ (by omega) (by omega) (by omega)).mono ?_; rintro e w1 ⟨rfl, k1⟩; replace k0 := k0.trans k1; clear k1) | go_in)
    go_ret
    exact ⟨ret_int (shl_out9 a (show 16 ≤ n by omega)), k0⟩

set_option maxHeartbeats 2000000 in
theorem sh37_SHR_9 (a n : Int) (w : World) : Calls Tryd.prog 37 #[.string ⟨#[83, 72, 82]⟩, .int .i64 9, .int .i64 a, .int .i64 n] w fun e w' => e = .returned (.int .i64 (shv tSHR 9 a n)) ∧ Kept w w' := by
  have k0 := Kept.refl w
  have hc : (n < 0) ∨ (0 ≤ n ∧ n < 16) ∨ (n = 16) ∨ (16 < n) := by omega
  rcases hc with h | ⟨h, h2⟩ | rfl | h
  · go_enter Tryd.func37, Tryd.ntmps37
    go_wp2_with (first | (go_at_call 23; refine (wrap_n _ _ _).mono ?_; rintro e w' ⟨rfl, hw⟩; subst w') | (go_at_call 16; refine (nwidth_at 9 16 rfl _).mono ?_; rintro e w' ⟨rfl, hw⟩; subst w') | (go_at_call 45; refine (turn_n _ _ _ _ _ (by omega) (by omega) (by omega)).mono ?_; rintro e w1 ⟨rfl, k1⟩; replace k0 := k0.trans k1; clear k1) | go_in)
    go_ret
    exact ⟨ret_int (shr_neg (k := 9) (by decide) a (by omega)), k0⟩
  · go_enter Tryd.func37, Tryd.ntmps37
    go_wp2_with (first | (go_at_call 23; refine (wrap_n _ _ _).mono ?_; rintro e w' ⟨rfl, hw⟩; subst w') | (go_at_call 16; refine (nwidth_at 9 16 rfl _).mono ?_; rintro e w' ⟨rfl, hw⟩; subst w') | (go_at_call 45; refine (turn_n _ _ _ _ _ (by omega) (by omega) (by omega)).mono ?_; rintro e w1 ⟨rfl, k1⟩; replace k0 := k0.trans k1; clear k1) | go_in)
    go_ret
    exact ⟨ret_int (shr_in (k := 9) (by decide) a (by omega) (show n < 16 by omega)), k0⟩
  · go_enter Tryd.func37, Tryd.ntmps37
    go_wp2_with (first | (go_at_call 23; refine (wrap_n _ _ _).mono ?_; rintro e w' ⟨rfl, hw⟩; subst w') | (go_at_call 16; refine (nwidth_at 9 16 rfl _).mono ?_; rintro e w' ⟨rfl, hw⟩; subst w') | (go_at_call 45; refine (turn_n _ _ _ _ _ (by omega) (by omega) (by omega)).mono ?_; rintro e w1 ⟨rfl, k1⟩; replace k0 := k0.trans k1; clear k1) | go_in)
    go_ret
    exact ⟨ret_int (shr_out9 a (show (16 : Int) ≤ 16 by omega)), k0⟩
  · go_enter Tryd.func37, Tryd.ntmps37
    go_wp2_with (first | (go_at_call 23; refine (wrap_n _ _ _).mono ?_; rintro e w' ⟨rfl, hw⟩; subst w') | (go_at_call 16; refine (nwidth_at 9 16 rfl _).mono ?_; rintro e w' ⟨rfl, hw⟩; subst w') | (go_at_call 45; refine (turn_n _ _ _ _ _ (by omega) (by omega) (by omega)).mono ?_; rintro e w1 ⟨rfl, k1⟩; replace k0 := k0.trans k1; clear k1) | go_in)
    go_ret
    exact ⟨ret_int (shr_out9 a (show 16 ≤ n by omega)), k0⟩

set_option maxHeartbeats 2000000 in
theorem sh37_ROL_9 (a n : Int) (w : World) : Calls Tryd.prog 37 #[.string ⟨#[82, 79, 76]⟩, .int .i64 9, .int .i64 a, .int .i64 n] w fun e w' => e = .returned (.int .i64 (shv tROL 9 a n)) ∧ Kept w w' := by
  have k0 := Kept.refl w
  have hc : (n < 0) ∨ (0 ≤ n) := by omega
  rcases hc with h | h
  · go_enter Tryd.func37, Tryd.ntmps37
    go_wp2_with (first | (go_at_call 23; refine (wrap_n _ _ _).mono ?_; rintro e w' ⟨rfl, hw⟩; subst w') | (go_at_call 16; refine (nwidth_at 9 16 rfl _).mono ?_; rintro e w' ⟨rfl, hw⟩; subst w') | (go_at_call 45; refine (turn_n _ _ _ _ _ (by omega) (by omega) (by omega)).mono ?_; rintro e w1 ⟨rfl, k1⟩; replace k0 := k0.trans k1; clear k1) | go_in)
    go_ret
    exact ⟨ret_int (rol_neg (k := 9) (by decide) a (by omega)), k0⟩
  · go_enter Tryd.func37, Tryd.ntmps37
    go_wp2_with (first | (go_at_call 23; refine (wrap_n _ _ _).mono ?_; rintro e w' ⟨rfl, hw⟩; subst w') | (go_at_call 16; refine (nwidth_at 9 16 rfl _).mono ?_; rintro e w' ⟨rfl, hw⟩; subst w') | (go_at_call 45; refine (turn_n _ _ _ _ _ (by omega) (by omega) (by omega)).mono ?_; rintro e w1 ⟨rfl, k1⟩; replace k0 := k0.trans k1; clear k1) | go_in)
    go_ret
    exact ⟨ret_int (rol_in (k := 9) (by decide) a (by omega)), k0⟩

set_option maxHeartbeats 2000000 in
theorem sh37_ROR_9 (a n : Int) (w : World) : Calls Tryd.prog 37 #[.string ⟨#[82, 79, 82]⟩, .int .i64 9, .int .i64 a, .int .i64 n] w fun e w' => e = .returned (.int .i64 (shv tROR 9 a n)) ∧ Kept w w' := by
  have k0 := Kept.refl w
  have hc : (n < 0) ∨ (0 ≤ n) := by omega
  rcases hc with h | h
  · go_enter Tryd.func37, Tryd.ntmps37
    go_wp2_with (first | (go_at_call 23; refine (wrap_n _ _ _).mono ?_; rintro e w' ⟨rfl, hw⟩; subst w') | (go_at_call 16; refine (nwidth_at 9 16 rfl _).mono ?_; rintro e w' ⟨rfl, hw⟩; subst w') | (go_at_call 45; refine (turn_n _ _ _ _ _ (by omega) (by omega) (by omega)).mono ?_; rintro e w1 ⟨rfl, k1⟩; replace k0 := k0.trans k1; clear k1) | go_in)
    go_ret
    exact ⟨ret_int (ror_nneg (k := 9) (by decide) a (by omega)), k0⟩
  · go_enter Tryd.func37, Tryd.ntmps37
    go_wp2_with (first | (go_at_call 23; refine (wrap_n _ _ _).mono ?_; rintro e w' ⟨rfl, hw⟩; subst w') | (go_at_call 16; refine (nwidth_at 9 16 rfl _).mono ?_; rintro e w' ⟨rfl, hw⟩; subst w') | (go_at_call 45; refine (turn_n _ _ _ _ _ (by omega) (by omega) (by omega)).mono ?_; rintro e w1 ⟨rfl, k1⟩; replace k0 := k0.trans k1; clear k1) | go_in)
    go_ret
    exact ⟨ret_int (ror_n (k := 9) (by decide) a (by omega)), k0⟩

end Go.Proofs.YtonbbibnledleaaDoor
