/- Bits moved, by the reference. -/
import Derived.Test.YtonbbibnledleaaDoorProg
import Derived.Test.YtonbbibnledleaaDoorPlain
import Derived.Test.YtonbbibnledleaaDoorI64
import Derived.Test.YtonbbibnledleaaDoorPlain8
import Derived.Test.YtonbbibnledleaaDoorWk6
import Derived.Deep.RegionWith
import Derived.WalkKit
import Derived.WalkSpells
import Derived.WalkLawsBesides
namespace Go.Proofs.YtonbbibnledleaaDoor
open Go.RowKit
open Num

set_option maxHeartbeats 2000000 in
theorem sh38_SHL_9 (a n : Int) (w : World) : Calls Tryd.prog 38 #[.string ⟨#[83, 72, 76]⟩, .int .i64 9, .int .i64 a, .int .i64 n] w fun e w' => e = .returned (.int .i64 (shv tSHL 9 a n)) ∧ Kept w w' := by
  have k0 := Kept.refl w
  have hc : (n < 0) ∨ (0 ≤ n ∧ n < 16) ∨ (n = 16) ∨ (16 < n) := by omega
  rcases hc with h | ⟨h, h2⟩ | rfl | h
  · go_enter Tryd.func38, Tryd.ntmps38
    go_wp2_with (first | (go_at_call 24; refine (wrap_r _ _ _).mono ?_; rintro e w1 ⟨rfl, k1⟩; replace k0 := k0.trans k1; clear k1) | (go_at_call 17; refine (width_at 9 16 rfl _).mono ?_; rintro e w1 ⟨rfl, k1⟩; replace k0 := k0.trans k1; clear k1) | go_in)
    go_ret
    exact ⟨ret_int (shl_neg (k := 9) (by decide) a (by omega)), k0⟩
  · go_enter Tryd.func38, Tryd.ntmps38
    go_wp2_with (first | (go_at_call 24; refine (wrap_r _ _ _).mono ?_; rintro e w1 ⟨rfl, k1⟩; replace k0 := k0.trans k1; clear k1) | (go_at_call 17; refine (width_at 9 16 rfl _).mono ?_; rintro e w1 ⟨rfl, k1⟩; replace k0 := k0.trans k1; clear k1) | go_in)
    go_ret
    exact ⟨ret_int (shl_in (k := 9) (by decide) a (by omega) (show n < 16 by omega)), k0⟩
  · go_enter Tryd.func38, Tryd.ntmps38
    go_wp2_with (first | (go_at_call 24; refine (wrap_r _ _ _).mono ?_; rintro e w1 ⟨rfl, k1⟩; replace k0 := k0.trans k1; clear k1) | (go_at_call 17; refine (width_at 9 16 rfl _).mono ?_; rintro e w1 ⟨rfl, k1⟩; replace k0 := k0.trans k1; clear k1) | go_in)
    go_ret
    exact ⟨ret_int (shl_out (k := 9) (by decide) a (show (16 : Int) ≤ 16 by omega)), k0⟩
  · go_enter Tryd.func38, Tryd.ntmps38
    go_wp2_with (first | (go_at_call 24; refine (wrap_r _ _ _).mono ?_; rintro e w1 ⟨rfl, k1⟩; replace k0 := k0.trans k1; clear k1) | (go_at_call 17; refine (width_at 9 16 rfl _).mono ?_; rintro e w1 ⟨rfl, k1⟩; replace k0 := k0.trans k1; clear k1) | go_in)
    go_ret
    exact ⟨ret_int (shl_out (k := 9) (by decide) a (show 16 ≤ n by omega)), k0⟩

set_option maxHeartbeats 2000000 in
theorem sh38_SHR_9 (a n : Int) (w : World) : Calls Tryd.prog 38 #[.string ⟨#[83, 72, 82]⟩, .int .i64 9, .int .i64 a, .int .i64 n] w fun e w' => e = .returned (.int .i64 (shv tSHR 9 a n)) ∧ Kept w w' := by
  have k0 := Kept.refl w
  have hc : (n < 0) ∨ (0 ≤ n ∧ n < 16) ∨ (n = 16) ∨ (16 < n) := by omega
  rcases hc with h | ⟨h, h2⟩ | rfl | h
  · go_enter Tryd.func38, Tryd.ntmps38
    go_wp2_with (first | (go_at_call 24; refine (wrap_r _ _ _).mono ?_; rintro e w1 ⟨rfl, k1⟩; replace k0 := k0.trans k1; clear k1) | (go_at_call 17; refine (width_at 9 16 rfl _).mono ?_; rintro e w1 ⟨rfl, k1⟩; replace k0 := k0.trans k1; clear k1) | go_in)
    go_ret
    exact ⟨ret_int (shr_neg (k := 9) (by decide) a (by omega)), k0⟩
  · go_enter Tryd.func38, Tryd.ntmps38
    go_wp2_with (first | (go_at_call 24; refine (wrap_r _ _ _).mono ?_; rintro e w1 ⟨rfl, k1⟩; replace k0 := k0.trans k1; clear k1) | (go_at_call 17; refine (width_at 9 16 rfl _).mono ?_; rintro e w1 ⟨rfl, k1⟩; replace k0 := k0.trans k1; clear k1) | go_in)
    go_ret
    exact ⟨ret_int (shr_in (k := 9) (by decide) a (by omega) (show n < 16 by omega)), k0⟩
  · go_enter Tryd.func38, Tryd.ntmps38
    go_wp2_with (first | (go_at_call 24; refine (wrap_r _ _ _).mono ?_; rintro e w1 ⟨rfl, k1⟩; replace k0 := k0.trans k1; clear k1) | (go_at_call 17; refine (width_at 9 16 rfl _).mono ?_; rintro e w1 ⟨rfl, k1⟩; replace k0 := k0.trans k1; clear k1) | go_in)
    go_ret
    exact ⟨ret_int (shr_out (k := 9) (by decide) a (show (16 : Int) ≤ 16 by omega)), k0⟩
  · go_enter Tryd.func38, Tryd.ntmps38
    go_wp2_with (first | (go_at_call 24; refine (wrap_r _ _ _).mono ?_; rintro e w1 ⟨rfl, k1⟩; replace k0 := k0.trans k1; clear k1) | (go_at_call 17; refine (width_at 9 16 rfl _).mono ?_; rintro e w1 ⟨rfl, k1⟩; replace k0 := k0.trans k1; clear k1) | go_in)
    go_ret
    exact ⟨ret_int (shr_out (k := 9) (by decide) a (show 16 ≤ n by omega)), k0⟩

set_option maxHeartbeats 2000000 in
theorem sh38_ROL_9 (a n : Int) (w : World) : Calls Tryd.prog 38 #[.string ⟨#[82, 79, 76]⟩, .int .i64 9, .int .i64 a, .int .i64 n] w fun e w' => e = .returned (.int .i64 (shv tROL 9 a n)) ∧ Kept w w' := by
  have k0 := Kept.refl w
  have hc : (n < 0) ∨ (0 ≤ n) := by omega
  rcases hc with h | h
  · have hw8 : IntKind.i64.wrap 16 = 16 := by decide
    have hw9 : IntKind.i64.wrap (16 - n % 16) = 16 - n % 16 := by rw [IntKind.wrap_i64]; omega
    have hw0 : 0 ≤ 16 - n % 16 := by omega
    go_enter Tryd.func38, Tryd.ntmps38
    go_wp2_with (first | (go_at_call 24; refine (wrap_r _ _ _).mono ?_; rintro e w1 ⟨rfl, k1⟩; replace k0 := k0.trans k1; clear k1) | (go_at_call 17; refine (width_at 9 16 rfl _).mono ?_; rintro e w1 ⟨rfl, k1⟩; replace k0 := k0.trans k1; clear k1) | go_in)
    go_region_with (go_at_call 24; refine (wrap_r _ _ _).mono ?_; rintro e w1 ⟨rfl, k1⟩; replace k0 := k0.drew.trans k1; clear k1)
    all_goals go_wp2
    all_goals go_ret
    all_goals exact ⟨ret_int (by simp only [i64_is]; exact rol_neg (k := 9) (by decide) a (by omega)), k0⟩
  · have hw8 : IntKind.i64.wrap 16 = 16 := by decide
    have hw9 : IntKind.i64.wrap (16 - n % 16) = 16 - n % 16 := by rw [IntKind.wrap_i64]; omega
    have hw0 : 0 ≤ 16 - n % 16 := by omega
    go_enter Tryd.func38, Tryd.ntmps38
    go_wp2_with (first | (go_at_call 24; refine (wrap_r _ _ _).mono ?_; rintro e w1 ⟨rfl, k1⟩; replace k0 := k0.trans k1; clear k1) | (go_at_call 17; refine (width_at 9 16 rfl _).mono ?_; rintro e w1 ⟨rfl, k1⟩; replace k0 := k0.trans k1; clear k1) | go_in)
    go_region_with (go_at_call 24; refine (wrap_r _ _ _).mono ?_; rintro e w1 ⟨rfl, k1⟩; replace k0 := k0.drew.trans k1; clear k1)
    all_goals go_wp2
    all_goals go_ret
    all_goals exact ⟨ret_int (by simp only [i64_is]; exact rol_in (k := 9) (by decide) a (by omega)), k0⟩

set_option maxHeartbeats 2000000 in
theorem sh38_ROR_9 (a n : Int) (w : World) : Calls Tryd.prog 38 #[.string ⟨#[82, 79, 82]⟩, .int .i64 9, .int .i64 a, .int .i64 n] w fun e w' => e = .returned (.int .i64 (shv tROR 9 a n)) ∧ Kept w w' := by
  have k0 := Kept.refl w
  have hc : (n < 0) ∨ (0 ≤ n) := by omega
  rcases hc with h | h
  · have hw8 : IntKind.i64.wrap 16 = 16 := by decide
    have hw9 : IntKind.i64.wrap (16 - n % 16) = 16 - n % 16 := by rw [IntKind.wrap_i64]; omega
    have hw0 : 0 ≤ 16 - n % 16 := by omega
    go_enter Tryd.func38, Tryd.ntmps38
    go_wp2_with (first | (go_at_call 24; refine (wrap_r _ _ _).mono ?_; rintro e w1 ⟨rfl, k1⟩; replace k0 := k0.trans k1; clear k1) | (go_at_call 17; refine (width_at 9 16 rfl _).mono ?_; rintro e w1 ⟨rfl, k1⟩; replace k0 := k0.trans k1; clear k1) | go_in)
    go_region_with (go_at_call 24; refine (wrap_r _ _ _).mono ?_; rintro e w1 ⟨rfl, k1⟩; replace k0 := k0.drew.trans k1; clear k1)
    all_goals go_wp2
    all_goals go_ret
    all_goals exact ⟨ret_int (by simp only [i64_is]; exact ror_rneg (k := 9) (by decide) a (by omega)), k0⟩
  · have hw8 : IntKind.i64.wrap 16 = 16 := by decide
    have hw9 : IntKind.i64.wrap (16 - n % 16) = 16 - n % 16 := by rw [IntKind.wrap_i64]; omega
    have hw0 : 0 ≤ 16 - n % 16 := by omega
    go_enter Tryd.func38, Tryd.ntmps38
    go_wp2_with (first | (go_at_call 24; refine (wrap_r _ _ _).mono ?_; rintro e w1 ⟨rfl, k1⟩; replace k0 := k0.trans k1; clear k1) | (go_at_call 17; refine (width_at 9 16 rfl _).mono ?_; rintro e w1 ⟨rfl, k1⟩; replace k0 := k0.trans k1; clear k1) | go_in)
    go_region_with (go_at_call 24; refine (wrap_r _ _ _).mono ?_; rintro e w1 ⟨rfl, k1⟩; replace k0 := k0.drew.trans k1; clear k1)
    all_goals go_wp2
    all_goals go_ret
    all_goals exact ⟨ret_int (by simp only [i64_is]; exact ror_r (k := 9) (by decide) a (by omega)), k0⟩

end Go.Proofs.YtonbbibnledleaaDoor
