/- The walks of the opposite and of the turned bits. -/
import Derived.Test.YtonbbibnledleaaDoorProg
import Derived.Test.YtonbbibnledleaaDoorPlain
import Derived.Test.YtonbbibnledleaaDoorPlain3
import Derived.Test.YtonbbibnledleaaDoorWk3
import Derived.Test.YtonbbibnledleaaDoorWk6
import Derived.Test.YtonbbibnledleaaDoorWk7
import Derived.WalkKit
import Derived.WalkSpells
import Derived.WalkLawsBesides
namespace Go.Proofs.YtonbbibnledleaaDoor
open Go.RowKit
open Num

set_option maxHeartbeats 2000000 in
theorem neg_n (k a : Int) (w : World) : Calls Tryd.prog 27 #[.int .i64 k, .int .i64 a] w fun e w' => e = .returned (.int .i64 (ngv k a)) ∧ w' = w := by
  go_enter Tryd.func27, Tryd.ntmps27
  go_wp2_with (go_at_call 23; refine (wrap_n _ _ _).mono ?_; rintro e w' ⟨rfl, rfl⟩)
  go_ret
  exact ⟨rfl, rfl⟩
set_option maxHeartbeats 2000000 in
theorem neg_r (k a : Int) (w : World) (h1 : -9223372036854775808 ≤ a) (h2 : a ≤ 9223372036854775807) : Calls Tryd.prog 28 #[.int .i64 k, .int .i64 a] w fun e w' => e = .returned (.int .i64 (ngv k a)) ∧ Kept w w' := by
  have k0 := Kept.refl w
  go_enter Tryd.func28, Tryd.ntmps28
  go_wp2_with (go_at_call 24; refine (wrap_r _ _ _).mono ?_; rintro e w1 ⟨rfl, k1⟩; replace k0 := k0.trans k1; clear k1)
  go_ret
  exact ⟨ret_int (neg_eq k a h1 h2), k0⟩
set_option maxHeartbeats 2000000 in
theorem not_call_n (k a : Int) (w : World) : Calls Tryd.prog 29 #[.int .i64 k, .int .i64 a] w fun e w' => e = .returned (.int .i64 (ntv k a)) ∧ w' = w := by
  by_cases hk1 : k = 1
  · subst hk1
    go_enter Tryd.func29, Tryd.ntmps29
    go_wp2_with (first | (go_at_call 23; refine (wrap_n _ _ _).mono ?_; rintro e w' ⟨rfl, rfl⟩) | (go_at_call 40; refine (truth_n _ _).mono ?_; rintro e w' ⟨rfl, rfl⟩))
    go_ret
    exact ⟨rfl, rfl⟩
  · go_enter Tryd.func29, Tryd.ntmps29
    go_wp2_with (first | (go_at_call 23; refine (wrap_n _ _ _).mono ?_; rintro e w' ⟨rfl, rfl⟩) | (go_at_call 40; refine (truth_n _ _).mono ?_; rintro e w' ⟨rfl, rfl⟩))
    go_ret
    exact ⟨ret_int (not_n k a hk1), rfl⟩
set_option maxHeartbeats 2000000 in
theorem not_call_r (k a : Int) (w : World) : Calls Tryd.prog 30 #[.int .i64 k, .int .i64 a] w fun e w' => e = .returned (.int .i64 (ntv k a)) ∧ Kept w w' := by
  have k0 := Kept.refl w
  by_cases hk1 : k = 1
  · subst hk1
    go_enter Tryd.func30, Tryd.ntmps30
    go_wp2_with (go_at_call 24; refine (wrap_r _ _ _).mono ?_; rintro e w1 ⟨rfl, k1⟩; replace k0 := k0.trans k1; clear k1)
    go_ret
    refine ⟨ret_int ?_, k0⟩
    have := not_r1 a
    have h3 : wr 1 a = 0 ∨ wr 1 a = 1 := by rw [wr1]; split <;> simp
    rw [← this]; unfold wrap64; omega
  · go_enter Tryd.func30, Tryd.ntmps30
    go_wp2_with (go_at_call 24; refine (wrap_r _ _ _).mono ?_; rintro e w1 ⟨rfl, k1⟩; replace k0 := k0.trans k1; clear k1)
    go_ret
    exact ⟨ret_int (not_r k a hk1), k0⟩
end Go.Proofs.YtonbbibnledleaaDoor
