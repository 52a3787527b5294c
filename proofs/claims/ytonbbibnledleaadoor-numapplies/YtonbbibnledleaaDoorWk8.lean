/- The walk of the reference operators. -/
import Derived.Test.YtonbbibnledleaaDoorProg
import Derived.Test.YtonbbibnledleaaDoorPlain
import Derived.Test.YtonbbibnledleaaDoorPlain2
import Derived.Test.YtonbbibnledleaaDoorWk1
import Derived.Test.YtonbbibnledleaaDoorWk6
import Derived.WalkKit
import Derived.WalkSpells
import Derived.WalkLawsBesides
namespace Go.Proofs.YtonbbibnledleaaDoor
open Go.RowKit
open Num

theorem scalar_rat (k : Int) (b : Bool) (h : sc k = b) (w : World) : Calls Tryd.prog 13 #[.int .i64 k] w fun e w' => e = .returned (.bool b) ∧ w' = w := by
  subst h; exact scalar_r k w
theorem truth_r (b : Bool) (w : World) : Calls Tryd.prog 44 #[.bool b] w fun e w' => e = .returned (.int .i64 (tr b)) ∧ w' = w := by
  cases b
  all_goals
    go_enter Tryd.func44, Tryd.ntmps44
    go_wp2
    go_ret
    exact ⟨rfl, rfl⟩

set_option maxHeartbeats 2000000 in
theorem apply_rnone (op k a b : Int) (w : World) (hk : sc k = false) : Calls Tryd.prog 26 #[.int .i64 op, .int .i64 k, .int .i64 a, .int .i64 b] w fun e w' => e = .returned (.tuple #[.int .i64 0, .int .i64 0]) ∧ w' = w := by
  go_enter Tryd.func26, Tryd.ntmps26
  go_wp2_with (go_at_call 13; refine (scalar_rat _ _ hk _).mono ?_; rintro e w' ⟨rfl, rfl⟩)
  go_ret2
  exact ⟨rfl, rfl⟩

set_option maxHeartbeats 2000000 in
theorem apply_rop (op k a b : Int) (w : World) (hk : sc k = true) : Calls Tryd.prog 26 #[.int .i64 op, .int .i64 k, .int .i64 a, .int .i64 b] w fun e w' => e = .returned (.tuple #[.int .i64 (opv op k (wr k a) (wr k b)), .int .i64 (opf op (wr k b))]) ∧ Kept w w' := by
  have k0 := Kept.refl w
  rcases op_cases op with rfl | rfl | rfl | rfl | rfl | rfl | rfl | rfl | rfl | rfl | rfl | rfl | rfl | rfl | h | h
  case' inr.inl => by_cases hz : wr k b = 0
  case' inr.inr.inl => by_cases hz : wr k b = 0
  all_goals
    go_enter Tryd.func26, Tryd.ntmps26
    go_wp2_with (first | (go_at_call 13; refine (scalar_rat _ _ hk _).mono ?_; rintro e w' ⟨rfl, rfl⟩) | (go_at_call 24; refine (wrap_r _ _ _).mono ?_; rintro e w1 ⟨rfl, k1⟩; replace k0 := k0.trans k1; clear k1) | (go_at_call 44; refine (truth_r _ _).mono ?_; rintro e w' ⟨rfl, rfl⟩) | go_in)
    go_ret2
  all_goals first | exact ⟨ret_two rfl rfl, k0⟩ | exact ⟨ret_two (by rw [hz]; rfl) (by rw [hz]; rfl), k0⟩ | exact ⟨ret_two (opv_div hz _ _).symm (opf_not hz).symm, k0⟩ | exact ⟨ret_two (opv_mod hz _ _).symm (opf_not hz).symm, k0⟩ | exact ⟨ret_two ((wr_zero k).trans (opv_none (by omega) _ _ _).symm) (opf_none (by omega) _).symm, k0⟩ | exact ⟨ret_two (opv_none (by omega) _ _ _).symm (opf_none (by omega) _).symm, k0⟩

theorem apply_r (op k a b : Int) (w : World) : Calls Tryd.prog 26 #[.int .i64 op, .int .i64 k, .int .i64 a, .int .i64 b] w fun e w' => e = .returned (.tuple #[.int .i64 (apv op k a b), .int .i64 (apf op k b)]) ∧ Kept w w' := by
  cases hk : sc k
  · refine (apply_rnone op k a b w hk).mono fun e w' h => ⟨h.1.trans (ret_two ?_ ?_), by rw [h.2]; exact Kept.refl _⟩
    · unfold apv; rw [hk]; rfl
    · unfold apf; rw [hk]; rfl
  · refine (apply_rop op k a b w hk).mono fun e w' h => ⟨h.1.trans (ret_two ?_ ?_), h.2⟩
    · unfold apv; rw [hk]; rfl
    · unfold apf; rw [hk]; rfl
end Go.Proofs.YtonbbibnledleaaDoor
