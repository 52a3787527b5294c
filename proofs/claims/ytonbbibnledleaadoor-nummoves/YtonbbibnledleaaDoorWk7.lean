/- The walk of the operators. -/
import Derived.Test.YtonbbibnledleaaDoorProg
import Derived.Test.YtonbbibnledleaaDoorPlain
import Derived.Test.YtonbbibnledleaaDoorPlain2
import Derived.Test.YtonbbibnledleaaDoorWk1
import Derived.Test.YtonbbibnledleaaDoorWk3
import Derived.WalkKit
import Derived.WalkSpells
import Derived.WalkLawsBesides
namespace Go.Proofs.YtonbbibnledleaaDoor
open Go.RowKit
open Num

theorem scalar_at (k : Int) (b : Bool) (h : sc k = b) (w : World) : Calls Tryd.prog 12 #[.int .i64 k] w fun e w' => e = .returned (.bool b) ∧ w' = w := by
  subst h; exact scalar_n k w
theorem truth_n (b : Bool) (w : World) : Calls Tryd.prog 40 #[.bool b] w fun e w' => e = .returned (.int .i64 (tr b)) ∧ w' = w := by
  cases b
  all_goals
    go_enter Tryd.func40, Tryd.ntmps40
    go_wp2
    go_ret
    exact ⟨rfl, rfl⟩

set_option maxHeartbeats 2000000 in
theorem apply_none (op k a b : Int) (w : World) (hk : sc k = false) : Calls Tryd.prog 25 #[.int .i64 op, .int .i64 k, .int .i64 a, .int .i64 b] w fun e w' => e = .returned (.tuple #[.int .i64 0, .int .i64 0]) ∧ w' = w := by
  go_enter Tryd.func25, Tryd.ntmps25
  go_wp2_with (go_at_call 12; refine (scalar_at _ _ hk _).mono ?_; rintro e w' ⟨rfl, rfl⟩)
  go_ret2
  exact ⟨rfl, rfl⟩

set_option maxHeartbeats 2000000 in
theorem apply_op (op k a b : Int) (w : World) (hk : sc k = true) : Calls Tryd.prog 25 #[.int .i64 op, .int .i64 k, .int .i64 a, .int .i64 b] w fun e w' => e = .returned (.tuple #[.int .i64 (opv op k (wr k a) (wr k b)), .int .i64 (opf op (wr k b))]) ∧ w' = w := by
  rcases op_cases op with rfl | rfl | rfl | rfl | rfl | rfl | rfl | rfl | rfl | rfl | rfl | rfl | rfl | rfl | h | h
  case' inr.inl => by_cases hz : wr k b = 0
  case' inr.inr.inl => by_cases hz : wr k b = 0
  all_goals
    go_enter Tryd.func25, Tryd.ntmps25
    go_wp2_with (first | (go_at_call 12; refine (scalar_at _ _ hk _).mono ?_; rintro e w' ⟨rfl, rfl⟩) | (go_at_call 23; refine (wrap_n _ _ _).mono ?_; rintro e w' ⟨rfl, rfl⟩) | (go_at_call 40; refine (truth_n _ _).mono ?_; rintro e w' ⟨rfl, rfl⟩) | go_in)
    go_ret2
  all_goals first | exact ⟨ret_two rfl rfl, rfl⟩ | exact ⟨ret_two (by rw [hz]; rfl) (by rw [hz]; rfl), rfl⟩ | exact ⟨ret_two (opv_div hz _ _).symm (opf_not hz).symm, rfl⟩ | exact ⟨ret_two (opv_mod hz _ _).symm (opf_not hz).symm, rfl⟩ | exact ⟨ret_two ((wr_zero k).trans (opv_none (by omega) _ _ _).symm) (opf_none (by omega) _).symm, rfl⟩ | exact ⟨ret_two (opv_none (by omega) _ _ _).symm (opf_none (by omega) _).symm, rfl⟩

theorem apply_n (op k a b : Int) (w : World) : Calls Tryd.prog 25 #[.int .i64 op, .int .i64 k, .int .i64 a, .int .i64 b] w fun e w' => e = .returned (.tuple #[.int .i64 (apv op k a b), .int .i64 (apf op k b)]) ∧ w' = w := by
  cases hk : sc k
  · refine (apply_none op k a b w hk).mono fun e w' h => ⟨h.1.trans (ret_two ?_ ?_), h.2⟩
    · unfold apv; rw [hk]; rfl
    · unfold apf; rw [hk]; rfl
  · refine (apply_op op k a b w hk).mono fun e w' h => ⟨h.1.trans (ret_two ?_ ?_), h.2⟩
    · unfold apv; rw [hk]; rfl
    · unfold apf; rw [hk]; rfl
end Go.Proofs.YtonbbibnledleaaDoor
