/- The walks of operators and turned bits. -/
import Derived.Test.YtonbbibnledleabDoorProg
import Derived.Test.YtonbbibnledleabDoorPlain
import Derived.Test.YtonbbibnledleabDoorPlain2
import Derived.Test.YtonbbibnledleabDoorPlain3
import Derived.Test.YtonbbibnledleabDoorNk1
import Derived.WalkKit
import Derived.WalkSpells
import Derived.WalkLawsBesides
namespace Go.Proofs.YtonbbibnledleabDoor
open Go.RowKit
open Num

theorem scalar_at (k : Int) (b : Bool) (h : sc k = b) (w : World) : Calls Tryd.prog 18 #[.int .i64 k] w fun e w' => e = .returned (.bool b) ∧ w' = w := by
  subst h; exact scalar_n k w

theorem truth_n (b : Bool) (w : World) : Calls Tryd.prog 20 #[.bool b] w fun e w' => e = .returned (.int .i64 (tr b)) ∧ w' = w := by
  cases b
  all_goals
    go_enter Tryd.func20, Tryd.ntmps20
    go_wp2
    go_ret
    exact ⟨rfl, rfl⟩

set_option maxHeartbeats 2000000 in
theorem apply_none (op k a b : Int) (w : World) (hk : sc k = false) : Calls Tryd.prog 8 #[.int .i64 op, .int .i64 k, .int .i64 a, .int .i64 b] w fun e w' => e = .returned (.tuple #[.int .i64 0, .int .i64 0]) ∧ w' = w := by
  go_enter Tryd.func8, Tryd.ntmps8
  go_wp2_with (go_at_call 18; refine (scalar_at _ _ hk _).mono ?_; rintro e w' ⟨rfl, rfl⟩)
  go_ret2
  exact ⟨rfl, rfl⟩

set_option maxHeartbeats 2000000 in
theorem apply_op (op k a b : Int) (w : World) (hk : sc k = true) : Calls Tryd.prog 8 #[.int .i64 op, .int .i64 k, .int .i64 a, .int .i64 b] w fun e w' => e = .returned (.tuple #[.int .i64 (opv op k (wr k a) (wr k b)), .int .i64 (opf op (wr k b))]) ∧ w' = w := by
  rcases op_cases op with rfl | rfl | rfl | rfl | rfl | rfl | rfl | rfl | rfl | rfl | rfl | rfl | rfl | rfl | h | h
  case' inr.inl => by_cases hz : wr k b = 0
  case' inr.inr.inl => by_cases hz : wr k b = 0
  all_goals
    go_enter Tryd.func8, Tryd.ntmps8
    go_wp2_with (first | (go_at_call 18; refine (scalar_at _ _ hk _).mono ?_; rintro e w' ⟨rfl, rfl⟩) | (go_at_call 9; refine (wrap_n _ _ _).mono ?_; rintro e w' ⟨rfl, rfl⟩) | (go_at_call 20; refine (truth_n _ _).mono ?_; rintro e w' ⟨rfl, rfl⟩) | go_in)
    go_ret2
  all_goals first | exact ⟨ret_two rfl rfl, rfl⟩ | exact ⟨ret_two (by rw [hz]; rfl) (by rw [hz]; rfl), rfl⟩ | exact ⟨ret_two (opv_div hz _ _).symm (opf_not hz).symm, rfl⟩ | exact ⟨ret_two (opv_mod hz _ _).symm (opf_not hz).symm, rfl⟩ | exact ⟨ret_two ((wr_zero k).trans (opv_none (by omega) _ _ _).symm) (opf_none (by omega) _).symm, rfl⟩ | exact ⟨ret_two (opv_none (by omega) _ _ _).symm (opf_none (by omega) _).symm, rfl⟩

theorem apply_n (op k a b : Int) (w : World) : Calls Tryd.prog 8 #[.int .i64 op, .int .i64 k, .int .i64 a, .int .i64 b] w fun e w' => e = .returned (.tuple #[.int .i64 (apv op k a b), .int .i64 (apf op k b)]) ∧ w' = w := by
  cases hk : sc k
  · refine (apply_none op k a b w hk).mono fun e w' h => ⟨h.1.trans (ret_two ?_ ?_), h.2⟩
    · unfold apv; rw [hk]; rfl
    · unfold apf; rw [hk]; rfl
  · refine (apply_op op k a b w hk).mono fun e w' h => ⟨h.1.trans (ret_two ?_ ?_), h.2⟩
    · unfold apv; rw [hk]; rfl
    · unfold apf; rw [hk]; rfl

set_option maxHeartbeats 2000000 in
theorem not_call_n (k a : Int) (w : World) : Calls Tryd.prog 14 #[.int .i64 k, .int .i64 a] w fun e w' => e = .returned (.int .i64 (ntv k a)) ∧ w' = w := by
  by_cases hk1 : k = 1
  · subst hk1
    go_enter Tryd.func14, Tryd.ntmps14
    go_wp2_with (first | (go_at_call 9; refine (wrap_n _ _ _).mono ?_; rintro e w' ⟨rfl, rfl⟩) | (go_at_call 20; refine (truth_n _ _).mono ?_; rintro e w' ⟨rfl, rfl⟩))
    go_ret
    exact ⟨rfl, rfl⟩
  · go_enter Tryd.func14, Tryd.ntmps14
    go_wp2_with (first | (go_at_call 9; refine (wrap_n _ _ _).mono ?_; rintro e w' ⟨rfl, rfl⟩) | (go_at_call 20; refine (truth_n _ _).mono ?_; rintro e w' ⟨rfl, rfl⟩))
    go_ret
    exact ⟨ret_int (not_n k a hk1), rfl⟩
end Go.Proofs.YtonbbibnledleabDoor
