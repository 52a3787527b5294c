/- The walk of the reference range. -/
import Derived.Test.YtonbbibnledleaaDoorProg
import Derived.Test.YtonbbibnledleaaDoorPlain
import Derived.RegionTactic
import Derived.ChangeAlike
import Derived.WalkKit
import Derived.WalkSpells
import Derived.WalkLawsBesides
namespace Go.Proofs.YtonbbibnledleaaDoor
open Go.RowKit
open Num

set_option maxHeartbeats 2000000 in
theorem range_r (k : Int) (w : World) : Calls Tryd.prog 11 #[.int .i64 k] w fun e w' => e = .returned (.tuple #[.int .i64 (lo k), .int .i64 (hi k)]) ∧ Kept w w' := by
  rcases kind_cases k with rfl | rfl | rfl | rfl | rfl | rfl | rfl | rfl | rfl | rfl | rfl | h | h
  rotate_right
  · have hd : decide (k ≤ 11) = false := decide_eq_false (by omega)
    go_enter Tryd.func11, Tryd.ntmps11
    go_wp2
    go_ret2
    exact ⟨ret_two (lo_none (by omega)).symm (hi_none (by omega)).symm, Kept.refl _⟩
  all_goals
    go_enter Tryd.func11, Tryd.ntmps11
    go_wp2
    try (go_region; all_goals go_wp2)
    all_goals go_ret2
  all_goals first | exact ⟨rfl, (Kept.refl _).alloc _⟩ | exact ⟨rfl, ((Kept.refl _).alloc _).drew⟩ | exact ⟨ret_two (lo_none (by omega)).symm (hi_none (by omega)).symm, Kept.refl _⟩

end Go.Proofs.YtonbbibnledleaaDoor
