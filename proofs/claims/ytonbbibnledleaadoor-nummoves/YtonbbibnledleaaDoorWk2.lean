/- The walk of the reference width. -/
import Derived.Test.YtonbbibnledleaaDoorProg
import Derived.Test.YtonbbibnledleaaDoorPlain
import Derived.WalkKit
import Derived.WalkSpells
import Derived.WalkLawsBesides
namespace Go.Proofs.YtonbbibnledleaaDoor
open Go.RowKit
open Num

set_option maxHeartbeats 2000000 in
theorem width_r (k : Int) (w : World) : Calls Tryd.prog 17 #[.int .i64 k] w fun e w' => e = .returned (.int .i64 (wd k)) ∧ Kept w w' := by
  rcases kind_cases k with rfl | rfl | rfl | rfl | rfl | rfl | rfl | rfl | rfl | rfl | rfl | h | h
  rotate_right
  · have hd : decide (k ≤ 11) = false := decide_eq_false (by omega)
    go_enter Tryd.func17, Tryd.ntmps17
    go_wp2
    go_ret
    exact ⟨ret_int (wd_none (by omega)).symm, Kept.refl _⟩
  all_goals
    go_enter Tryd.func17, Tryd.ntmps17
    go_wp2
    go_ret
  all_goals first | exact ⟨rfl, Kept.refl _⟩ | exact ⟨rfl, (Kept.refl _).alloc _⟩ | exact ⟨ret_int (wd_none (by omega)).symm, Kept.refl _⟩

end Go.Proofs.YtonbbibnledleaaDoor
