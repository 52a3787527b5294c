/- The walk of the wrap. -/
import Derived.Test.YtonbbibnledleaaDoorProg
import Derived.Test.YtonbbibnledleaaDoorPlain
import Derived.WalkKit
import Derived.WalkSpells
import Derived.WalkLawsBesides
namespace Go.Proofs.YtonbbibnledleaaDoor
open Go.RowKit
open Num

set_option maxHeartbeats 1000000 in
theorem wrap_n (k n : Int) (w : World) : Calls Tryd.prog 23 #[.int .i64 k, .int .i64 n] w fun e w' => e = .returned (.int .i64 (wr k n)) ∧ w' = w := by
  rcases kind_cases k with rfl | rfl | rfl | rfl | rfl | rfl | rfl | rfl | rfl | rfl | rfl | h | h
  · by_cases h : n = 0
    · subst h
      go_enter Tryd.func23, Tryd.ntmps23
      go_wp2
      go_ret
      exact ⟨rfl, rfl⟩
    · go_enter Tryd.func23, Tryd.ntmps23
      go_wp2
      go_ret
      exact ⟨ret_int (show (1 : Int) = wr 1 n by unfold wr; rw [if_pos rfl, if_neg h]), rfl⟩
  all_goals
    go_enter Tryd.func23, Tryd.ntmps23
    go_wp2
    go_ret
  all_goals first | exact ⟨ret_int (s8 n), rfl⟩ | exact ⟨ret_int (s16 n), rfl⟩ | exact ⟨ret_int (s32 n), rfl⟩ | exact ⟨ret_int (u8 n), rfl⟩ | exact ⟨ret_int (u16 n), rfl⟩ | exact ⟨ret_int (u32 n), rfl⟩ | exact ⟨ret_int (wr_none (by omega) n).symm, rfl⟩

end Go.Proofs.YtonbbibnledleaaDoor
