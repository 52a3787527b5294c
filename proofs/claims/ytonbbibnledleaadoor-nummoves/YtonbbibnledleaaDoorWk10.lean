/- The walk of the words. -/
import Derived.Test.YtonbbibnledleaaDoorProg
import Derived.Test.YtonbbibnledleaaDoorPlain
import Derived.Test.YtonbbibnledleaaDoorPlain4
import Derived.Test.YtonbbibnledleaaDoorWk1
import Derived.WalkKit
import Derived.WalkSpells
import Derived.WalkLawsBesides
namespace Go.Proofs.YtonbbibnledleaaDoor
open Go.RowKit
open Num

set_option maxHeartbeats 2000000 in
theorem name_n (k : Int) (w : World) (hN : NamesAt w) : Calls Tryd.prog 18 #[.int .i64 k] w fun e w' => e = .returned (.string (word k.toNat)) ∧ w' = w := by
  have c1 := hN.cell 1
  have c2 := hN.cell 2
  have c3 := hN.cell 3
  have c4 := hN.cell 4
  have c5 := hN.cell 5
  have c6 := hN.cell 6
  have c7 := hN.cell 7
  have c8 := hN.cell 8
  have c9 := hN.cell 9
  have c10 := hN.cell 10
  have c11 := hN.cell 11
  simp only [cells12] at c1 c2 c3 c4 c5 c6 c7 c8 c9 c10 c11
  clear hN
  rcases kind_cases k with rfl | rfl | rfl | rfl | rfl | rfl | rfl | rfl | rfl | rfl | rfl | h | h
  all_goals
    go_enter Tryd.func18, Tryd.ntmps18
    go_wp2
    go_ret
  all_goals first | exact ⟨rfl, rfl⟩ | exact ⟨ret_str (word_none (by omega)).symm, rfl⟩
end Go.Proofs.YtonbbibnledleaaDoor
