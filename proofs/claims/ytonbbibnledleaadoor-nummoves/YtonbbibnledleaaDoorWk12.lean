/- The walk of the known answers. -/
import Derived.Test.YtonbbibnledleaaDoorProg
import Derived.Test.YtonbbibnledleaaDoorPlain
import Derived.Test.YtonbbibnledleaaDoorWk7
import Derived.Test.YtonbbibnledleaaDoorWk10
import Derived.Test.YtonbbibnledleaaDoorWk11
import Derived.WalkKit
import Derived.WalkSpells
import Derived.WalkLawsBesides
namespace Go.Proofs.YtonbbibnledleaaDoor
open Go.RowKit
open Num

theorem k1 : apv 6 3 (-7) 2 = -3 := by decide +kernel
theorem k2 : apf 6 3 2 = 0 := by decide +kernel
theorem k3 : apv 7 3 (-7) 2 = -1 := by decide +kernel
theorem k4 : apv 6 3 (-32768) (-1) = -32768 := by decide +kernel
theorem k5 : apf 6 3 0 = 1 := by decide +kernel
theorem k6 : wr 2 200 = -56 := by decide +kernel
theorem k7 : wd 7 = 32 := by decide +kernel
theorem k8 : kd ⟨#[87, 79, 82, 68]⟩ = 9 := by decide +kernel
theorem k9 : (word 11).toList = [84, 73, 77, 69] := by rw [ByteArray.toList_eq]; rfl

set_option maxHeartbeats 2000000 in
theorem known_n (w : World) (hN : NamesAt w) : Calls Tryd.prog 9 #[] w fun e w' => e = .returned (.bool true) ∧ w' = w := by
  have e1 := k1
  have e2 := k2
  have e3 := k3
  have e4 := k4
  have e5 := k5
  have e6 := k6
  have e7 := k7
  have e8 := k8
  have e9 := k9
  go_enter Tryd.func9, Tryd.ntmps9
  go_wp2_with (first | (go_at_call 25; refine (apply_n _ _ _ _ _).mono ?_; rintro e w' ⟨rfl, rfl⟩) | (go_at_call 23; refine (wrap_n _ _ _).mono ?_; rintro e w' ⟨rfl, rfl⟩) | (go_at_call 16; refine (width_n _ _).mono ?_; rintro e w' ⟨rfl, rfl⟩) | (go_at_call 18; refine (name_n _ _ hN).mono ?_; rintro e w' ⟨rfl, rfl⟩) | (go_at_call 20; refine (kind_n _ _ hN).mono ?_; rintro e w' ⟨rfl, rfl⟩))
  go_ret
  exact ⟨rfl, rfl⟩
end Go.Proofs.YtonbbibnledleaaDoor
