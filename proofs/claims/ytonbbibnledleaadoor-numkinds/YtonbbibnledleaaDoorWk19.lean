/- The law of the kinds. -/
import Derived.Test.YtonbbibnledleaaDoorProg
import Derived.Test.YtonbbibnledleaaDoorPlain
import Derived.Test.YtonbbibnledleaaDoorWk2
import Derived.Test.YtonbbibnledleaaDoorWk4
import Derived.Test.YtonbbibnledleaaDoorWk5
import Derived.Test.YtonbbibnledleaaDoorWk12
import Derived.Test.YtonbbibnledleaaDoorWk17
import Derived.Test.YtonbbibnledleaaDoorWk18
import Derived.WalkKit
import Derived.WalkSpells
import Derived.WalkLawsBesides
namespace Go.Proofs.YtonbbibnledleaaDoor
open Go.RowKit
open Num

set_option maxHeartbeats 2000000 in
theorem kinds_all (kind : Int) (s : ByteArray) (w : World) (hN : NamesAt w) : Calls Tryd.prog 3 #[.int .i64 kind, .string s] w fun e w' => e = .returned (.bool true) ∧ Kept w w' := by
  have k0 := Kept.refl w
  go_enter Tryd.func3, Tryd.ntmps3
  go_wp2_with (first | (go_at_call 9; refine (known_n _ hN).mono ?_; rintro e w' ⟨rfl, hw⟩; subst w') | (go_at_call 10; refine (range_n _ _).mono ?_; rintro e w1 ⟨rfl, k1⟩; replace k0 := k0.trans k1; clear k1) | (go_at_call 11; refine (range_r _ _).mono ?_; rintro e w1 ⟨rfl, k1⟩; replace k0 := k0.trans k1; clear k1) | (go_at_call 12; refine (scalar_n _ _).mono ?_; rintro e w' ⟨rfl, hw⟩; subst w') | (go_at_call 13; refine (scalar_r _ _).mono ?_; rintro e w' ⟨rfl, hw⟩; subst w') | (go_at_call 14; refine (signed_n _ _).mono ?_; rintro e w' ⟨rfl, hw⟩; subst w') | (go_at_call 15; refine (signed_r _ _).mono ?_; rintro e w' ⟨rfl, hw⟩; subst w') | (go_at_call 16; refine (width_n _ _).mono ?_; rintro e w' ⟨rfl, hw⟩; subst w') | (go_at_call 17; refine (width_r _ _).mono ?_; rintro e w1 ⟨rfl, k1⟩; replace k0 := k0.trans k1; clear k1) | (go_at_call 18; refine (name_n _ _ (hN.kept k0)).mono ?_; rintro e w' ⟨rfl, hw⟩; subst w') | (go_at_call 19; refine (name_r _ _).mono ?_; rintro e w1 ⟨rfl, k1⟩; replace k0 := k0.trans k1; clear k1) | (go_at_call 20; refine (kind_n _ _ (hN.kept k0)).mono ?_; rintro e w' ⟨rfl, hw⟩; subst w') | (go_at_call 21; refine (kind_r _ _).mono ?_; rintro e w1 ⟨rfl, k1⟩; replace k0 := k0.trans k1; clear k1))
  all_goals go_ret
  all_goals exact ⟨rfl, k0⟩
end Go.Proofs.YtonbbibnledleaaDoor
