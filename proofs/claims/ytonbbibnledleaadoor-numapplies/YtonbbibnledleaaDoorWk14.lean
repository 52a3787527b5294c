/- The law of operators. -/
import Derived.Test.YtonbbibnledleaaDoorProg
import Derived.Test.YtonbbibnledleaaDoorPlain
import Derived.Test.YtonbbibnledleaaDoorWk8
import Derived.Test.YtonbbibnledleaaDoorWk9
import Derived.Test.YtonbbibnledleaaDoorWk12
import Derived.WalkKit
import Derived.WalkSpells
import Derived.WalkLawsBesides
namespace Go.Proofs.YtonbbibnledleaaDoor
open Go.RowKit
open Num

set_option maxHeartbeats 2000000 in
theorem applies_all (op kind a b : Int) (w : World) (hN : NamesAt w) (h1 : -9223372036854775808 ≤ a) (h2 : a ≤ 9223372036854775807) : Calls Tryd.prog 5 #[.int .i64 op, .int .i64 kind, .int .i64 a, .int .i64 b] w fun e w' => e = .returned (.bool true) ∧ Kept w w' := by
  have k0 := Kept.refl w
  have H1 : Hid (-9223372036854775808 ≤ a) := h1
  have H2 : Hid (a ≤ 9223372036854775807) := h2
  clear h1 h2
  go_enter Tryd.func5, Tryd.ntmps5
  go_wp2_with (first | (go_at_call 9; refine (known_n _ hN).mono ?_; rintro e w' ⟨rfl, hw⟩; subst w') | (go_at_call 25; refine (apply_n _ _ _ _ _).mono ?_; rintro e w' ⟨rfl, hw⟩; subst w') | (go_at_call 26; refine (apply_r _ _ _ _ _).mono ?_; rintro e w1 ⟨rfl, k1⟩; replace k0 := k0.trans k1; clear k1) | (go_at_call 27; refine (neg_n _ _ _).mono ?_; rintro e w' ⟨rfl, hw⟩; subst w') | (go_at_call 28; refine (neg_r _ _ _ H1.out H2.out).mono ?_; rintro e w1 ⟨rfl, k1⟩; replace k0 := k0.trans k1; clear k1) | (go_at_call 29; refine (not_call_n _ _ _).mono ?_; rintro e w' ⟨rfl, hw⟩; subst w') | (go_at_call 30; refine (not_call_r _ _ _).mono ?_; rintro e w1 ⟨rfl, k1⟩; replace k0 := k0.trans k1; clear k1))
  go_ret
  exact ⟨rfl, k0⟩
end Go.Proofs.YtonbbibnledleaaDoor
