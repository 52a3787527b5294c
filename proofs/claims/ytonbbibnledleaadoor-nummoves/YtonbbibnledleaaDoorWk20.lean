/- The turn of bits. -/
import Derived.Test.YtonbbibnledleaaDoorProg
import Derived.Test.YtonbbibnledleaaDoorPlain
import Derived.Test.YtonbbibnledleaaDoorPlain8
import Derived.Test.YtonbbibnledleaaDoorWk3
import Derived.Deep.QuietTactic
import Derived.BigQuiet
import Derived.WalkKit
import Derived.WalkSpells
import Derived.WalkLawsBesides
namespace Go.Proofs.YtonbbibnledleaaDoor
open Go.RowKit
open Num

theorem kept_draws {a w : World} (h : Kept a w) (n : Nat) : Kept a (w.drewN n) := ⟨h.os, h.tape, h.output, h.size, h.block⟩
set_option maxHeartbeats 2000000 in
theorem turn_n (k x m W : Int) (w : World) (h0 : 0 ≤ m) (h1 : m ≤ W) (h2 : W ≤ 32) : Calls Tryd.prog 45 #[.int .i64 k, .int .i64 x, .int .i64 m, .int .i64 W] w fun e w' => e = .returned (.int .i64 (wr k (bits .or .i64 (wrap64 (x * 2 ^ m.toNat)) (x / 2 ^ (W - m).toNat)))) ∧ Kept w w' := by
  go_enter Tryd.func45, Tryd.ntmps45
  go_wp2_with fail
  go_quiet ((go_at_call 23; exact Calls.quiet_of_same (wrap_n _ _ _)))
  go_wp2
  go_ret
  exact ⟨rfl, kept_draws (Kept.refl _) nq⟩

end Go.Proofs.YtonbbibnledleaaDoor
