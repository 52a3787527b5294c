/- The walk of the range. -/
import Derived.Test.YtonbbibnledleaaDoorProg
import Derived.Test.YtonbbibnledleaaDoorPlain
import Derived.RegionTactic
import Derived.ChangeAlike
import Derived.WalkKit
import Derived.WalkSpells
import Derived.WalkLawsBesides
namespace Go.Proofs.YtonbbibnledleaaDoor
open Go.RowKit
open Num

set_option maxHeartbeats 2000000 in
theorem range_n (k : Int) (w : World) : Calls Tryd.prog 10 #[.int .i64 k] w fun e w' => e = .returned (.tuple #[.int .i64 (lo k), .int .i64 (hi k)]) ∧ Kept w w' := by
  rcases kind_cases k with rfl | rfl | rfl | rfl | rfl | rfl | rfl | rfl | rfl | rfl | rfl | h | h
  all_goals
    go_enter Tryd.func10, Tryd.ntmps10
    go_wp2
    try (go_region; all_goals go_wp2)
    all_goals go_ret2
  all_goals first | exact ⟨rfl, Kept.refl _⟩ | exact ⟨rfl, (Kept.refl _).drew⟩ | exact ⟨ret_two (lo_none (by omega)).symm (hi_none (by omega)).symm, Kept.refl _⟩

theorem place_num (k n : Int) (h0 : 0 < n) (h : k.tmod n < 0) (h3 : n < 1000) : wrap64 (k.tmod n + n) = k % n := by
  have e := Int.tmod_eq_emod (a := k) (b := n)
  have p := Int.emod_nonneg k (show n ≠ 0 by omega)
  have q := Int.emod_lt_of_pos k h0
  split at e
  · omega
  · have : ((n.natAbs : Nat) : Int) = n := by omega
    unfold wrap64; omega
theorem place_num' (k n : Int) (h0 : 0 < n) (h : ¬ k.tmod n < 0) : k.tmod n = k % n := by
  have e := Int.tmod_eq_emod (a := k) (b := n)
  have p := Int.emod_nonneg k (show n ≠ 0 by omega)
  have q := Int.emod_lt_of_pos k h0
  split at e
  · omega
  · have : ((n.natAbs : Nat) : Int) = n := by omega
    omega
set_option maxHeartbeats 1000000 in
theorem place_r (k n : Int) (w : World) (hn : 0 < n) (hn' : n < 1000) : Calls Tryd.prog 22 #[.int .i64 k, .int .i64 n] w fun e w' => e = .returned (.int .i64 (k % n)) ∧ w' = w := by
  by_cases h : k.tmod n < 0
  · go_enter Tryd.func22, Tryd.ntmps22
    go_wp2
    go_ret
    exact ⟨ret_int (place_num k n hn h hn'), rfl⟩
  · go_enter Tryd.func22, Tryd.ntmps22
    go_wp2
    go_ret
    exact ⟨ret_int (place_num' k n hn (by omega)), rfl⟩
end Go.Proofs.YtonbbibnledleaaDoor
