/- The walks of kinds, widths and wraps. -/
import Derived.Test.YtonbbibnledleabDoorProg
import Derived.Test.YtonbbibnledleabDoorPlain
import Derived.WalkKit
import Derived.WalkSpells
import Derived.WalkLawsBesides
namespace Go.Proofs.YtonbbibnledleabDoor
open Go.RowKit
open Num

set_option maxHeartbeats 2000000 in
theorem scalar_n (k : Int) (w : World) : Calls Tryd.prog 18 #[.int .i64 k] w fun e w' => e = .returned (.bool (sc k)) ∧ w' = w := by
  rcases kind_cases k with rfl | rfl | rfl | rfl | rfl | rfl | rfl | rfl | rfl | rfl | rfl | h | h
  all_goals
    go_enter Tryd.func18, Tryd.ntmps18
    go_wp2
    go_ret
  all_goals first | exact ⟨rfl, rfl⟩ | exact ⟨ret_bool (sc_none (by omega)).symm, rfl⟩

set_option maxHeartbeats 2000000 in
theorem signed_n (k : Int) (w : World) : Calls Tryd.prog 23 #[.int .i64 k] w fun e w' => e = .returned (.bool (sg k)) ∧ w' = w := by
  rcases kind_cases k with rfl | rfl | rfl | rfl | rfl | rfl | rfl | rfl | rfl | rfl | rfl | h | h
  all_goals
    go_enter Tryd.func23, Tryd.ntmps23
    go_wp2
    go_ret
  all_goals first | exact ⟨rfl, rfl⟩ | exact ⟨ret_bool (sg_none (by omega)).symm, rfl⟩

set_option maxHeartbeats 2000000 in
theorem width_n (k : Int) (w : World) : Calls Tryd.prog 17 #[.int .i64 k] w fun e w' => e = .returned (.int .i64 (wd k)) ∧ w' = w := by
  rcases kind_cases k with rfl | rfl | rfl | rfl | rfl | rfl | rfl | rfl | rfl | rfl | rfl | h | h
  all_goals
    go_enter Tryd.func17, Tryd.ntmps17
    go_wp2
    go_ret
  all_goals first | exact ⟨rfl, rfl⟩ | exact ⟨ret_int (wd_none (by omega)).symm, rfl⟩

set_option maxHeartbeats 1000000 in
theorem wrap_n (k n : Int) (w : World) : Calls Tryd.prog 9 #[.int .i64 k, .int .i64 n] w fun e w' => e = .returned (.int .i64 (wr k n)) ∧ w' = w := by
  rcases kind_cases k with rfl | rfl | rfl | rfl | rfl | rfl | rfl | rfl | rfl | rfl | rfl | h | h
  · by_cases h : n = 0
    · subst h
      go_enter Tryd.func9, Tryd.ntmps9
      go_wp2
      go_ret
      exact ⟨rfl, rfl⟩
    · go_enter Tryd.func9, Tryd.ntmps9
      go_wp2
      go_ret
      exact ⟨ret_int (show (1 : Int) = wr 1 n by unfold wr; rw [if_pos rfl, if_neg h]), rfl⟩
  all_goals
    go_enter Tryd.func9, Tryd.ntmps9
    go_wp2
    go_ret
  all_goals first | exact ⟨ret_int (s8 n), rfl⟩ | exact ⟨ret_int (s16 n), rfl⟩ | exact ⟨ret_int (s32 n), rfl⟩ | exact ⟨ret_int (u8 n), rfl⟩ | exact ⟨ret_int (u16 n), rfl⟩ | exact ⟨ret_int (u32 n), rfl⟩ | exact ⟨ret_int (wr_none (by omega) n).symm, rfl⟩

theorem place_num (k n : Int) (h0 : 0 < n) (h : k.tmod n < 0) (h3 : n < 1000) : wrap64 (k.tmod n + n) = k % n := by
  have e := Int.tmod_eq_emod (a := k) (b := n)
  have p := Int.emod_nonneg k (show n ≠ 0 by omega)
  have q := Int.emod_lt_of_pos k h0
  split at e
  · omega
  · have : ((n.natAbs : Nat) : Int) = n := by omega
    unfold wrap64; omega

theorem place_num' (k n : Int) (h0 : 0 < n) (h : ¬ k.tmod n < 0) : k.tmod n = k % n := by
  have e := Int.tmod_eq_emod (a := k) (b := n)
  have p := Int.emod_nonneg k (show n ≠ 0 by omega)
  have q := Int.emod_lt_of_pos k h0
  split at e
  · omega
  · have : ((n.natAbs : Nat) : Int) = n := by omega
    omega

set_option maxHeartbeats 1000000 in
theorem place_r (k n : Int) (w : World) (hn : 0 < n) (hn' : n < 1000) : Calls Tryd.prog 6 #[.int .i64 k, .int .i64 n] w fun e w' => e = .returned (.int .i64 (k % n)) ∧ w' = w := by
  by_cases h : k.tmod n < 0
  · go_enter Tryd.func6, Tryd.ntmps6
    go_wp2
    go_ret
    exact ⟨ret_int (place_num k n hn h hn'), rfl⟩
  · go_enter Tryd.func6, Tryd.ntmps6
    go_wp2
    go_ret
    exact ⟨ret_int (place_num' k n hn (by omega)), rfl⟩

theorem place_at (k n v : Int) (h : k % n = v) (w : World) (hn : 0 < n) (hn' : n < 1000) : Calls Tryd.prog 6 #[.int .i64 k, .int .i64 n] w fun e w' => e = .returned (.int .i64 v) ∧ w' = w := by
  subst h; exact place_r k n w hn hn'
end Go.Proofs.YtonbbibnledleabDoor
