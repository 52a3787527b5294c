/- The law of wraps. -/
import Derived.Test.YtonbbibnledleaaDoorProg
import Derived.Test.YtonbbibnledleaaDoorPlain
import Derived.Test.YtonbbibnledleaaDoorPlain5
import Derived.Test.YtonbbibnledleaaDoorWk4
import Derived.Test.YtonbbibnledleaaDoorWk6
import Derived.Test.YtonbbibnledleaaDoorWk12
import Derived.WalkKit
import Derived.WalkSpells
import Derived.WalkLawsBesides
namespace Go.Proofs.YtonbbibnledleaaDoor
open Go.RowKit
open Num

theorem place_at (k n v : Int) (h : k % n = v) (w : World) (hn : 0 < n) (hn' : n < 1000) : Calls Tryd.prog 22 #[.int .i64 k, .int .i64 n] w fun e w' => e = .returned (.int .i64 v) ∧ w' = w := by
  subst h; exact place_r k n w hn hn'
theorem nwidth_at (k v : Int) (h : wd k = v) (w : World) : Calls Tryd.prog 16 #[.int .i64 k] w fun e w' => e = .returned (.int .i64 v) ∧ w' = w := by
  subst h; exact width_n k w

set_option maxHeartbeats 2000000 in
theorem wraps1 (kind n : Int) (w : World) (hN : NamesAt w) (hv : kind % 11 = 0) : Calls Tryd.prog 4 #[.int .i64 kind, .int .i64 n] w fun e w' => e = .returned (.bool true) ∧ Kept w w' := by
  have k0 := Kept.refl w
  have f1 := wr_lo 1 n
  have f2 := wr_hi 1 n
  have f3 := wr_wr 1 n
  have HV : Hid (kind % 11 = 0) := hv
  clear hv
  go_enter Tryd.func4, Tryd.ntmps4
  go_wp2_with (first | (go_at_call 9; refine (known_n _ hN).mono ?_; rintro e w' ⟨rfl, rfl⟩) | (go_at_call 22; refine (place_at _ _ _ HV.out _ (by decide) (by decide)).mono ?_; rintro e w' ⟨rfl, rfl⟩) | (go_at_call 23; refine (wrap_n _ _ _).mono ?_; rintro e w' ⟨rfl, rfl⟩) | (go_at_call 16; refine (nwidth_at 1 1 rfl _).mono ?_; rintro e w' ⟨rfl, rfl⟩) | (go_at_call 10; refine (range_n _ _).mono ?_; rintro e w1 ⟨rfl, k1⟩; replace k0 := k0.trans k1; clear k1) | (go_at_call 24; refine (wrap_r _ _ _).mono ?_; rintro e w1 ⟨rfl, k1⟩; replace k0 := k0.trans k1; clear k1))
  go_ret
  exact ⟨rfl, k0⟩

set_option maxHeartbeats 2000000 in
theorem wraps2 (kind n : Int) (w : World) (hN : NamesAt w) (hv : kind % 11 = 1) : Calls Tryd.prog 4 #[.int .i64 kind, .int .i64 n] w fun e w' => e = .returned (.bool true) ∧ Kept w w' := by
  have k0 := Kept.refl w
  have f1 := wr_lo 2 n
  have f2 := wr_hi 2 n
  have f3 := wr_wr 2 n
  have HV : Hid (kind % 11 = 1) := hv
  clear hv
  go_enter Tryd.func4, Tryd.ntmps4
  go_wp2_with (first | (go_at_call 9; refine (known_n _ hN).mono ?_; rintro e w' ⟨rfl, rfl⟩) | (go_at_call 22; refine (place_at _ _ _ HV.out _ (by decide) (by decide)).mono ?_; rintro e w' ⟨rfl, rfl⟩) | (go_at_call 23; refine (wrap_n _ _ _).mono ?_; rintro e w' ⟨rfl, rfl⟩) | (go_at_call 16; refine (nwidth_at 2 8 rfl _).mono ?_; rintro e w' ⟨rfl, rfl⟩) | (go_at_call 10; refine (range_n _ _).mono ?_; rintro e w1 ⟨rfl, k1⟩; replace k0 := k0.trans k1; clear k1) | (go_at_call 24; refine (wrap_r _ _ _).mono ?_; rintro e w1 ⟨rfl, k1⟩; replace k0 := k0.trans k1; clear k1))
  go_ret
  exact ⟨ret_bool (up_s8 n), k0⟩

set_option maxHeartbeats 2000000 in
theorem wraps3 (kind n : Int) (w : World) (hN : NamesAt w) (hv : kind % 11 = 2) : Calls Tryd.prog 4 #[.int .i64 kind, .int .i64 n] w fun e w' => e = .returned (.bool true) ∧ Kept w w' := by
  have k0 := Kept.refl w
  have f1 := wr_lo 3 n
  have f2 := wr_hi 3 n
  have f3 := wr_wr 3 n
  have HV : Hid (kind % 11 = 2) := hv
  clear hv
  go_enter Tryd.func4, Tryd.ntmps4
  go_wp2_with (first | (go_at_call 9; refine (known_n _ hN).mono ?_; rintro e w' ⟨rfl, rfl⟩) | (go_at_call 22; refine (place_at _ _ _ HV.out _ (by decide) (by decide)).mono ?_; rintro e w' ⟨rfl, rfl⟩) | (go_at_call 23; refine (wrap_n _ _ _).mono ?_; rintro e w' ⟨rfl, rfl⟩) | (go_at_call 16; refine (nwidth_at 3 16 rfl _).mono ?_; rintro e w' ⟨rfl, rfl⟩) | (go_at_call 10; refine (range_n _ _).mono ?_; rintro e w1 ⟨rfl, k1⟩; replace k0 := k0.trans k1; clear k1) | (go_at_call 24; refine (wrap_r _ _ _).mono ?_; rintro e w1 ⟨rfl, k1⟩; replace k0 := k0.trans k1; clear k1))
  go_ret
  exact ⟨ret_bool (up_s16 n), k0⟩

set_option maxHeartbeats 2000000 in
theorem wraps4 (kind n : Int) (w : World) (hN : NamesAt w) (hv : kind % 11 = 3) : Calls Tryd.prog 4 #[.int .i64 kind, .int .i64 n] w fun e w' => e = .returned (.bool true) ∧ Kept w w' := by
  have k0 := Kept.refl w
  have f1 := wr_lo 4 n
  have f2 := wr_hi 4 n
  have f3 := wr_wr 4 n
  have HV : Hid (kind % 11 = 3) := hv
  clear hv
  go_enter Tryd.func4, Tryd.ntmps4
  go_wp2_with (first | (go_at_call 9; refine (known_n _ hN).mono ?_; rintro e w' ⟨rfl, rfl⟩) | (go_at_call 22; refine (place_at _ _ _ HV.out _ (by decide) (by decide)).mono ?_; rintro e w' ⟨rfl, rfl⟩) | (go_at_call 23; refine (wrap_n _ _ _).mono ?_; rintro e w' ⟨rfl, rfl⟩) | (go_at_call 16; refine (nwidth_at 4 32 rfl _).mono ?_; rintro e w' ⟨rfl, rfl⟩) | (go_at_call 10; refine (range_n _ _).mono ?_; rintro e w1 ⟨rfl, k1⟩; replace k0 := k0.trans k1; clear k1) | (go_at_call 24; refine (wrap_r _ _ _).mono ?_; rintro e w1 ⟨rfl, k1⟩; replace k0 := k0.trans k1; clear k1))
  go_ret
  exact ⟨ret_bool (up_s32 n), k0⟩

set_option maxHeartbeats 2000000 in
theorem wraps5 (kind n : Int) (w : World) (hN : NamesAt w) (hv : kind % 11 = 4) : Calls Tryd.prog 4 #[.int .i64 kind, .int .i64 n] w fun e w' => e = .returned (.bool true) ∧ Kept w w' := by
  have k0 := Kept.refl w
  have f1 := wr_lo 5 n
  have f2 := wr_hi 5 n
  have f3 := wr_wr 5 n
  have HV : Hid (kind % 11 = 4) := hv
  clear hv
  go_enter Tryd.func4, Tryd.ntmps4
  go_wp2_with (first | (go_at_call 9; refine (known_n _ hN).mono ?_; rintro e w' ⟨rfl, rfl⟩) | (go_at_call 22; refine (place_at _ _ _ HV.out _ (by decide) (by decide)).mono ?_; rintro e w' ⟨rfl, rfl⟩) | (go_at_call 23; refine (wrap_n _ _ _).mono ?_; rintro e w' ⟨rfl, rfl⟩) | (go_at_call 16; refine (nwidth_at 5 8 rfl _).mono ?_; rintro e w' ⟨rfl, rfl⟩) | (go_at_call 10; refine (range_n _ _).mono ?_; rintro e w1 ⟨rfl, k1⟩; replace k0 := k0.trans k1; clear k1) | (go_at_call 24; refine (wrap_r _ _ _).mono ?_; rintro e w1 ⟨rfl, k1⟩; replace k0 := k0.trans k1; clear k1))
  go_ret
  exact ⟨ret_bool (up_u8 n), k0⟩

set_option maxHeartbeats 2000000 in
theorem wraps6 (kind n : Int) (w : World) (hN : NamesAt w) (hv : kind % 11 = 5) : Calls Tryd.prog 4 #[.int .i64 kind, .int .i64 n] w fun e w' => e = .returned (.bool true) ∧ Kept w w' := by
  have k0 := Kept.refl w
  have f1 := wr_lo 6 n
  have f2 := wr_hi 6 n
  have f3 := wr_wr 6 n
  have HV : Hid (kind % 11 = 5) := hv
  clear hv
  go_enter Tryd.func4, Tryd.ntmps4
  go_wp2_with (first | (go_at_call 9; refine (known_n _ hN).mono ?_; rintro e w' ⟨rfl, rfl⟩) | (go_at_call 22; refine (place_at _ _ _ HV.out _ (by decide) (by decide)).mono ?_; rintro e w' ⟨rfl, rfl⟩) | (go_at_call 23; refine (wrap_n _ _ _).mono ?_; rintro e w' ⟨rfl, rfl⟩) | (go_at_call 16; refine (nwidth_at 6 16 rfl _).mono ?_; rintro e w' ⟨rfl, rfl⟩) | (go_at_call 10; refine (range_n _ _).mono ?_; rintro e w1 ⟨rfl, k1⟩; replace k0 := k0.trans k1; clear k1) | (go_at_call 24; refine (wrap_r _ _ _).mono ?_; rintro e w1 ⟨rfl, k1⟩; replace k0 := k0.trans k1; clear k1))
  go_ret
  exact ⟨ret_bool (up_u16 n), k0⟩

set_option maxHeartbeats 2000000 in
theorem wraps7 (kind n : Int) (w : World) (hN : NamesAt w) (hv : kind % 11 = 6) : Calls Tryd.prog 4 #[.int .i64 kind, .int .i64 n] w fun e w' => e = .returned (.bool true) ∧ Kept w w' := by
  have k0 := Kept.refl w
  have f1 := wr_lo 7 n
  have f2 := wr_hi 7 n
  have f3 := wr_wr 7 n
  have HV : Hid (kind % 11 = 6) := hv
  clear hv
  go_enter Tryd.func4, Tryd.ntmps4
  go_wp2_with (first | (go_at_call 9; refine (known_n _ hN).mono ?_; rintro e w' ⟨rfl, rfl⟩) | (go_at_call 22; refine (place_at _ _ _ HV.out _ (by decide) (by decide)).mono ?_; rintro e w' ⟨rfl, rfl⟩) | (go_at_call 23; refine (wrap_n _ _ _).mono ?_; rintro e w' ⟨rfl, rfl⟩) | (go_at_call 16; refine (nwidth_at 7 32 rfl _).mono ?_; rintro e w' ⟨rfl, rfl⟩) | (go_at_call 10; refine (range_n _ _).mono ?_; rintro e w1 ⟨rfl, k1⟩; replace k0 := k0.trans k1; clear k1) | (go_at_call 24; refine (wrap_r _ _ _).mono ?_; rintro e w1 ⟨rfl, k1⟩; replace k0 := k0.trans k1; clear k1))
  go_ret
  exact ⟨ret_bool (up_u32 n), k0⟩

set_option maxHeartbeats 2000000 in
theorem wraps8 (kind n : Int) (w : World) (hN : NamesAt w) (hv : kind % 11 = 7) : Calls Tryd.prog 4 #[.int .i64 kind, .int .i64 n] w fun e w' => e = .returned (.bool true) ∧ Kept w w' := by
  have k0 := Kept.refl w
  have f1 := wr_lo 8 n
  have f2 := wr_hi 8 n
  have f3 := wr_wr 8 n
  have HV : Hid (kind % 11 = 7) := hv
  clear hv
  go_enter Tryd.func4, Tryd.ntmps4
  go_wp2_with (first | (go_at_call 9; refine (known_n _ hN).mono ?_; rintro e w' ⟨rfl, rfl⟩) | (go_at_call 22; refine (place_at _ _ _ HV.out _ (by decide) (by decide)).mono ?_; rintro e w' ⟨rfl, rfl⟩) | (go_at_call 23; refine (wrap_n _ _ _).mono ?_; rintro e w' ⟨rfl, rfl⟩) | (go_at_call 16; refine (nwidth_at 8 8 rfl _).mono ?_; rintro e w' ⟨rfl, rfl⟩) | (go_at_call 10; refine (range_n _ _).mono ?_; rintro e w1 ⟨rfl, k1⟩; replace k0 := k0.trans k1; clear k1) | (go_at_call 24; refine (wrap_r _ _ _).mono ?_; rintro e w1 ⟨rfl, k1⟩; replace k0 := k0.trans k1; clear k1))
  go_ret
  exact ⟨ret_bool (up_u8 n), k0⟩

set_option maxHeartbeats 2000000 in
theorem wraps9 (kind n : Int) (w : World) (hN : NamesAt w) (hv : kind % 11 = 8) : Calls Tryd.prog 4 #[.int .i64 kind, .int .i64 n] w fun e w' => e = .returned (.bool true) ∧ Kept w w' := by
  have k0 := Kept.refl w
  have f1 := wr_lo 9 n
  have f2 := wr_hi 9 n
  have f3 := wr_wr 9 n
  have HV : Hid (kind % 11 = 8) := hv
  clear hv
  go_enter Tryd.func4, Tryd.ntmps4
  go_wp2_with (first | (go_at_call 9; refine (known_n _ hN).mono ?_; rintro e w' ⟨rfl, rfl⟩) | (go_at_call 22; refine (place_at _ _ _ HV.out _ (by decide) (by decide)).mono ?_; rintro e w' ⟨rfl, rfl⟩) | (go_at_call 23; refine (wrap_n _ _ _).mono ?_; rintro e w' ⟨rfl, rfl⟩) | (go_at_call 16; refine (nwidth_at 9 16 rfl _).mono ?_; rintro e w' ⟨rfl, rfl⟩) | (go_at_call 10; refine (range_n _ _).mono ?_; rintro e w1 ⟨rfl, k1⟩; replace k0 := k0.trans k1; clear k1) | (go_at_call 24; refine (wrap_r _ _ _).mono ?_; rintro e w1 ⟨rfl, k1⟩; replace k0 := k0.trans k1; clear k1))
  go_ret
  exact ⟨ret_bool (up_u16 n), k0⟩

set_option maxHeartbeats 2000000 in
theorem wraps10 (kind n : Int) (w : World) (hN : NamesAt w) (hv : kind % 11 = 9) : Calls Tryd.prog 4 #[.int .i64 kind, .int .i64 n] w fun e w' => e = .returned (.bool true) ∧ Kept w w' := by
  have k0 := Kept.refl w
  have f1 := wr_lo 10 n
  have f2 := wr_hi 10 n
  have f3 := wr_wr 10 n
  have HV : Hid (kind % 11 = 9) := hv
  clear hv
  go_enter Tryd.func4, Tryd.ntmps4
  go_wp2_with (first | (go_at_call 9; refine (known_n _ hN).mono ?_; rintro e w' ⟨rfl, rfl⟩) | (go_at_call 22; refine (place_at _ _ _ HV.out _ (by decide) (by decide)).mono ?_; rintro e w' ⟨rfl, rfl⟩) | (go_at_call 23; refine (wrap_n _ _ _).mono ?_; rintro e w' ⟨rfl, rfl⟩) | (go_at_call 16; refine (nwidth_at 10 32 rfl _).mono ?_; rintro e w' ⟨rfl, rfl⟩) | (go_at_call 10; refine (range_n _ _).mono ?_; rintro e w1 ⟨rfl, k1⟩; replace k0 := k0.trans k1; clear k1) | (go_at_call 24; refine (wrap_r _ _ _).mono ?_; rintro e w1 ⟨rfl, k1⟩; replace k0 := k0.trans k1; clear k1))
  go_ret
  exact ⟨ret_bool (up_u32 n), k0⟩

set_option maxHeartbeats 2000000 in
theorem wraps11 (kind n : Int) (w : World) (hN : NamesAt w) (hv : kind % 11 = 10) : Calls Tryd.prog 4 #[.int .i64 kind, .int .i64 n] w fun e w' => e = .returned (.bool true) ∧ Kept w w' := by
  have k0 := Kept.refl w
  have f1 := wr_lo 11 n
  have f2 := wr_hi 11 n
  have f3 := wr_wr 11 n
  have HV : Hid (kind % 11 = 10) := hv
  clear hv
  go_enter Tryd.func4, Tryd.ntmps4
  go_wp2_with (first | (go_at_call 9; refine (known_n _ hN).mono ?_; rintro e w' ⟨rfl, rfl⟩) | (go_at_call 22; refine (place_at _ _ _ HV.out _ (by decide) (by decide)).mono ?_; rintro e w' ⟨rfl, rfl⟩) | (go_at_call 23; refine (wrap_n _ _ _).mono ?_; rintro e w' ⟨rfl, rfl⟩) | (go_at_call 16; refine (nwidth_at 11 32 rfl _).mono ?_; rintro e w' ⟨rfl, rfl⟩) | (go_at_call 10; refine (range_n _ _).mono ?_; rintro e w1 ⟨rfl, k1⟩; replace k0 := k0.trans k1; clear k1) | (go_at_call 24; refine (wrap_r _ _ _).mono ?_; rintro e w1 ⟨rfl, k1⟩; replace k0 := k0.trans k1; clear k1))
  go_ret
  exact ⟨ret_bool (up_s32 n), k0⟩

theorem wraps_any (kind n : Int) (w : World) (hN : NamesAt w) : Calls Tryd.prog 4 #[.int .i64 kind, .int .i64 n] w fun e w' => e = .returned (.bool true) ∧ Kept w w' := by
  have hc : kind % 11 = 0 ∨ kind % 11 = 1 ∨ kind % 11 = 2 ∨ kind % 11 = 3 ∨ kind % 11 = 4 ∨ kind % 11 = 5 ∨ kind % 11 = 6 ∨ kind % 11 = 7 ∨ kind % 11 = 8 ∨ kind % 11 = 9 ∨ kind % 11 = 10 := by omega
  rcases hc with h | h | h | h | h | h | h | h | h | h | h
  · exact wraps1 kind n w hN h
  · exact wraps2 kind n w hN h
  · exact wraps3 kind n w hN h
  · exact wraps4 kind n w hN h
  · exact wraps5 kind n w hN h
  · exact wraps6 kind n w hN h
  · exact wraps7 kind n w hN h
  · exact wraps8 kind n w hN h
  · exact wraps9 kind n w hN h
  · exact wraps10 kind n w hN h
  · exact wraps11 kind n w hN h
theorem wraps_all (kind n : Int) (w : World) (hN : NamesAt w) : Calls Tryd.prog 4 #[.int .i64 kind, .int .i64 n] w fun e w' => e = .returned (.bool true) ∧ Kept w w' := wraps_any kind n w hN
end Go.Proofs.YtonbbibnledleaaDoor
