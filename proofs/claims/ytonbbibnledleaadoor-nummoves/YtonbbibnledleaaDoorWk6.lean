/- The walk of the reference wrap. -/
import Derived.Test.YtonbbibnledleaaDoorProg
import Derived.Test.YtonbbibnledleaaDoorPlain
import Derived.Test.YtonbbibnledleaaDoorWk2
import Derived.Test.YtonbbibnledleaaDoorWk5
import Derived.WalkKit
import Derived.WalkSpells
import Derived.WalkLawsBesides
namespace Go.Proofs.YtonbbibnledleaaDoor
open Go.RowKit
open Num

theorem width_at (k v : Int) (h : wd k = v) (w : World) : Calls Tryd.prog 17 #[.int .i64 k] w fun e w' => e = .returned (.int .i64 v) ∧ Kept w w' := by
  subst h; exact width_r k w
theorem range_at (k u v : Int) (h : lo k = u) (h' : hi k = v) (w : World) : Calls Tryd.prog 11 #[.int .i64 k] w fun e w' => e = .returned (.tuple #[.int .i64 u, .int .i64 v]) ∧ Kept w w' := by
  subst h h'; exact range_r k w
theorem down8 (n : Int) (h : 127 < n % 256) : n % 256 - 256 = sw 256 n := by unfold sw; omega
theorem down16 (n : Int) (h : 32767 < n % 65536) : n % 65536 - 65536 = sw 65536 n := by unfold sw; omega
theorem down32 (n : Int) (h : 2147483647 < n % 4294967296) : n % 4294967296 - 4294967296 = sw 4294967296 n := by unfold sw; omega
theorem stay8 (n : Int) (h : ¬ 127 < n % 256) : n % 256 = sw 256 n := by unfold sw; omega
theorem stay16 (n : Int) (h : ¬ 32767 < n % 65536) : n % 65536 = sw 65536 n := by unfold sw; omega
theorem stay32 (n : Int) (h : ¬ 2147483647 < n % 4294967296) : n % 4294967296 = sw 4294967296 n := by unfold sw; omega

set_option maxHeartbeats 2000000 in
theorem wrap_r2 (n : Int) (w : World) : Calls Tryd.prog 24 #[.int .i64 2, .int .i64 n] w fun e w' => e = .returned (.int .i64 (wr 2 n)) ∧ Kept w w' := by
  have e := and8 n
  by_cases h : 127 < n % 256
  · go_enter Tryd.func24, Tryd.ntmps24
    go_wp2_with (first | (go_at_call 17; refine (width_at 2 8 rfl _).mono ?_; rintro e w1 ⟨rfl, k1⟩) | (go_at_call 11; refine (range_at 2 (-128) 127 rfl rfl _).mono ?_; rintro e w2 ⟨rfl, k2⟩))
    go_ret
    exact ⟨ret_int (down8 n h), k1.trans k2⟩
  · go_enter Tryd.func24, Tryd.ntmps24
    go_wp2_with (first | (go_at_call 17; refine (width_at 2 8 rfl _).mono ?_; rintro e w1 ⟨rfl, k1⟩) | (go_at_call 11; refine (range_at 2 (-128) 127 rfl rfl _).mono ?_; rintro e w2 ⟨rfl, k2⟩))
    go_ret
    exact ⟨ret_int (stay8 n (by omega)), k1.trans k2⟩

set_option maxHeartbeats 2000000 in
theorem wrap_r3 (n : Int) (w : World) : Calls Tryd.prog 24 #[.int .i64 3, .int .i64 n] w fun e w' => e = .returned (.int .i64 (wr 3 n)) ∧ Kept w w' := by
  have e := and16 n
  by_cases h : 32767 < n % 65536
  · go_enter Tryd.func24, Tryd.ntmps24
    go_wp2_with (first | (go_at_call 17; refine (width_at 3 16 rfl _).mono ?_; rintro e w1 ⟨rfl, k1⟩) | (go_at_call 11; refine (range_at 3 (-32768) 32767 rfl rfl _).mono ?_; rintro e w2 ⟨rfl, k2⟩))
    go_ret
    exact ⟨ret_int (down16 n h), k1.trans k2⟩
  · go_enter Tryd.func24, Tryd.ntmps24
    go_wp2_with (first | (go_at_call 17; refine (width_at 3 16 rfl _).mono ?_; rintro e w1 ⟨rfl, k1⟩) | (go_at_call 11; refine (range_at 3 (-32768) 32767 rfl rfl _).mono ?_; rintro e w2 ⟨rfl, k2⟩))
    go_ret
    exact ⟨ret_int (stay16 n (by omega)), k1.trans k2⟩

set_option maxHeartbeats 2000000 in
theorem wrap_r4 (n : Int) (w : World) : Calls Tryd.prog 24 #[.int .i64 4, .int .i64 n] w fun e w' => e = .returned (.int .i64 (wr 4 n)) ∧ Kept w w' := by
  have e := and32 n
  by_cases h : 2147483647 < n % 4294967296
  · go_enter Tryd.func24, Tryd.ntmps24
    go_wp2_with (first | (go_at_call 17; refine (width_at 4 32 rfl _).mono ?_; rintro e w1 ⟨rfl, k1⟩) | (go_at_call 11; refine (range_at 4 (-2147483648) 2147483647 rfl rfl _).mono ?_; rintro e w2 ⟨rfl, k2⟩))
    go_ret
    exact ⟨ret_int (down32 n h), k1.trans k2⟩
  · go_enter Tryd.func24, Tryd.ntmps24
    go_wp2_with (first | (go_at_call 17; refine (width_at 4 32 rfl _).mono ?_; rintro e w1 ⟨rfl, k1⟩) | (go_at_call 11; refine (range_at 4 (-2147483648) 2147483647 rfl rfl _).mono ?_; rintro e w2 ⟨rfl, k2⟩))
    go_ret
    exact ⟨ret_int (stay32 n (by omega)), k1.trans k2⟩

set_option maxHeartbeats 2000000 in
theorem wrap_r5 (n : Int) (w : World) : Calls Tryd.prog 24 #[.int .i64 5, .int .i64 n] w fun e w' => e = .returned (.int .i64 (wr 5 n)) ∧ Kept w w' := by
  have e := and8 n
  have h : ¬ 255 < n % 256 := by omega
  go_enter Tryd.func24, Tryd.ntmps24
  go_wp2_with (first | (go_at_call 17; refine (width_at 5 8 rfl _).mono ?_; rintro e w1 ⟨rfl, k1⟩) | (go_at_call 11; refine (range_at 5 (0) 255 rfl rfl _).mono ?_; rintro e w2 ⟨rfl, k2⟩))
  go_ret
  exact ⟨rfl, k1.trans k2⟩

set_option maxHeartbeats 2000000 in
theorem wrap_r6 (n : Int) (w : World) : Calls Tryd.prog 24 #[.int .i64 6, .int .i64 n] w fun e w' => e = .returned (.int .i64 (wr 6 n)) ∧ Kept w w' := by
  have e := and16 n
  have h : ¬ 65535 < n % 65536 := by omega
  go_enter Tryd.func24, Tryd.ntmps24
  go_wp2_with (first | (go_at_call 17; refine (width_at 6 16 rfl _).mono ?_; rintro e w1 ⟨rfl, k1⟩) | (go_at_call 11; refine (range_at 6 (0) 65535 rfl rfl _).mono ?_; rintro e w2 ⟨rfl, k2⟩))
  go_ret
  exact ⟨rfl, k1.trans k2⟩

set_option maxHeartbeats 2000000 in
theorem wrap_r7 (n : Int) (w : World) : Calls Tryd.prog 24 #[.int .i64 7, .int .i64 n] w fun e w' => e = .returned (.int .i64 (wr 7 n)) ∧ Kept w w' := by
  have e := and32 n
  have h : ¬ 4294967295 < n % 4294967296 := by omega
  go_enter Tryd.func24, Tryd.ntmps24
  go_wp2_with (first | (go_at_call 17; refine (width_at 7 32 rfl _).mono ?_; rintro e w1 ⟨rfl, k1⟩) | (go_at_call 11; refine (range_at 7 (0) 4294967295 rfl rfl _).mono ?_; rintro e w2 ⟨rfl, k2⟩))
  go_ret
  exact ⟨rfl, k1.trans k2⟩

set_option maxHeartbeats 2000000 in
theorem wrap_r8 (n : Int) (w : World) : Calls Tryd.prog 24 #[.int .i64 8, .int .i64 n] w fun e w' => e = .returned (.int .i64 (wr 8 n)) ∧ Kept w w' := by
  have e := and8 n
  have h : ¬ 255 < n % 256 := by omega
  go_enter Tryd.func24, Tryd.ntmps24
  go_wp2_with (first | (go_at_call 17; refine (width_at 8 8 rfl _).mono ?_; rintro e w1 ⟨rfl, k1⟩) | (go_at_call 11; refine (range_at 8 (0) 255 rfl rfl _).mono ?_; rintro e w2 ⟨rfl, k2⟩))
  go_ret
  exact ⟨rfl, k1.trans k2⟩

set_option maxHeartbeats 2000000 in
theorem wrap_r9 (n : Int) (w : World) : Calls Tryd.prog 24 #[.int .i64 9, .int .i64 n] w fun e w' => e = .returned (.int .i64 (wr 9 n)) ∧ Kept w w' := by
  have e := and16 n
  have h : ¬ 65535 < n % 65536 := by omega
  go_enter Tryd.func24, Tryd.ntmps24
  go_wp2_with (first | (go_at_call 17; refine (width_at 9 16 rfl _).mono ?_; rintro e w1 ⟨rfl, k1⟩) | (go_at_call 11; refine (range_at 9 (0) 65535 rfl rfl _).mono ?_; rintro e w2 ⟨rfl, k2⟩))
  go_ret
  exact ⟨rfl, k1.trans k2⟩

set_option maxHeartbeats 2000000 in
theorem wrap_r10 (n : Int) (w : World) : Calls Tryd.prog 24 #[.int .i64 10, .int .i64 n] w fun e w' => e = .returned (.int .i64 (wr 10 n)) ∧ Kept w w' := by
  have e := and32 n
  have h : ¬ 4294967295 < n % 4294967296 := by omega
  go_enter Tryd.func24, Tryd.ntmps24
  go_wp2_with (first | (go_at_call 17; refine (width_at 10 32 rfl _).mono ?_; rintro e w1 ⟨rfl, k1⟩) | (go_at_call 11; refine (range_at 10 (0) 4294967295 rfl rfl _).mono ?_; rintro e w2 ⟨rfl, k2⟩))
  go_ret
  exact ⟨rfl, k1.trans k2⟩

set_option maxHeartbeats 2000000 in
theorem wrap_r11 (n : Int) (w : World) : Calls Tryd.prog 24 #[.int .i64 11, .int .i64 n] w fun e w' => e = .returned (.int .i64 (wr 11 n)) ∧ Kept w w' := by
  have e := and32 n
  by_cases h : 2147483647 < n % 4294967296
  · go_enter Tryd.func24, Tryd.ntmps24
    go_wp2_with (first | (go_at_call 17; refine (width_at 11 32 rfl _).mono ?_; rintro e w1 ⟨rfl, k1⟩) | (go_at_call 11; refine (range_at 11 (-2147483648) 2147483647 rfl rfl _).mono ?_; rintro e w2 ⟨rfl, k2⟩))
    go_ret
    exact ⟨ret_int (down32 n h), k1.trans k2⟩
  · go_enter Tryd.func24, Tryd.ntmps24
    go_wp2_with (first | (go_at_call 17; refine (width_at 11 32 rfl _).mono ?_; rintro e w1 ⟨rfl, k1⟩) | (go_at_call 11; refine (range_at 11 (-2147483648) 2147483647 rfl rfl _).mono ?_; rintro e w2 ⟨rfl, k2⟩))
    go_ret
    exact ⟨ret_int (stay32 n (by omega)), k1.trans k2⟩

set_option maxHeartbeats 2000000 in
theorem wrap_r (k n : Int) (w : World) : Calls Tryd.prog 24 #[.int .i64 k, .int .i64 n] w fun e w' => e = .returned (.int .i64 (wr k n)) ∧ Kept w w' := by
  rcases kind_cases k with rfl | rfl | rfl | rfl | rfl | rfl | rfl | rfl | rfl | rfl | rfl | h | h
  rotate_right
  · have hd : decide (k ≤ 11) = false := decide_eq_false (by omega)
    go_enter Tryd.func24, Tryd.ntmps24
    go_wp2
    go_ret
    exact ⟨ret_int (wr_none (by omega) n).symm, Kept.refl _⟩
  · by_cases h : n = 0
    · subst h
      go_enter Tryd.func24, Tryd.ntmps24
      go_wp2_with (go_at_call 17; refine (width_at 1 1 rfl _).mono ?_; rintro e w1 ⟨rfl, k1⟩)
      go_ret
      exact ⟨rfl, k1⟩
    · go_enter Tryd.func24, Tryd.ntmps24
      go_wp2_with (go_at_call 17; refine (width_at 1 1 rfl _).mono ?_; rintro e w1 ⟨rfl, k1⟩)
      go_ret
      exact ⟨ret_int (show (1 : Int) = wr 1 n by unfold wr; rw [if_pos rfl, if_neg h]), k1⟩
  · exact wrap_r2 n w
  · exact wrap_r3 n w
  · exact wrap_r4 n w
  · exact wrap_r5 n w
  · exact wrap_r6 n w
  · exact wrap_r7 n w
  · exact wrap_r8 n w
  · exact wrap_r9 n w
  · exact wrap_r10 n w
  · exact wrap_r11 n w
  · go_enter Tryd.func24, Tryd.ntmps24
    go_wp2
    go_ret
    exact ⟨ret_int (wr_none (by omega) n).symm, Kept.refl _⟩
end Go.Proofs.YtonbbibnledleaaDoor
