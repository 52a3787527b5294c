/- The law of moved bits. -/
import Derived.Test.YtonbbibnledleaaDoorProg
import Derived.Test.YtonbbibnledleaaDoorPlain
import Derived.Test.YtonbbibnledleaaDoorPlain9
import Derived.Test.YtonbbibnledleaaDoorWk12
import Derived.Test.YtonbbibnledleaaDoorWk13
import Derived.Test.YtonbbibnledleaaDoorWk24
import Derived.WalkKit
import Derived.WalkSpells
import Derived.WalkLawsBesides
namespace Go.Proofs.YtonbbibnledleaaDoor
open Go.RowKit
open Num

theorem conv_n (f t n : Int) (w : World) : Calls Tryd.prog 35 #[.int .i64 f, .int .i64 t, .int .i64 n] w fun e w' => e = .returned (.int .i64 (wr t (wr f n))) ∧ w' = w := by
  go_enter Tryd.func35, Tryd.ntmps35
  go_wp2_with (go_at_call 23; refine (wrap_n _ _ _).mono ?_; rintro e w' ⟨rfl, hw⟩; subst w')
  go_ret
  exact ⟨rfl, rfl⟩
theorem conv_r (f t n : Int) (w : World) : Calls Tryd.prog 36 #[.int .i64 f, .int .i64 t, .int .i64 n] w fun e w' => e = .returned (.int .i64 (wr t (wr f n))) ∧ Kept w w' := by
  have k0 := Kept.refl w
  go_enter Tryd.func36, Tryd.ntmps36
  go_wp2_with (go_at_call 24; refine (wrap_r _ _ _).mono ?_; rintro e w1 ⟨rfl, k1⟩; replace k0 := k0.trans k1; clear k1)
  go_ret
  exact ⟨rfl, k0⟩

set_option maxHeartbeats 2000000 in
theorem moves8 (s : ByteArray) (f u a n : Int) (w : World) (hN : NamesAt w) (hv : f % 3 = 0) : Calls Tryd.prog 8 #[.string s, .int .i64 f, .int .i64 u, .int .i64 a, .int .i64 n] w fun e w' => e = .returned (.bool true) ∧ Kept w w' := by
  have k0 := Kept.refl w
  have HV : Hid (f % 3 = 0) := hv
  clear hv
  have e1 : shv ⟨#[82, 79, 82]⟩ 8 (shv ⟨#[82, 79, 76]⟩ 8 a n) n = wr 8 a := turns8 a n
  obtain ⟨m1, m2, m3, m4, m5, m6⟩ := moves_ends (k := 8) (by decide) a
  have m1 : shv ⟨#[83, 72, 76]⟩ 8 a 8 = 0 := m1
  have m2 : shv ⟨#[83, 72, 82]⟩ 8 a 8 = 0 := m2
  have m3 : shv ⟨#[83, 72, 76]⟩ 8 a 0 = wr 8 a := m3
  have m4 : shv ⟨#[83, 72, 82]⟩ 8 a 0 = wr 8 a := m4
  have m5 : shv ⟨#[83, 72, 76]⟩ 8 a (-1) = wr 8 a := m5
  have m6 : shv ⟨#[83, 72, 82]⟩ 8 a (-1) = wr 8 a := m6
  by_cases hlen : (20 : Int) < s.size
  · go_enter Tryd.func8, Tryd.ntmps8
    go_wp2_with (go_at_call 9; refine (known_n _ hN).mono ?_; rintro e w' ⟨rfl, hw⟩; subst w')
    go_ret
    exact ⟨rfl, k0⟩
  go_enter Tryd.func8, Tryd.ntmps8
  go_wp2_with (first | (go_at_call 9; refine (known_n _ hN).mono ?_; rintro e w' ⟨rfl, hw⟩; subst w') | (go_at_call 22; refine (place_at _ _ _ HV.out _ (by decide) (by decide)).mono ?_; rintro e w' ⟨rfl, hw⟩; subst w') | (go_at_call 35; refine (conv_n _ _ _ _).mono ?_; rintro e w' ⟨rfl, hw⟩; subst w') | (go_at_call 36; refine (conv_r _ _ _ _).mono ?_; rintro e w1 ⟨rfl, k1⟩; replace k0 := k0.trans k1; clear k1) | (go_at_call 37; refine (shift_n _ _ _ _ _).mono ?_; rintro e w1 ⟨rfl, k1⟩; replace k0 := k0.trans k1; clear k1) | (go_at_call 38; refine (shift_r _ _ _ _ _).mono ?_; rintro e w1 ⟨rfl, k1⟩; replace k0 := k0.trans k1; clear k1) | (go_at_call 23; refine (wrap_n _ _ _).mono ?_; rintro e w' ⟨rfl, hw⟩; subst w') | (go_at_call 16; refine (nwidth_at 8 8 rfl _).mono ?_; rintro e w' ⟨rfl, hw⟩; subst w'))
  go_loopw [12] (fun i wr => ∃ j : Nat, j ≤ 2 ∧ i = .int .i64 j ∧ Kept w wr) (fun i _ => 2 - (intOf i).toNat)
  case atStart => exact ⟨0, by omega, rfl, k0⟩
  case round =>
    clear k0
    obtain ⟨j, hj, rfl, k0⟩ := hrel
    have hc : j = 0 ∨ j = 1 ∨ j = 2 := by omega
    rcases hc with rfl | rfl | rfl
    · go_wp2_with (first | (go_at_call 9; refine (known_n _ hN).mono ?_; rintro e w' ⟨rfl, hw⟩; subst w') | (go_at_call 22; refine (place_at _ _ _ HV.out _ (by decide) (by decide)).mono ?_; rintro e w' ⟨rfl, hw⟩; subst w') | (go_at_call 35; refine (conv_n _ _ _ _).mono ?_; rintro e w' ⟨rfl, hw⟩; subst w') | (go_at_call 36; refine (conv_r _ _ _ _).mono ?_; rintro e w1 ⟨rfl, k1⟩; (first | replace k0 := k0.trans k1 | replace k0 := (k0.alloc _).trans k1); clear k1) | (go_at_call 37; refine (shift_n _ _ _ _ _).mono ?_; rintro e w1 ⟨rfl, k1⟩; (first | replace k0 := k0.trans k1 | replace k0 := (k0.alloc _).trans k1); clear k1) | (go_at_call 38; refine (shift_r _ _ _ _ _).mono ?_; rintro e w1 ⟨rfl, k1⟩; (first | replace k0 := k0.trans k1 | replace k0 := (k0.alloc _).trans k1); clear k1) | (go_at_call 23; refine (wrap_n _ _ _).mono ?_; rintro e w' ⟨rfl, hw⟩; subst w') | (go_at_call 16; refine (nwidth_at 8 8 rfl _).mono ?_; rintro e w' ⟨rfl, hw⟩; subst w'))
      go_roundw
      case rel => exact ⟨1, by omega, rfl, k0⟩
      case measure => simp [intOf]
    · go_wp2_with (first | (go_at_call 9; refine (known_n _ hN).mono ?_; rintro e w' ⟨rfl, hw⟩; subst w') | (go_at_call 22; refine (place_at _ _ _ HV.out _ (by decide) (by decide)).mono ?_; rintro e w' ⟨rfl, hw⟩; subst w') | (go_at_call 35; refine (conv_n _ _ _ _).mono ?_; rintro e w' ⟨rfl, hw⟩; subst w') | (go_at_call 36; refine (conv_r _ _ _ _).mono ?_; rintro e w1 ⟨rfl, k1⟩; (first | replace k0 := k0.trans k1 | replace k0 := (k0.alloc _).trans k1); clear k1) | (go_at_call 37; refine (shift_n _ _ _ _ _).mono ?_; rintro e w1 ⟨rfl, k1⟩; (first | replace k0 := k0.trans k1 | replace k0 := (k0.alloc _).trans k1); clear k1) | (go_at_call 38; refine (shift_r _ _ _ _ _).mono ?_; rintro e w1 ⟨rfl, k1⟩; (first | replace k0 := k0.trans k1 | replace k0 := (k0.alloc _).trans k1); clear k1) | (go_at_call 23; refine (wrap_n _ _ _).mono ?_; rintro e w' ⟨rfl, hw⟩; subst w') | (go_at_call 16; refine (nwidth_at 8 8 rfl _).mono ?_; rintro e w' ⟨rfl, hw⟩; subst w'))
      go_roundw
      case rel => exact ⟨2, by omega, rfl, k0⟩
      case measure => simp [intOf]
    · go_wp2
      go_ret
      exact ⟨rfl, k0⟩

set_option maxHeartbeats 2000000 in
theorem moves9 (s : ByteArray) (f u a n : Int) (w : World) (hN : NamesAt w) (hv : f % 3 = 1) : Calls Tryd.prog 8 #[.string s, .int .i64 f, .int .i64 u, .int .i64 a, .int .i64 n] w fun e w' => e = .returned (.bool true) ∧ Kept w w' := by
  have k0 := Kept.refl w
  have HV : Hid (f % 3 = 1) := hv
  clear hv
  have e1 : shv ⟨#[82, 79, 82]⟩ 9 (shv ⟨#[82, 79, 76]⟩ 9 a n) n = wr 9 a := turns9 a n
  obtain ⟨m1, m2, m3, m4, m5, m6⟩ := moves_ends (k := 9) (by decide) a
  have m1 : shv ⟨#[83, 72, 76]⟩ 9 a 16 = 0 := m1
  have m2 : shv ⟨#[83, 72, 82]⟩ 9 a 16 = 0 := m2
  have m3 : shv ⟨#[83, 72, 76]⟩ 9 a 0 = wr 9 a := m3
  have m4 : shv ⟨#[83, 72, 82]⟩ 9 a 0 = wr 9 a := m4
  have m5 : shv ⟨#[83, 72, 76]⟩ 9 a (-1) = wr 9 a := m5
  have m6 : shv ⟨#[83, 72, 82]⟩ 9 a (-1) = wr 9 a := m6
  by_cases hlen : (20 : Int) < s.size
  · go_enter Tryd.func8, Tryd.ntmps8
    go_wp2_with (go_at_call 9; refine (known_n _ hN).mono ?_; rintro e w' ⟨rfl, hw⟩; subst w')
    go_ret
    exact ⟨rfl, k0⟩
  go_enter Tryd.func8, Tryd.ntmps8
  go_wp2_with (first | (go_at_call 9; refine (known_n _ hN).mono ?_; rintro e w' ⟨rfl, hw⟩; subst w') | (go_at_call 22; refine (place_at _ _ _ HV.out _ (by decide) (by decide)).mono ?_; rintro e w' ⟨rfl, hw⟩; subst w') | (go_at_call 35; refine (conv_n _ _ _ _).mono ?_; rintro e w' ⟨rfl, hw⟩; subst w') | (go_at_call 36; refine (conv_r _ _ _ _).mono ?_; rintro e w1 ⟨rfl, k1⟩; replace k0 := k0.trans k1; clear k1) | (go_at_call 37; refine (shift_n _ _ _ _ _).mono ?_; rintro e w1 ⟨rfl, k1⟩; replace k0 := k0.trans k1; clear k1) | (go_at_call 38; refine (shift_r _ _ _ _ _).mono ?_; rintro e w1 ⟨rfl, k1⟩; replace k0 := k0.trans k1; clear k1) | (go_at_call 23; refine (wrap_n _ _ _).mono ?_; rintro e w' ⟨rfl, hw⟩; subst w') | (go_at_call 16; refine (nwidth_at 9 16 rfl _).mono ?_; rintro e w' ⟨rfl, hw⟩; subst w'))
  go_loopw [12] (fun i wr => ∃ j : Nat, j ≤ 2 ∧ i = .int .i64 j ∧ Kept w wr) (fun i _ => 2 - (intOf i).toNat)
  case atStart => exact ⟨0, by omega, rfl, k0⟩
  case round =>
    clear k0
    obtain ⟨j, hj, rfl, k0⟩ := hrel
    have hc : j = 0 ∨ j = 1 ∨ j = 2 := by omega
    rcases hc with rfl | rfl | rfl
    · go_wp2_with (first | (go_at_call 9; refine (known_n _ hN).mono ?_; rintro e w' ⟨rfl, hw⟩; subst w') | (go_at_call 22; refine (place_at _ _ _ HV.out _ (by decide) (by decide)).mono ?_; rintro e w' ⟨rfl, hw⟩; subst w') | (go_at_call 35; refine (conv_n _ _ _ _).mono ?_; rintro e w' ⟨rfl, hw⟩; subst w') | (go_at_call 36; refine (conv_r _ _ _ _).mono ?_; rintro e w1 ⟨rfl, k1⟩; (first | replace k0 := k0.trans k1 | replace k0 := (k0.alloc _).trans k1); clear k1) | (go_at_call 37; refine (shift_n _ _ _ _ _).mono ?_; rintro e w1 ⟨rfl, k1⟩; (first | replace k0 := k0.trans k1 | replace k0 := (k0.alloc _).trans k1); clear k1) | (go_at_call 38; refine (shift_r _ _ _ _ _).mono ?_; rintro e w1 ⟨rfl, k1⟩; (first | replace k0 := k0.trans k1 | replace k0 := (k0.alloc _).trans k1); clear k1) | (go_at_call 23; refine (wrap_n _ _ _).mono ?_; rintro e w' ⟨rfl, hw⟩; subst w') | (go_at_call 16; refine (nwidth_at 9 16 rfl _).mono ?_; rintro e w' ⟨rfl, hw⟩; subst w'))
      go_roundw
      case rel => exact ⟨1, by omega, rfl, k0⟩
      case measure => simp [intOf]
    · go_wp2_with (first | (go_at_call 9; refine (known_n _ hN).mono ?_; rintro e w' ⟨rfl, hw⟩; subst w') | (go_at_call 22; refine (place_at _ _ _ HV.out _ (by decide) (by decide)).mono ?_; rintro e w' ⟨rfl, hw⟩; subst w') | (go_at_call 35; refine (conv_n _ _ _ _).mono ?_; rintro e w' ⟨rfl, hw⟩; subst w') | (go_at_call 36; refine (conv_r _ _ _ _).mono ?_; rintro e w1 ⟨rfl, k1⟩; (first | replace k0 := k0.trans k1 | replace k0 := (k0.alloc _).trans k1); clear k1) | (go_at_call 37; refine (shift_n _ _ _ _ _).mono ?_; rintro e w1 ⟨rfl, k1⟩; (first | replace k0 := k0.trans k1 | replace k0 := (k0.alloc _).trans k1); clear k1) | (go_at_call 38; refine (shift_r _ _ _ _ _).mono ?_; rintro e w1 ⟨rfl, k1⟩; (first | replace k0 := k0.trans k1 | replace k0 := (k0.alloc _).trans k1); clear k1) | (go_at_call 23; refine (wrap_n _ _ _).mono ?_; rintro e w' ⟨rfl, hw⟩; subst w') | (go_at_call 16; refine (nwidth_at 9 16 rfl _).mono ?_; rintro e w' ⟨rfl, hw⟩; subst w'))
      go_roundw
      case rel => exact ⟨2, by omega, rfl, k0⟩
      case measure => simp [intOf]
    · go_wp2
      go_ret
      exact ⟨rfl, k0⟩

set_option maxHeartbeats 2000000 in
theorem moves10 (s : ByteArray) (f u a n : Int) (w : World) (hN : NamesAt w) (hv : f % 3 = 2) : Calls Tryd.prog 8 #[.string s, .int .i64 f, .int .i64 u, .int .i64 a, .int .i64 n] w fun e w' => e = .returned (.bool true) ∧ Kept w w' := by
  have k0 := Kept.refl w
  have HV : Hid (f % 3 = 2) := hv
  clear hv
  have e1 : shv ⟨#[82, 79, 82]⟩ 10 (shv ⟨#[82, 79, 76]⟩ 10 a n) n = wr 10 a := turns10 a n
  obtain ⟨m1, m2, m3, m4, m5, m6⟩ := moves_ends (k := 10) (by decide) a
  have m1 : shv ⟨#[83, 72, 76]⟩ 10 a 32 = 0 := m1
  have m2 : shv ⟨#[83, 72, 82]⟩ 10 a 32 = 0 := m2
  have m3 : shv ⟨#[83, 72, 76]⟩ 10 a 0 = wr 10 a := m3
  have m4 : shv ⟨#[83, 72, 82]⟩ 10 a 0 = wr 10 a := m4
  have m5 : shv ⟨#[83, 72, 76]⟩ 10 a (-1) = wr 10 a := m5
  have m6 : shv ⟨#[83, 72, 82]⟩ 10 a (-1) = wr 10 a := m6
  by_cases hlen : (20 : Int) < s.size
  · go_enter Tryd.func8, Tryd.ntmps8
    go_wp2_with (go_at_call 9; refine (known_n _ hN).mono ?_; rintro e w' ⟨rfl, hw⟩; subst w')
    go_ret
    exact ⟨rfl, k0⟩
  go_enter Tryd.func8, Tryd.ntmps8
  go_wp2_with (first | (go_at_call 9; refine (known_n _ hN).mono ?_; rintro e w' ⟨rfl, hw⟩; subst w') | (go_at_call 22; refine (place_at _ _ _ HV.out _ (by decide) (by decide)).mono ?_; rintro e w' ⟨rfl, hw⟩; subst w') | (go_at_call 35; refine (conv_n _ _ _ _).mono ?_; rintro e w' ⟨rfl, hw⟩; subst w') | (go_at_call 36; refine (conv_r _ _ _ _).mono ?_; rintro e w1 ⟨rfl, k1⟩; replace k0 := k0.trans k1; clear k1) | (go_at_call 37; refine (shift_n _ _ _ _ _).mono ?_; rintro e w1 ⟨rfl, k1⟩; replace k0 := k0.trans k1; clear k1) | (go_at_call 38; refine (shift_r _ _ _ _ _).mono ?_; rintro e w1 ⟨rfl, k1⟩; replace k0 := k0.trans k1; clear k1) | (go_at_call 23; refine (wrap_n _ _ _).mono ?_; rintro e w' ⟨rfl, hw⟩; subst w') | (go_at_call 16; refine (nwidth_at 10 32 rfl _).mono ?_; rintro e w' ⟨rfl, hw⟩; subst w'))
  go_loopw [12] (fun i wr => ∃ j : Nat, j ≤ 2 ∧ i = .int .i64 j ∧ Kept w wr) (fun i _ => 2 - (intOf i).toNat)
  case atStart => exact ⟨0, by omega, rfl, k0⟩
  case round =>
    clear k0
    obtain ⟨j, hj, rfl, k0⟩ := hrel
    have hc : j = 0 ∨ j = 1 ∨ j = 2 := by omega
    rcases hc with rfl | rfl | rfl
    · go_wp2_with (first | (go_at_call 9; refine (known_n _ hN).mono ?_; rintro e w' ⟨rfl, hw⟩; subst w') | (go_at_call 22; refine (place_at _ _ _ HV.out _ (by decide) (by decide)).mono ?_; rintro e w' ⟨rfl, hw⟩; subst w') | (go_at_call 35; refine (conv_n _ _ _ _).mono ?_; rintro e w' ⟨rfl, hw⟩; subst w') | (go_at_call 36; refine (conv_r _ _ _ _).mono ?_; rintro e w1 ⟨rfl, k1⟩; (first | replace k0 := k0.trans k1 | replace k0 := (k0.alloc _).trans k1); clear k1) | (go_at_call 37; refine (shift_n _ _ _ _ _).mono ?_; rintro e w1 ⟨rfl, k1⟩; (first | replace k0 := k0.trans k1 | replace k0 := (k0.alloc _).trans k1); clear k1) | (go_at_call 38; refine (shift_r _ _ _ _ _).mono ?_; rintro e w1 ⟨rfl, k1⟩; (first | replace k0 := k0.trans k1 | replace k0 := (k0.alloc _).trans k1); clear k1) | (go_at_call 23; refine (wrap_n _ _ _).mono ?_; rintro e w' ⟨rfl, hw⟩; subst w') | (go_at_call 16; refine (nwidth_at 10 32 rfl _).mono ?_; rintro e w' ⟨rfl, hw⟩; subst w'))
      go_roundw
      case rel => exact ⟨1, by omega, rfl, k0⟩
      case measure => simp [intOf]
    · go_wp2_with (first | (go_at_call 9; refine (known_n _ hN).mono ?_; rintro e w' ⟨rfl, hw⟩; subst w') | (go_at_call 22; refine (place_at _ _ _ HV.out _ (by decide) (by decide)).mono ?_; rintro e w' ⟨rfl, hw⟩; subst w') | (go_at_call 35; refine (conv_n _ _ _ _).mono ?_; rintro e w' ⟨rfl, hw⟩; subst w') | (go_at_call 36; refine (conv_r _ _ _ _).mono ?_; rintro e w1 ⟨rfl, k1⟩; (first | replace k0 := k0.trans k1 | replace k0 := (k0.alloc _).trans k1); clear k1) | (go_at_call 37; refine (shift_n _ _ _ _ _).mono ?_; rintro e w1 ⟨rfl, k1⟩; (first | replace k0 := k0.trans k1 | replace k0 := (k0.alloc _).trans k1); clear k1) | (go_at_call 38; refine (shift_r _ _ _ _ _).mono ?_; rintro e w1 ⟨rfl, k1⟩; (first | replace k0 := k0.trans k1 | replace k0 := (k0.alloc _).trans k1); clear k1) | (go_at_call 23; refine (wrap_n _ _ _).mono ?_; rintro e w' ⟨rfl, hw⟩; subst w') | (go_at_call 16; refine (nwidth_at 10 32 rfl _).mono ?_; rintro e w' ⟨rfl, hw⟩; subst w'))
      go_roundw
      case rel => exact ⟨2, by omega, rfl, k0⟩
      case measure => simp [intOf]
    · go_wp2
      go_ret
      exact ⟨rfl, k0⟩

theorem moves_all (s : ByteArray) (f u a n : Int) (w : World) (hN : NamesAt w) : Calls Tryd.prog 8 #[.string s, .int .i64 f, .int .i64 u, .int .i64 a, .int .i64 n] w fun e w' => e = .returned (.bool true) ∧ Kept w w' := by
  have hc : f % 3 = 0 ∨ f % 3 = 1 ∨ f % 3 = 2 := by omega
  rcases hc with h | h | h
  · exact moves8 s f u a n w hN h
  · exact moves9 s f u a n w hN h
  · exact moves10 s f u a n w hN h
end Go.Proofs.YtonbbibnledleaaDoor
