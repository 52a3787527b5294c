/- The law of division. -/
import Derived.Test.YtonbbibnledleaaDoorProg
import Derived.Test.YtonbbibnledleaaDoorPlain
import Derived.Test.YtonbbibnledleaaDoorPlain7
import Derived.Test.YtonbbibnledleaaDoorWk9
import Derived.Test.YtonbbibnledleaaDoorWk12
import Derived.Test.YtonbbibnledleaaDoorWk13
import Derived.WalkKit
import Derived.WalkSpells
import Derived.WalkLawsBesides
namespace Go.Proofs.YtonbbibnledleaaDoor
open Go.RowKit
open Num

set_option maxHeartbeats 2000000 in
theorem abs_n (n : Int) (w : World) (h1 : -9000000000 < n) (h2 : n < 9000000000) : Calls Tryd.prog 31 #[.int .i64 n] w fun e w' => e = .returned (.int .i64 (n.natAbs : Int)) ∧ w' = w := by
  go_enter Tryd.func31, Tryd.ntmps31
  go_wp2
  all_goals go_ret
  all_goals exact ⟨ret_int (by omega), rfl⟩

set_option maxHeartbeats 2000000 in
theorem divides_all (kind a b : Int) (w : World) (hN : NamesAt w) : Calls Tryd.prog 6 #[.int .i64 kind, .int .i64 a, .int .i64 b] w fun e w' => e = .returned (.bool true) ∧ w' = w := by
  obtain ⟨v, hv⟩ : ∃ v, kind % 6 = v := ⟨_, rfl⟩
  have v0 : 0 ≤ v := by omega
  have v1 : v < 6 := by omega
  have HV : Hid (kind % 6 = v) := hv
  clear hv
  have h : 2 ≤ 2 + v ∧ 2 + v ≤ 11 := by omega
  by_cases hy : wr (2 + v) b = 0
  · obtain ⟨e1, e2, e3, e4⟩ := div_zero h (wr (2 + v) a)
    clear h
    go_enter Tryd.func6, Tryd.ntmps6
    go_wp2_with (first | (go_at_call 9; refine (known_n _ hN).mono ?_; rintro e w' ⟨rfl, hw⟩; subst w') | (go_at_call 22; refine (place_at _ _ _ HV.out _ (by decide) (by decide)).mono ?_; rintro e w' ⟨rfl, hw⟩; subst w') | (go_at_call 23; refine (wrap_n _ _ _).mono ?_; rintro e w' ⟨rfl, hw⟩; subst w') | (go_at_call 25; refine (apply_n _ _ _ _ _).mono ?_; rintro e w' ⟨rfl, hw⟩; subst w'))
    go_ret
    exact ⟨rfl, rfl⟩
  · obtain ⟨e1, e2, e3, e4⟩ := div_facts h a b hy
    obtain ⟨t1, t2, t3⟩ := tmod_bounds (wr (2 + v) a) (wr (2 + v) b) hy
    obtain ⟨r, hr⟩ : ∃ r, (wr (2 + v) a).tmod (wr (2 + v) b) = r := ⟨_, rfl⟩
    rw [hr] at e3 e4 t1 t2 t3
    clear hr
    have xl := wr_lo (2 + v) a
    have xh := wr_hi (2 + v) a
    have yl := wr_lo (2 + v) b
    have yh := wr_hi (2 + v) b
    have l0 := lo_le (2 + v)
    have h0 := hi_le (2 + v)
    have B2 : Hid (-9000000000 < wr (2 + v) b ∧ wr (2 + v) b < 9000000000) := (by omega : _ ∧ _)
    have B1 : Hid (-9000000000 < r ∧ r < 9000000000) := (by omega : _ ∧ _)
    have t4 : (r.natAbs : Int) < ((wr (2 + v) b).natAbs : Int) := by omega
    by_cases hz : r = 0
    · subst hz
      clear h t1 t2 t3 xl xh yl yh l0 h0
      go_enter Tryd.func6, Tryd.ntmps6
      go_wp2_with (first | (go_at_call 9; refine (known_n _ hN).mono ?_; rintro e w' ⟨rfl, hw⟩; subst w') | (go_at_call 22; refine (place_at _ _ _ HV.out _ (by decide) (by decide)).mono ?_; rintro e w' ⟨rfl, hw⟩; subst w') | (go_at_call 23; refine (wrap_n _ _ _).mono ?_; rintro e w' ⟨rfl, hw⟩; subst w') | (go_at_call 25; refine (apply_n _ _ _ _ _).mono ?_; rintro e w' ⟨rfl, hw⟩; subst w') | (go_at_call 31; refine (abs_n _ _ B1.out.1 B1.out.2).mono ?_; rintro e w' ⟨rfl, hw⟩; subst w') | (go_at_call 31; refine (abs_n _ _ B2.out.1 B2.out.2).mono ?_; rintro e w' ⟨rfl, hw⟩; subst w'))
      go_ret
      exact ⟨rfl, rfl⟩
    by_cases hx : wr (2 + v) a < 0
    · have hr : r < 0 := by omega
      clear h t1 t2 t3 xl xh yl yh l0 h0
      go_enter Tryd.func6, Tryd.ntmps6
      go_wp2_with (first | (go_at_call 9; refine (known_n _ hN).mono ?_; rintro e w' ⟨rfl, hw⟩; subst w') | (go_at_call 22; refine (place_at _ _ _ HV.out _ (by decide) (by decide)).mono ?_; rintro e w' ⟨rfl, hw⟩; subst w') | (go_at_call 23; refine (wrap_n _ _ _).mono ?_; rintro e w' ⟨rfl, hw⟩; subst w') | (go_at_call 25; refine (apply_n _ _ _ _ _).mono ?_; rintro e w' ⟨rfl, hw⟩; subst w') | (go_at_call 31; refine (abs_n _ _ B1.out.1 B1.out.2).mono ?_; rintro e w' ⟨rfl, hw⟩; subst w') | (go_at_call 31; refine (abs_n _ _ B2.out.1 B2.out.2).mono ?_; rintro e w' ⟨rfl, hw⟩; subst w'))
      go_ret
      exact ⟨rfl, rfl⟩
    · have hr : 0 < r := by omega
      have t5 : (r == 0 || decide (r < 0) == decide (wr (2 + v) a < 0)) = true := by simp [hx]; omega
      have T5 : Hid ((r == 0 || decide (r < 0) == decide (wr (2 + v) a < 0)) = true) := t5
      clear h t1 t2 t3 t5 xl xh yl yh l0 h0
      go_enter Tryd.func6, Tryd.ntmps6
      go_wp2_with (first | (go_at_call 9; refine (known_n _ hN).mono ?_; rintro e w' ⟨rfl, hw⟩; subst w') | (go_at_call 22; refine (place_at _ _ _ HV.out _ (by decide) (by decide)).mono ?_; rintro e w' ⟨rfl, hw⟩; subst w') | (go_at_call 23; refine (wrap_n _ _ _).mono ?_; rintro e w' ⟨rfl, hw⟩; subst w') | (go_at_call 25; refine (apply_n _ _ _ _ _).mono ?_; rintro e w' ⟨rfl, hw⟩; subst w') | (go_at_call 31; refine (abs_n _ _ B1.out.1 B1.out.2).mono ?_; rintro e w' ⟨rfl, hw⟩; subst w') | (go_at_call 31; refine (abs_n _ _ B2.out.1 B2.out.2).mono ?_; rintro e w' ⟨rfl, hw⟩; subst w'))
      go_ret
      exact ⟨ret_bool T5.out, rfl⟩
theorem divides_kept (kind a b : Int) (w : World) (hN : NamesAt w) : Calls Tryd.prog 6 #[.int .i64 kind, .int .i64 a, .int .i64 b] w fun e w' => e = .returned (.bool true) ∧ Kept w w' :=
  (divides_all kind a b w hN).mono fun e w' h => ⟨h.1, by rw [h.2]; exact Kept.refl _⟩
end Go.Proofs.YtonbbibnledleaaDoor
