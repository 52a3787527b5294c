/- Bits moved, of any kind. -/
import Derived.Test.YtonbbibnledleaaDoorProg
import Derived.Test.YtonbbibnledleaaDoorPlain
import Derived.Test.YtonbbibnledleaaDoorWk21K8
import Derived.Test.YtonbbibnledleaaDoorWk21K9
import Derived.Test.YtonbbibnledleaaDoorWk21K10
import Derived.WalkKit
import Derived.WalkSpells
import Derived.WalkLawsBesides
namespace Go.Proofs.YtonbbibnledleaaDoor
open Go.RowKit
open Num

theorem not_text {s : ByteArray} {l : List UInt8} (h : ¬ s = ⟨l.toArray⟩) : (s.toList == l) = false := by
  refine beq_eq_false_iff_ne.2 fun q => h (text_inj ?_)
  rw [q, ByteArray.toList_mk]
set_option maxHeartbeats 2000000 in
theorem shift_n_none (s : ByteArray) (k a n : Int) (w : World) (hk : ¬ (k = 8 ∨ k = 9 ∨ k = 10)) : Calls Tryd.prog 37 #[.string s, .int .i64 k, .int .i64 a, .int .i64 n] w fun e w' => e = .returned (.int .i64 0) ∧ Kept w w' := by
  have k8 : (k == 8) = false := by simp; omega
  have k9 : (k == 9) = false := by simp; omega
  have k10 : (k == 10) = false := by simp; omega
  go_enter Tryd.func37, Tryd.ntmps37
  go_wp2
  go_ret
  exact ⟨rfl, Kept.refl _⟩

set_option maxHeartbeats 2000000 in
theorem shift_n_other8 (s : ByteArray) (a n : Int) (w : World) (h1 : (s.toList == [83, 72, 76]) = false) (h2 : (s.toList == [83, 72, 82]) = false) (h3 : (s.toList == [82, 79, 76]) = false) (h4 : (s.toList == [82, 79, 82]) = false) : Calls Tryd.prog 37 #[.string s, .int .i64 8, .int .i64 a, .int .i64 n] w fun e w' => e = .returned (.int .i64 0) ∧ Kept w w' := by
  have k0 := Kept.refl w
  go_enter Tryd.func37, Tryd.ntmps37
  go_wp2_with (first | (go_at_call 23; refine (wrap_n _ _ _).mono ?_; rintro e w' ⟨rfl, hw⟩; subst w') | (go_at_call 16; refine (nwidth_at 8 8 rfl _).mono ?_; rintro e w' ⟨rfl, hw⟩; subst w') | go_in)
  all_goals go_ret
  all_goals exact ⟨rfl, k0⟩

set_option maxHeartbeats 2000000 in
theorem shift_n_other9 (s : ByteArray) (a n : Int) (w : World) (h1 : (s.toList == [83, 72, 76]) = false) (h2 : (s.toList == [83, 72, 82]) = false) (h3 : (s.toList == [82, 79, 76]) = false) (h4 : (s.toList == [82, 79, 82]) = false) : Calls Tryd.prog 37 #[.string s, .int .i64 9, .int .i64 a, .int .i64 n] w fun e w' => e = .returned (.int .i64 0) ∧ Kept w w' := by
  have k0 := Kept.refl w
  go_enter Tryd.func37, Tryd.ntmps37
  go_wp2_with (first | (go_at_call 23; refine (wrap_n _ _ _).mono ?_; rintro e w' ⟨rfl, hw⟩; subst w') | (go_at_call 16; refine (nwidth_at 9 16 rfl _).mono ?_; rintro e w' ⟨rfl, hw⟩; subst w') | go_in)
  all_goals go_ret
  all_goals exact ⟨rfl, k0⟩

set_option maxHeartbeats 2000000 in
theorem shift_n_other10 (s : ByteArray) (a n : Int) (w : World) (h1 : (s.toList == [83, 72, 76]) = false) (h2 : (s.toList == [83, 72, 82]) = false) (h3 : (s.toList == [82, 79, 76]) = false) (h4 : (s.toList == [82, 79, 82]) = false) : Calls Tryd.prog 37 #[.string s, .int .i64 10, .int .i64 a, .int .i64 n] w fun e w' => e = .returned (.int .i64 0) ∧ Kept w w' := by
  have k0 := Kept.refl w
  go_enter Tryd.func37, Tryd.ntmps37
  go_wp2_with (first | (go_at_call 23; refine (wrap_n _ _ _).mono ?_; rintro e w' ⟨rfl, hw⟩; subst w') | (go_at_call 16; refine (nwidth_at 10 32 rfl _).mono ?_; rintro e w' ⟨rfl, hw⟩; subst w') | go_in)
  all_goals go_ret
  all_goals exact ⟨rfl, k0⟩

theorem shift_n (s : ByteArray) (k a n : Int) (w : World) : Calls Tryd.prog 37 #[.string s, .int .i64 k, .int .i64 a, .int .i64 n] w fun e w' => e = .returned (.int .i64 (shv s k a n)) ∧ Kept w w' := by
  by_cases hk : k = 8 ∨ k = 9 ∨ k = 10
  · by_cases h1 : s = tSHL
    · subst h1
      rcases hk with rfl | rfl | rfl
      · exact sh37_SHL_8 a n w
      · exact sh37_SHL_9 a n w
      · exact sh37_SHL_10 a n w
    by_cases h2 : s = tSHR
    · subst h2
      rcases hk with rfl | rfl | rfl
      · exact sh37_SHR_8 a n w
      · exact sh37_SHR_9 a n w
      · exact sh37_SHR_10 a n w
    by_cases h3 : s = tROL
    · subst h3
      rcases hk with rfl | rfl | rfl
      · exact sh37_ROL_8 a n w
      · exact sh37_ROL_9 a n w
      · exact sh37_ROL_10 a n w
    by_cases h4 : s = tROR
    · subst h4
      rcases hk with rfl | rfl | rfl
      · exact sh37_ROR_8 a n w
      · exact sh37_ROR_9 a n w
      · exact sh37_ROR_10 a n w
    rw [shv_other h1 h2 h3 h4]
    have e1 := not_text h1
    have e2 := not_text h2
    have e3 := not_text h3
    have e4 := not_text h4
    rcases hk with rfl | rfl | rfl
    · exact shift_n_other8 s a n w e1 e2 e3 e4
    · exact shift_n_other9 s a n w e1 e2 e3 e4
    · exact shift_n_other10 s a n w e1 e2 e3 e4
  · rw [shv_none s hk]
    exact shift_n_none s k a n w hk
end Go.Proofs.YtonbbibnledleaaDoor
