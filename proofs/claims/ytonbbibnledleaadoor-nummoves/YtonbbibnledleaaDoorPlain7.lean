/- Quotients and remainders. -/
import Derived.Test.YtonbbibnledleaaDoorPlain6
namespace Go.Proofs.YtonbbibnledleaaDoor
namespace Num
open Go.RowKit
theorem wr_stay {k n : Int} (h : 2 ≤ k ∧ k ≤ 11) (h1 : lo k ≤ n) (h2 : n ≤ hi k) : wr k n = n := by
  rcases kind_in h with rfl | rfl | rfl | rfl | rfl | rfl | rfl | rfl | rfl | rfl
  all_goals simp [lo] at h1
  all_goals simp [hi] at h2
  any_goals (show sw _ _ = _; unfold sw; omega)
  all_goals (show uw _ _ = _; unfold uw; omega)
theorem lo_le (k : Int) : -2147483648 ≤ lo k ∧ lo k ≤ 0 := by unfold lo; repeat' split; all_goals omega
theorem hi_le (k : Int) : 0 ≤ hi k ∧ hi k ≤ 4294967295 := by unfold hi; repeat' split; all_goals omega
theorem tmod_bounds (x y : Int) (hy : ¬ y = 0) : (x.tmod y).natAbs < y.natAbs ∧ (0 ≤ x → 0 ≤ x.tmod y ∧ x.tmod y ≤ x) ∧ (x ≤ 0 → x.tmod y ≤ 0 ∧ x ≤ x.tmod y) := by
  have e := Int.natAbs_tmod x y
  have l : (x.tmod y).natAbs < y.natAbs := by rw [e]; exact Nat.mod_lt _ (by omega)
  have m : (x.tmod y).natAbs ≤ x.natAbs := by rw [e]; exact Nat.mod_le _ _
  refine ⟨l, fun h => ?_, fun h => ?_⟩
  · have := Int.tmod_nonneg y h
    omega
  · have := Int.tmod_nonneg y (show 0 ≤ -x by omega)
    rw [Int.neg_tmod] at this
    omega
theorem div_facts {k : Int} (h : 2 ≤ k ∧ k ≤ 11) (a b : Int) (hy : ¬ wr k b = 0) :
    apf 6 k (wr k b) = 0 ∧ apf 7 k (wr k b) = 0 ∧ apv 7 k (wr k a) (wr k b) = (wr k a).tmod (wr k b) ∧ apv 8 k (apv 5 k (apv 6 k (wr k a) (wr k b)) (wr k b)) ((wr k a).tmod (wr k b)) = wr k a := by
  have y2 := wr_wr k b
  have x2 := wr_wr k a
  have xl := wr_lo k a
  have xh := wr_hi k a
  have l0 := lo_le k
  have h0 := hi_le k
  obtain ⟨t1, t2, t3⟩ := tmod_bounds (wr k a) (wr k b) hy
  have hr : wr k ((wr k a).tmod (wr k b)) = (wr k a).tmod (wr k b) := wr_stay h (by omega) (by omega)
  refine ⟨?_, ?_, ?_, ?_⟩
  · unfold apf; rw [sc_in h, if_pos rfl, y2]; exact opf_not hy
  · unfold apf; rw [sc_in h, if_pos rfl, y2]; exact opf_not hy
  · rw [apv_sc h, x2, y2, opv_mod hy, hr]
  · rw [apv_sc h 6, x2, y2, opv_div hy, add_is h, mul_is h]
    have e : wr k a = wr k b * (wr k a).tdiv (wr k b) + (wr k a).tmod (wr k b) := (Int.mul_tdiv_add_tmod _ _).symm
    refine Eq.trans (wr_eq h ?_) x2
    have e2 : (wr k (wr k (wrap64 ((wr k a).tdiv (wr k b))) * wr k b) + (wr k a).tmod (wr k b)) % md k = ((wr k a).tdiv (wr k b) * wr k b + (wr k a).tmod (wr k b)) % md k :=
      mod_add ((wr_mod h _).trans (mod_mul ((wr_mod h _).trans (wrap64_mod h _)) rfl)) rfl
    rw [e2, Int.mul_comm, ← e]
theorem div_zero {k : Int} (h : 2 ≤ k ∧ k ≤ 11) (x : Int) : apf 6 k 0 = 1 ∧ apf 7 k 0 = 1 ∧ apv 6 k x 0 = 0 ∧ apv 7 k x 0 = 0 := by
  refine ⟨?_, ?_, ?_, ?_⟩
  · unfold apf; rw [sc_in h, if_pos rfl, wr_zero]; rfl
  · unfold apf; rw [sc_in h, if_pos rfl, wr_zero]; rfl
  · rw [apv_sc h, wr_zero, opv_div0]
  · rw [apv_sc h, wr_zero, opv_mod0]
end Num
end Go.Proofs.YtonbbibnledleaaDoor
