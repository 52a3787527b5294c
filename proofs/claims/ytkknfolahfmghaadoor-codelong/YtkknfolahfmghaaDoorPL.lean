/- The help's Place (stage 20). -/
import Derived.Test.YtkknfolahfmghaaDoorF1
namespace Go.Proofs.YtkknfolahfmghaaDoor
open Go.RowKit
theorem tmod_3 (k : Int) : (k.tmod 3 < 0 ∧ -3 < k.tmod 3 ∧ k.tmod 3 + 3 = k % 3) ∨ (¬ k.tmod 3 < 0 ∧ k.tmod 3 = k % 3) := by
  by_cases h : 0 ≤ k
  · rw [Int.tmod_eq_emod_of_nonneg h]; omega
  · have e : k.tmod 3 = -((-k) % 3) := by
      have := Int.neg_tmod (-k) 3
      rw [Int.neg_neg] at this
      rw [this, Int.tmod_eq_emod_of_nonneg (by omega)]
    rw [e]; omega
set_option maxHeartbeats 400000 in
theorem place_3 (k : Int) (w : World) : Calls Tryd.prog 18 #[.int .i64 k, .int .i64 3] w fun e w' => ∃ q : Nat, q < 3 ∧ e = .returned (.int .i64 (q : Int)) ∧ w' = w := by
  obtain ⟨q, hq⟩ : ∃ q : Nat, (q : Int) = k % 3 := ⟨(k % 3).toNat, by omega⟩
  have hl : q < 3 := by omega
  rcases tmod_3 k with ⟨h, h2, h3⟩ | ⟨h, h3⟩
  · have HQ := hid_as (h3.trans hq.symm)
    clear hq h3
    go_enter Tryd.func18, Tryd.ntmps18
    go_wp2
    go_ret
    exact ⟨q, hl, ret_int HQ.out, rfl⟩
  · have HQ := hid_as (h3.trans hq.symm)
    clear hq h3
    go_enter Tryd.func18, Tryd.ntmps18
    go_wp2
    go_ret
    exact ⟨q, hl, ret_int HQ.out, rfl⟩
theorem tmod_20 (k : Int) : (k.tmod 20 < 0 ∧ -20 < k.tmod 20 ∧ k.tmod 20 + 20 = k % 20) ∨ (¬ k.tmod 20 < 0 ∧ k.tmod 20 = k % 20) := by
  by_cases h : 0 ≤ k
  · rw [Int.tmod_eq_emod_of_nonneg h]; omega
  · have e : k.tmod 20 = -((-k) % 20) := by
      have := Int.neg_tmod (-k) 20
      rw [Int.neg_neg] at this
      rw [this, Int.tmod_eq_emod_of_nonneg (by omega)]
    rw [e]; omega
set_option maxHeartbeats 400000 in
theorem place_20 (k : Int) (w : World) : Calls Tryd.prog 18 #[.int .i64 k, .int .i64 20] w fun e w' => ∃ q : Nat, q < 20 ∧ e = .returned (.int .i64 (q : Int)) ∧ w' = w := by
  obtain ⟨q, hq⟩ : ∃ q : Nat, (q : Int) = k % 20 := ⟨(k % 20).toNat, by omega⟩
  have hl : q < 20 := by omega
  rcases tmod_20 k with ⟨h, h2, h3⟩ | ⟨h, h3⟩
  · have HQ := hid_as (h3.trans hq.symm)
    clear hq h3
    go_enter Tryd.func18, Tryd.ntmps18
    go_wp2
    go_ret
    exact ⟨q, hl, ret_int HQ.out, rfl⟩
  · have HQ := hid_as (h3.trans hq.symm)
    clear hq h3
    go_enter Tryd.func18, Tryd.ntmps18
    go_wp2
    go_ret
    exact ⟨q, hl, ret_int HQ.out, rfl⟩
theorem tmod_260 (k : Int) : (k.tmod 260 < 0 ∧ -260 < k.tmod 260 ∧ k.tmod 260 + 260 = k % 260) ∨ (¬ k.tmod 260 < 0 ∧ k.tmod 260 = k % 260) := by
  by_cases h : 0 ≤ k
  · rw [Int.tmod_eq_emod_of_nonneg h]; omega
  · have e : k.tmod 260 = -((-k) % 260) := by
      have := Int.neg_tmod (-k) 260
      rw [Int.neg_neg] at this
      rw [this, Int.tmod_eq_emod_of_nonneg (by omega)]
    rw [e]; omega
set_option maxHeartbeats 400000 in
theorem place_260 (k : Int) (w : World) : Calls Tryd.prog 18 #[.int .i64 k, .int .i64 260] w fun e w' => ∃ q : Nat, q < 260 ∧ e = .returned (.int .i64 (q : Int)) ∧ w' = w := by
  obtain ⟨q, hq⟩ : ∃ q : Nat, (q : Int) = k % 260 := ⟨(k % 260).toNat, by omega⟩
  have hl : q < 260 := by omega
  rcases tmod_260 k with ⟨h, h2, h3⟩ | ⟨h, h3⟩
  · have HQ := hid_as (h3.trans hq.symm)
    clear hq h3
    go_enter Tryd.func18, Tryd.ntmps18
    go_wp2
    go_ret
    exact ⟨q, hl, ret_int HQ.out, rfl⟩
  · have HQ := hid_as (h3.trans hq.symm)
    clear hq h3
    go_enter Tryd.func18, Tryd.ntmps18
    go_wp2
    go_ret
    exact ⟨q, hl, ret_int HQ.out, rfl⟩
theorem tmod_300 (k : Int) : (k.tmod 300 < 0 ∧ -300 < k.tmod 300 ∧ k.tmod 300 + 300 = k % 300) ∨ (¬ k.tmod 300 < 0 ∧ k.tmod 300 = k % 300) := by
  by_cases h : 0 ≤ k
  · rw [Int.tmod_eq_emod_of_nonneg h]; omega
  · have e : k.tmod 300 = -((-k) % 300) := by
      have := Int.neg_tmod (-k) 300
      rw [Int.neg_neg] at this
      rw [this, Int.tmod_eq_emod_of_nonneg (by omega)]
    rw [e]; omega
set_option maxHeartbeats 400000 in
theorem place_300 (k : Int) (w : World) : Calls Tryd.prog 18 #[.int .i64 k, .int .i64 300] w fun e w' => ∃ q : Nat, q < 300 ∧ e = .returned (.int .i64 (q : Int)) ∧ w' = w := by
  obtain ⟨q, hq⟩ : ∃ q : Nat, (q : Int) = k % 300 := ⟨(k % 300).toNat, by omega⟩
  have hl : q < 300 := by omega
  rcases tmod_300 k with ⟨h, h2, h3⟩ | ⟨h, h3⟩
  · have HQ := hid_as (h3.trans hq.symm)
    clear hq h3
    go_enter Tryd.func18, Tryd.ntmps18
    go_wp2
    go_ret
    exact ⟨q, hl, ret_int HQ.out, rfl⟩
  · have HQ := hid_as (h3.trans hq.symm)
    clear hq h3
    go_enter Tryd.func18, Tryd.ntmps18
    go_wp2
    go_ret
    exact ⟨q, hl, ret_int HQ.out, rfl⟩
end Go.Proofs.YtkknfolahfmghaaDoor
