/- The walks of the reference's Get, Get2, Put, Set (stage 11). -/
import Derived.Test.YtlokdkpfeckdoaaDoorI2
namespace Go.Proofs.YtlokdkpfeckdoaaDoor
open Go.RowKit
open Adr
set_option maxHeartbeats 800000 in
theorem rget_no (a n : Int) (p : Value) (w : World) (h : hasI a n = false) : Calls Tryd.prog 20 #[p, .int .i64 a, .int .i64 n] w fun e w' => e = .returned (.tuple #[.int .u16 0, .int .i64 110]) ∧ w' = w := by
  go_enter Tryd.func20, Tryd.ntmps20
  go_wp2_with (go_at_call 28; refine (is_c _ _ _).mono ?_; rintro e w' ⟨rfl, hw⟩; subst w'; rw [h])
  go_ret2
  exact ⟨rfl, rfl⟩
set_option maxHeartbeats 800000 in
theorem rget_yes (k i g x : Nat) (w : World) (h : hasI k i = true) (hk : k < 7) (hi : i < 128) (hc : w.cell? ⟨g, k * 128 + i, none⟩ = some (.int .u16 (x : Int))) : Calls Tryd.prog 20 #[.pointer (some ⟨g, 0, none⟩), .int .i64 (k : Int), .int .i64 (i : Int)] w fun e w' => e = .returned (.tuple #[.int .u16 (x : Int), .int .i64 0]) ∧ w' = w := by
  have hk' : (k : Int) < 7 := by omega
  have hi' : (i : Int) < 128 := by omega
  go_enter Tryd.func20, Tryd.ntmps20
  go_wp2_with (go_at_call 28; refine (is_c _ _ _).mono ?_; rintro e w' ⟨rfl, hw⟩; subst w'; rw [h])
  go_ret2
  exact ⟨rfl, rfl⟩
theorem rget_c (a n : Int) {w : World} {g : Nat} {s : IS} (t : Im w g s) : Calls Tryd.prog 20 #[.pointer (some ⟨g, 0, none⟩), .int .i64 a, .int .i64 n] w fun e w' => e = .returned (.tuple #[.int .u16 (gv s.o a n : Int), .int .i64 (ge a n)]) ∧ w' = w := by
  unfold ge gv
  by_cases h : hasI a n = true
  · obtain ⟨h0, h1, h2, h3, h4⟩ := hasI_yes h
    have hp := pl_lt h
    rw [if_pos h, if_pos h]
    obtain ⟨k, rfl⟩ : ∃ k : Nat, a = k := ⟨a.toNat, by omega⟩
    obtain ⟨i, rfl⟩ : ∃ i : Nat, n = i := ⟨n.toNat, by omega⟩
    have hc := t.out _ hp
    have ep : 0 + pl k i = k * 128 + i := by unfold pl; simp only [Int.toNat_natCast]; omega
    rw [ep] at hc
    exact rget_yes k i g _ w h (by omega) (by omega) hc
  · rw [if_neg h, if_neg h]
    exact rget_no a n _ w (by simpa using h)
set_option maxHeartbeats 800000 in
theorem rwork_no (a n : Int) (p : Value) (w : World) (h : hasI a n = false) : Calls Tryd.prog 34 #[p, .int .i64 a, .int .i64 n] w fun e w' => e = .returned (.tuple #[.int .u16 0, .int .i64 110]) ∧ w' = w := by
  go_enter Tryd.func34, Tryd.ntmps34
  go_wp2_with (go_at_call 28; refine (is_c _ _ _).mono ?_; rintro e w' ⟨rfl, hw⟩; subst w'; rw [h])
  go_ret2
  exact ⟨rfl, rfl⟩
set_option maxHeartbeats 800000 in
theorem rwork_yes (k i g x : Nat) (w : World) (h : hasI k i = true) (hk : k < 7) (hi : i < 128) (hc : w.cell? ⟨g, 896 + k * 128 + i, none⟩ = some (.int .u16 (x : Int))) : Calls Tryd.prog 34 #[.pointer (some ⟨g, 0, none⟩), .int .i64 (k : Int), .int .i64 (i : Int)] w fun e w' => e = .returned (.tuple #[.int .u16 (x : Int), .int .i64 0]) ∧ w' = w := by
  have hk' : (k : Int) < 7 := by omega
  have hi' : (i : Int) < 128 := by omega
  go_enter Tryd.func34, Tryd.ntmps34
  go_wp2_with (go_at_call 28; refine (is_c _ _ _).mono ?_; rintro e w' ⟨rfl, hw⟩; subst w'; rw [h])
  go_ret2
  exact ⟨rfl, rfl⟩
theorem rwork_c (a n : Int) {w : World} {g : Nat} {s : IS} (t : Im w g s) : Calls Tryd.prog 34 #[.pointer (some ⟨g, 0, none⟩), .int .i64 a, .int .i64 n] w fun e w' => e = .returned (.tuple #[.int .u16 (gv s.k a n : Int), .int .i64 (ge a n)]) ∧ w' = w := by
  unfold ge gv
  by_cases h : hasI a n = true
  · obtain ⟨h0, h1, h2, h3, h4⟩ := hasI_yes h
    have hp := pl_lt h
    rw [if_pos h, if_pos h]
    obtain ⟨k, rfl⟩ : ∃ k : Nat, a = k := ⟨a.toNat, by omega⟩
    obtain ⟨i, rfl⟩ : ∃ i : Nat, n = i := ⟨n.toNat, by omega⟩
    have hc := t.wrk _ hp
    have ep : 896 + pl k i = 896 + k * 128 + i := by unfold pl; simp only [Int.toNat_natCast]; omega
    rw [ep] at hc
    exact rwork_yes k i g _ w h (by omega) (by omega) hc
  · rw [if_neg h, if_neg h]
    exact rwork_no a n _ w (by simpa using h)
set_option maxHeartbeats 800000 in
theorem rput_no (a n : Int) (v : Nat) (p : Value) (w : World) (h : hasI a n = false) : Calls Tryd.prog 9 #[p, .int .i64 a, .int .i64 n, .int .u16 (v : Int)] w fun e w' => e = .returned (.int .i64 110) ∧ w' = w := by
  go_enter Tryd.func9, Tryd.ntmps9
  go_wp2_with (go_at_call 28; refine (is_c _ _ _).mono ?_; rintro e w' ⟨rfl, hw⟩; subst w'; rw [h])
  go_ret
  exact ⟨rfl, rfl⟩
set_option maxHeartbeats 1600000 in
theorem rput_yes (k i g v x : Nat) (w : World) (h : hasI k i = true) (hk : k < 7) (hi : i < 128) (hc : w.cell? ⟨g, k * 128 + i, none⟩ = some (.int .u16 (x : Int))) (hz : w.frozen? ⟨g, k * 128 + i, none⟩ = false) :
    Calls Tryd.prog 9 #[.pointer (some ⟨g, 0, none⟩), .int .i64 (k : Int), .int .i64 (i : Int), .int .u16 (v : Int)] w fun e w' => e = .returned (.int .i64 0) ∧ ∃ u, Same w u ∧ w' = u.setCell ⟨g, k * 128 + i, none⟩ (.int .u16 (bv k v : Int)) := by
  have hk' : (k : Int) < 7 := by omega
  have hi' : (i : Int) < 128 := by omega
  go_enter Tryd.func9, Tryd.ntmps9
  go_wp2_with (go_at_call 28; refine (is_c _ _ _).mono ?_; rintro e w' ⟨rfl, hw⟩; subst w'; rw [h])
  go_region_with (go_at_call 29; refine (bitv_c _ _ _).mono ?_; rintro e w' ⟨rfl, hw⟩; subst w')
  all_goals
    go_wp2
    go_ret
    exact ⟨rfl, _, Same.drew _, rfl⟩
theorem rput_c (a n : Int) (v : Nat) {w : World} {g : Nat} {s : IS} (t : Im w g s) : Calls Tryd.prog 9 #[.pointer (some ⟨g, 0, none⟩), .int .i64 a, .int .i64 n, .int .u16 (v : Int)] w fun e w' => e = .returned (.int .i64 (ge a n)) ∧ Im w' g (s.put a n v) ∧ Turn g w w' := by
  unfold ge IS.put
  by_cases h : hasI a n = true
  · obtain ⟨h0, h1, h2, h3, h4⟩ := hasI_yes h
    have hp := pl_lt h
    rw [if_pos h, if_pos h]
    obtain ⟨k, rfl⟩ : ∃ k : Nat, a = k := ⟨a.toNat, by omega⟩
    obtain ⟨i, rfl⟩ : ∃ i : Nat, n = i := ⟨n.toNat, by omega⟩
    have hc := t.out _ hp
    have ep : 0 + pl k i = k * 128 + i := by unfold pl; simp only [Int.toNat_natCast]; omega
    rw [ep] at hc
    refine (rput_yes k i g v _ w h (by omega) (by omega) hc (t.free _)).mono ?_
    rintro e w' ⟨rfl, u, hu, rfl⟩
    rw [← ep]
    exact ⟨rfl, by rw [Nat.zero_add]; exact (t.same hu).setO _ _ hp, (Turn.ofBelow hu.below).set _ _⟩
  · rw [if_neg h, if_neg h]
    refine (rput_no a n v _ w (by simpa using h)).mono ?_
    rintro e w' ⟨rfl, rfl⟩
    exact ⟨rfl, t, Turn.refl _ _⟩
set_option maxHeartbeats 800000 in
theorem rset_no (a n : Int) (v : Nat) (p : Value) (w : World) (h : hasI a n = false) : Calls Tryd.prog 11 #[p, .int .i64 a, .int .i64 n, .int .u16 (v : Int)] w fun e w' => e = .returned (.int .i64 110) ∧ w' = w := by
  go_enter Tryd.func11, Tryd.ntmps11
  go_wp2_with (go_at_call 28; refine (is_c _ _ _).mono ?_; rintro e w' ⟨rfl, hw⟩; subst w'; rw [h])
  go_ret
  exact ⟨rfl, rfl⟩
set_option maxHeartbeats 1600000 in
theorem rset_yes (k i g v x : Nat) (w : World) (h : hasI k i = true) (hk : k < 7) (hi : i < 128) (hc : w.cell? ⟨g, 896 + k * 128 + i, none⟩ = some (.int .u16 (x : Int))) (hz : w.frozen? ⟨g, 896 + k * 128 + i, none⟩ = false) :
    Calls Tryd.prog 11 #[.pointer (some ⟨g, 0, none⟩), .int .i64 (k : Int), .int .i64 (i : Int), .int .u16 (v : Int)] w fun e w' => e = .returned (.int .i64 0) ∧ ∃ u, Same w u ∧ w' = u.setCell ⟨g, 896 + k * 128 + i, none⟩ (.int .u16 (bv k v : Int)) := by
  have hk' : (k : Int) < 7 := by omega
  have hi' : (i : Int) < 128 := by omega
  go_enter Tryd.func11, Tryd.ntmps11
  go_wp2_with (go_at_call 28; refine (is_c _ _ _).mono ?_; rintro e w' ⟨rfl, hw⟩; subst w'; rw [h])
  go_region_with (go_at_call 29; refine (bitv_c _ _ _).mono ?_; rintro e w' ⟨rfl, hw⟩; subst w')
  all_goals
    go_wp2
    go_ret
    exact ⟨rfl, _, Same.drew _, rfl⟩
theorem rset_c (a n : Int) (v : Nat) {w : World} {g : Nat} {s : IS} (t : Im w g s) : Calls Tryd.prog 11 #[.pointer (some ⟨g, 0, none⟩), .int .i64 a, .int .i64 n, .int .u16 (v : Int)] w fun e w' => e = .returned (.int .i64 (ge a n)) ∧ Im w' g (s.set a n v) ∧ Turn g w w' := by
  unfold ge IS.set
  by_cases h : hasI a n = true
  · obtain ⟨h0, h1, h2, h3, h4⟩ := hasI_yes h
    have hp := pl_lt h
    rw [if_pos h, if_pos h]
    obtain ⟨k, rfl⟩ : ∃ k : Nat, a = k := ⟨a.toNat, by omega⟩
    obtain ⟨i, rfl⟩ : ∃ i : Nat, n = i := ⟨n.toNat, by omega⟩
    have hc := t.wrk _ hp
    have ep : 896 + pl k i = 896 + k * 128 + i := by unfold pl; simp only [Int.toNat_natCast]; omega
    rw [ep] at hc
    refine (rset_yes k i g v _ w h (by omega) (by omega) hc (t.free _)).mono ?_
    rintro e w' ⟨rfl, u, hu, rfl⟩
    rw [← ep]
    exact ⟨rfl, (t.same hu).setK _ _ hp, (Turn.ofBelow hu.below).set _ _⟩
  · rw [if_neg h, if_neg h]
    refine (rset_no a n v _ w (by simpa using h)).mono ?_
    rintro e w' ⟨rfl, rfl⟩
    exact ⟨rfl, t, Turn.refl _ _⟩
end Go.Proofs.YtlokdkpfeckdoaaDoor
