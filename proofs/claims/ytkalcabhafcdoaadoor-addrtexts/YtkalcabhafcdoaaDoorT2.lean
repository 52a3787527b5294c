/- A place's text: the project's Text, the reference's (stage 10). -/
import Derived.Test.YtkalcabhafcdoaaDoorT1
import Derived.Test.YtkalcabhafcdoaaDoorA3
namespace Go.Proofs.YtkalcabhafcdoaaDoor
open Go.RowKit
open Adr
theorem name_size (k : Nat) : (hed k).size ≤ 3 := by unfold hed; split <;> decide
theorem app_size (a b : ByteArray) : (a ++ b).size = a.size + b.size := by rw [ByteArray.size_append]
theorem nat_has {a n : Int} (h : hasI a n = true) : ∃ k m : Nat, a = k ∧ n = m ∧ 1 ≤ k ∧ k ≤ 6 ∧ m < 128 ∧ (m : Int) < sz k := by
  obtain ⟨h0, h1, h2, h3, h4⟩ := hasI_yes h
  refine ⟨a.toNat, n.toNat, by omega, by omega, by omega, by omega, by omega, ?_⟩
  have := szI_nat a.toNat (by omega)
  rw [show ((a.toNat : Nat) : Int) = a by omega] at this
  omega
theorem tx_name (k : Nat) (l : List UInt8) : hed k ++ tx l = tx ((hed k).data.toList ++ l) := by
  rw [← tx_app, tx_of]
theorem text_no (a n : Int) (h : hasI a n = false) (w : World) (hA : AreasAt w) : Calls Tryd.prog 9 #[.int .i64 a, .int .i64 n] w fun e w' => e = .returned (.string ⟨#[]⟩) ∧ Same w w' := by
  go_enter Tryd.func9, Tryd.ntmps9
  go_wp2_with (go_at_call 22; refine (has_c _ _ _ hA).mono ?_; rintro e w' ⟨rfl, hw⟩; subst w'; rw [h])
  go_ret
  exact ⟨rfl, Same.refl _⟩
set_option maxHeartbeats 800000 in
theorem text_reg (k m : Nat) (hk : k < 7) (hb : bt k = false) (hm : m < 100) (h : hasI k m = true) (w : World) (hA : AreasAt w) : Calls Tryd.prog 9 #[.int .i64 k, .int .i64 m] w fun e w' => e = .returned (.string (hed k ++ tx (dd m))) ∧ Same w w' := by
  obtain ⟨c0, c1, c2, c3, c4⟩ := hA.row k hk
  have hk' : (k : Int) < 7 := by omega
  have hz : ¬ 9223372036854775807 < (hed k).size + (tx (dd m)).size := by have := name_size k; have := dd_size m; omega
  have I := hid_as (itoa_c m hm)
  go_enter Tryd.func9, Tryd.ntmps9
  go_wp2_with (go_at_call 22; refine (has_c _ _ _ hA).mono ?_; rintro e w' ⟨rfl, hw⟩; subst w'; rw [h])
  go_quiet ((go_at_call 24; exact Calls.quiet_of_same (I.out _)))
  go_wp2
  go_ret
  exact ⟨rfl, Same.drewN _ _⟩
set_option maxHeartbeats 800000 in
theorem text_bit (k m : Nat) (hk : k < 7) (hb : bt k = true) (hm : m < 128) (h : hasI k m = true) (w : World) (hA : AreasAt w) : Calls Tryd.prog 9 #[.int .i64 k, .int .i64 m] w fun e w' => e = .returned (.string (hed k ++ tx (dd (m / 8)) ++ tx [46] ++ tx (dd (m % 8)))) ∧ Same w w' := by
  obtain ⟨c0, c1, c2, c3, c4⟩ := hA.row k hk
  have hk' : (k : Int) < 7 := by omega
  have hz : ¬ 9223372036854775807 < (hed k).size + (tx (dd (m / 8))).size := by have := name_size k; have := dd_size (m / 8); omega
  have hz2 : ¬ 9223372036854775807 < (hed k).size + (tx (dd (m / 8))).size + 1 := by have := name_size k; have := dd_size (m / 8); omega
  have hz3 : ¬ 9223372036854775807 < (hed k).size + (tx (dd (m / 8))).size + 1 + (tx (dd (m % 8))).size := by have := name_size k; have := dd_size (m / 8); have := dd_size (m % 8); omega
  have I := hid_as (itoa_c (m / 8) (by omega))
  have J := hid_as (itoa_c (m % 8) (by omega))
  go_enter Tryd.func9, Tryd.ntmps9
  go_wp2_with (go_at_call 22; refine (has_c _ _ _ hA).mono ?_; rintro e w' ⟨rfl, hw⟩; subst w'; rw [h])
  go_quiet (first | (go_at_call 24; exact Calls.quiet_of_same (I.out _)) | (go_at_call 24; exact Calls.quiet_of_same (J.out _)))
  go_wp2
  go_ret
  exact ⟨rfl, Same.drewN _ _⟩
/-- Text, of any numbers. -/
theorem text_c (a n : Int) (w : World) (hA : AreasAt w) : Calls Tryd.prog 9 #[.int .i64 a, .int .i64 n] w fun e w' => e = .returned (.string (tx (txt a n))) ∧ Same w w' := by
  by_cases h : hasI a n = true
  · obtain ⟨k, m, rfl, rfl, h1, h6, hm, hs⟩ := nat_has h
    by_cases hb : bt k = true
    · rw [txt_bit h (by rw [btI_nat k (by omega)]; exact hb), ← tx_app, ← tx_app, ← tx_name]
      exact text_bit k m (by omega) hb hm h w hA
    · have hb' : bt k = false := by simpa using hb
      have hm' : m < 100 := by
        rcases seven_cases (k := k) (by omega) with rfl | rfl | rfl | rfl | rfl | rfl | rfl
        all_goals first | (exact absurd rfl hb) | (simp only [sz] at hs; omega)
      rw [txt_reg h (by rw [btI_nat k (by omega)]; exact hb'), ← tx_name]
      exact text_reg k m (by omega) hb' hm' h w hA
  · have h' : hasI a n = false := by simpa using h
    rw [txt_no h']
    exact text_no a n h' w hA
def cells7 : Array Value := #[.string ⟨#[]⟩, .string ⟨#[37, 73, 88]⟩, .string ⟨#[37, 81, 88]⟩, .string ⟨#[37, 77, 88]⟩, .string ⟨#[37, 73, 87]⟩, .string ⟨#[37, 81, 87]⟩, .string ⟨#[37, 77, 87]⟩]
theorem cells7_at (k : Nat) (h : k < 7) : cells7[k]? = some (.string (hed k)) := by
  rcases seven_cases h with rfl | rfl | rfl | rfl | rfl | rfl | rfl <;> rfl
theorem heads_at (w : World) (k : Nat) (h : k < 7) : (w.alloc (.cells cells7 9)).cell? ⟨w.heap.size, k, none⟩ = some (.string (hed k)) := by
  rw [← cells7_at k h]
  exact cell_of_row _ _ _ cells7 9 (0, 0) (MapKept.heap_alloc w _).1
theorem rtext_no (a n : Int) (h : hasI a n = false) (w : World) : Calls Tryd.prog 10 #[.int .i64 a, .int .i64 n] w fun e w' => e = .returned (.string ⟨#[]⟩) ∧ Below w.heap.size w w' := by
  by_cases h0 : n < 0
  · go_enter Tryd.func10, Tryd.ntmps10
    go_wp2
    go_ret
    exact ⟨rfl, Below.refl _ _⟩
  · have h1 : decide (szI a ≤ n) = true := by
      rw [decide_eq_true_eq]
      by_cases h2 : szI a ≤ n
      · exact h2
      · rw [hasI_mk (by omega) (by omega)] at h; cases h
    clear h
    go_enter Tryd.func10, Tryd.ntmps10
    go_wp2_with (go_at_call 12; refine (rsize_c _ _).mono ?_; rintro e w' ⟨rfl, hw⟩; subst w')
    go_ret
    exact ⟨rfl, Below.refl _ _⟩
set_option maxHeartbeats 800000 in
theorem rtext_reg (k m : Nat) (hk : k < 7) (hb : btI k = false) (hm : m < 100) (h : hasI k m = true) (w : World) : Calls Tryd.prog 10 #[.int .i64 k, .int .i64 m] w fun e w' => e = .returned (.string (hed k ++ tx (dd m))) ∧ Below w.heap.size w w' := by
  obtain ⟨h0, h1, h2, h3, h4⟩ := hasI_yes h
  have h0' : ¬ (m : Int) < 0 := by omega
  have h1' : decide (szI k ≤ (m : Int)) = false := decide_eq_false (by omega)
  have hk' : (k : Int) < 7 := by omega
  have hz : ¬ 9223372036854775807 < (hed k).size + (tx (dd m)).size := by have := name_size k; have := dd_size m; omega
  have I := hid_as (dec_c m hm)
  have c := heads_at w k hk
  unfold cells7 at c
  clear h h0 h1 h2
  go_enter Tryd.func10, Tryd.ntmps10
  go_wp2_with (first | (go_at_call 12; refine (rsize_c _ _).mono ?_; rintro e w' ⟨rfl, hw⟩; subst w') | (go_at_call 14; refine (rbit_c _ _).mono ?_; rintro e w' ⟨rfl, hw⟩; subst w'; rw [hb]) | (go_at_call 25; refine (I.out _).mono ?_; rintro e w' ⟨rfl, hw⟩; subst w'))
  go_ret
  exact ⟨rfl, (Below.refl _ _).alloc (Nat.le_refl _) _⟩
theorem dec_at (z : Int) (i : Nat) (h : z = i) (hi : i < 100) (w : World) : Calls Tryd.prog 25 #[.int .i64 z] w fun e w' => e = .returned (.string (tx (dd i))) ∧ w' = w := by
  subst h; exact dec_c i hi w
set_option maxHeartbeats 800000 in
theorem rtext_bit (k m : Nat) (hk : k < 7) (hb : btI k = true) (hm : m < 128) (h : hasI k m = true) (w : World) : Calls Tryd.prog 10 #[.int .i64 k, .int .i64 m] w fun e w' => e = .returned (.string (hed k ++ tx (dd (m / 8)) ++ tx [46] ++ tx (dd (m % 8)))) ∧ Below w.heap.size w w' := by
  obtain ⟨h0, h1, h2, h3, h4⟩ := hasI_yes h
  have h0' : ¬ (m : Int) < 0 := by omega
  have h1' : decide (szI k ≤ (m : Int)) = false := decide_eq_false (by omega)
  have hk' : (k : Int) < 7 := by omega
  have hz : ¬ 9223372036854775807 < (hed k).size + (tx (dd (m / 8))).size := by have := name_size k; have := dd_size (m / 8); omega
  have hz2 : ¬ 9223372036854775807 < (hed k).size + (tx (dd (m / 8))).size + 1 := by have := name_size k; have := dd_size (m / 8); omega
  have hz3 : ¬ 9223372036854775807 < (hed k).size + (tx (dd (m / 8))).size + 1 + (tx (dd (m % 8))).size := by have := name_size k; have := dd_size (m / 8); have := dd_size (m % 8); omega
  have I := hid_as (dec_at ((m : Int) / 8) (m / 8) (by omega) (by omega))
  have J := hid_as (dec_at ((m : Int) % 8) (m % 8) (by omega) (by omega))
  have c := heads_at w k hk
  unfold cells7 at c
  clear h h0 h1 h2
  go_enter Tryd.func10, Tryd.ntmps10
  go_wp2_with (first | (go_at_call 12; refine (rsize_c _ _).mono ?_; rintro e w' ⟨rfl, hw⟩; subst w') | (go_at_call 14; refine (rbit_c _ _).mono ?_; rintro e w' ⟨rfl, hw⟩; subst w'; rw [hb]) | (go_at_call 25; (with_reducible refine (I.out _).mono ?_); rintro e w' ⟨rfl, hw⟩; subst w') | (go_at_call 25; (with_reducible refine (J.out _).mono ?_); rintro e w' ⟨rfl, hw⟩; subst w'))
  go_ret
  exact ⟨rfl, (Below.refl _ _).alloc (Nat.le_refl _) _⟩
/-- The reference's Text, of any numbers. -/
theorem rtext_c (a n : Int) (w : World) : Calls Tryd.prog 10 #[.int .i64 a, .int .i64 n] w fun e w' => e = .returned (.string (tx (txt a n))) ∧ Below w.heap.size w w' := by
  by_cases h : hasI a n = true
  · obtain ⟨k, m, rfl, rfl, h1, h6, hm, hs⟩ := nat_has h
    by_cases hb : bt k = true
    · have hb2 : btI k = true := by rw [btI_nat k (by omega)]; exact hb
      rw [txt_bit h hb2, ← tx_app, ← tx_app, ← tx_name]
      exact rtext_bit k m (by omega) hb2 hm h w
    · have hb' : bt k = false := by simpa using hb
      have hb2 : btI k = false := by rw [btI_nat k (by omega)]; exact hb'
      have hm' : m < 100 := by
        rcases seven_cases (k := k) (by omega) with rfl | rfl | rfl | rfl | rfl | rfl | rfl
        all_goals first | (exact absurd rfl hb) | (simp only [sz] at hs; omega)
      rw [txt_reg h hb2, ← tx_name]
      exact rtext_reg k m (by omega) hb2 hm' h w
  · have h' : hasI a n = false := by simpa using h
    rw [txt_no h']
    exact rtext_no a n h' w
end Go.Proofs.YtkalcabhafcdoaaDoor
