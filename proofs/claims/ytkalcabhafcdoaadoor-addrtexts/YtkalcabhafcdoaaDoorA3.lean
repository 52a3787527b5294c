/- Where a number of a table is: the project's Place (stage 10). -/
import Derived.Test.YtkalcabhafcdoaaDoorA2
namespace Go.Proofs.YtkalcabhafcdoaaDoor
open Go.RowKit
open Adr

theorem pl_hit {n t : Int} (b0 : -9223372036854775808 ≤ n) (b1 : n ≤ 9223372036854775807) {k : Nat} (hk : k < 7) (ht : tb k = t) (hh : hasI k (wrap64 (n - frs k)) = true) : plA t n = k ∧ wrap64 (n - frs k) = plN t n := by
  obtain ⟨h0, h1, h2, h3, h4⟩ := hasI_yes hh
  rw [szI_nat k hk] at h1
  clear hh
  have hw : wrap64 (n - frs k) = (n - frs k + 9223372036854775808) % 18446744073709551616 - 9223372036854775808 := by unfold wrap64; omega
  rw [hw] at h0 h1 h2 ⊢
  clear hw
  subst ht
  rcases seven_cases hk with rfl | rfl | rfl | rfl | rfl | rfl | rfl
  · exact absurd h3 (by decide)
  · simp only [frs, sz] at h0 h1 h2
    have e : plA (tb 1) n = 1 := by show (if 0 ≤ n ∧ n < 128 then 1 else 0) = 1; rw [if_pos (by omega)]
    refine ⟨e, ?_⟩
    unfold plN; rw [e]; simp only [frs]; show _ = n - 0; omega
  · simp only [frs, sz] at h0 h1 h2
    have e : plA (tb 2) n = 2 := by show (if 0 ≤ n ∧ n < 128 then 2 else if 128 ≤ n ∧ n < 256 then 3 else 0) = 2; rw [if_pos (by omega)]
    refine ⟨e, ?_⟩
    unfold plN; rw [e]; simp only [frs]; show _ = n - 0; omega
  · simp only [frs, sz] at h0 h1 h2
    have e : plA (tb 3) n = 3 := by show (if 0 ≤ n ∧ n < 128 then 2 else if 128 ≤ n ∧ n < 256 then 3 else 0) = 3; rw [if_neg (by omega), if_pos (by omega)]
    refine ⟨e, ?_⟩
    unfold plN; rw [e]; simp only [frs]; show _ = n - 128; omega
  · simp only [frs, sz] at h0 h1 h2
    have e : plA (tb 4) n = 4 := by show (if 0 ≤ n ∧ n < 64 then 4 else 0) = 4; rw [if_pos (by omega)]
    refine ⟨e, ?_⟩
    unfold plN; rw [e]; simp only [frs]; show _ = n - 0; omega
  · simp only [frs, sz] at h0 h1 h2
    have e : plA (tb 5) n = 5 := by show (if 0 ≤ n ∧ n < 64 then 5 else if 64 ≤ n ∧ n < 128 then 6 else 0) = 5; rw [if_pos (by omega)]
    refine ⟨e, ?_⟩
    unfold plN; rw [e]; simp only [frs]; show _ = n - 0; omega
  · simp only [frs, sz] at h0 h1 h2
    have e : plA (tb 6) n = 6 := by show (if 0 ≤ n ∧ n < 64 then 5 else if 64 ≤ n ∧ n < 128 then 6 else 0) = 6; rw [if_neg (by omega), if_pos (by omega)]
    refine ⟨e, ?_⟩
    unfold plN; rw [e]; simp only [frs]; show _ = n - 64; omega
theorem has_wrap {n m : Int} {k : Nat} (hk : k < 7) (h0 : 0 ≤ m) (h1 : m < sz k) (e : n - frs k = m) : hasI k (wrap64 (n - frs k)) = true := by
  have := sz_le k
  rw [e, show wrap64 m = m by unfold wrap64; omega]
  exact hasI_mk h0 (by rw [szI_nat k hk]; exact h1)
theorem pl_none {n t : Int} (h : ∀ j, j < 7 → tb j = t → hasI j (wrap64 (n - frs j)) = false) : plA t n = 0 := by
  have hx : ∀ (j : Nat) (m : Int), j < 7 → tb j = t → 0 ≤ m → m < sz j → ¬ n - frs j = m := by
    intro j m hj ht h0 h1 e
    have := h j hj ht
    rw [has_wrap hj h0 h1 e] at this
    cases this
  unfold plA
  split
  · rename_i ht
    subst ht
    rw [if_neg (fun q => hx 2 n (by decide) rfl q.1 q.2 (by show n - 0 = n; omega)), if_neg (fun q => hx 3 (n - 128) (by decide) rfl (by omega) (by show n - 128 < 128; omega) rfl)]
  · split
    · rename_i ht
      subst ht
      rw [if_neg (fun q => hx 1 n (by decide) rfl q.1 q.2 (by show n - 0 = n; omega))]
    · split
      · rename_i ht
        subst ht
        rw [if_neg (fun q => hx 5 n (by decide) rfl q.1 q.2 (by show n - 0 = n; omega)), if_neg (fun q => hx 6 (n - 64) (by decide) rfl (by omega) (by show n - 64 < 64; omega) rfl)]
      · split
        · rename_i ht
          subst ht
          rw [if_neg (fun q => hx 4 n (by decide) rfl q.1 q.2 (by show n - 0 = n; omega))]
        · rfl
theorem ret_two {a b c d : Int} (h : a = c) (k : b = d) : Ending.returned (.tuple #[.int .i64 a, .int .i64 b]) = .returned (.tuple #[.int .i64 c, .int .i64 d]) := by rw [h, k]
theorem plN_none {n t : Int} (h : plA t n = 0) : plN t n = 0 := by unfold plN; rw [if_pos h]
set_option maxHeartbeats 2000000 in
/-- Place, of any function and any number. -/
theorem place_c (f : Nat) (n : Int) (b0 : -9223372036854775808 ≤ n) (b1 : n ≤ 9223372036854775807) (w : World) (hA : AreasAt w) : Calls Tryd.prog 18 #[.int .u8 f, .int .i64 n] w fun e w' => e = .returned (.tuple #[.int .i64 (plA (tbl f) n), .int .i64 (plN (tbl f) n)]) ∧ w' = w := by
  have T := hid_as (table_c f)
  generalize tbl f = t at *
  go_enter Tryd.func18, Tryd.ntmps18
  go_wp2_with (go_at_call 26; refine (T.out _).mono ?_; rintro e w' ⟨rfl, hw⟩; subst w')
  go_loop [11] (fun i => ∃ k : Nat, k ≤ 7 ∧ i = .int .i64 k ∧ Hid (∀ j, j < k → tb j = t → hasI j (wrap64 (n - frs j)) = false)) (fun i => 7 - (intOf i).toNat)
  case atStart => exact ⟨0, by omega, rfl, hid_as (fun j hj => by omega)⟩
  case round =>
    obtain ⟨k, hk, rfl, hs⟩ := hrel
    by_cases hlt : k < 7
    · obtain ⟨c0, c1, c2, c3, c4⟩ := hA.row k hlt
      have hlt' : (k : Int) < 7 := by omega
      by_cases ht : tb k = t
      · by_cases hh : hasI k (wrap64 (n - frs k)) = true
        · obtain ⟨e1, e2⟩ := pl_hit b0 b1 hlt ht hh
          have ht' : (tb k == t) = true := beq_iff_eq.2 ht
          have e := hid_as (And.intro e1 e2)
          clear e1 e2 ht
          go_wp2_with (go_at_call 22; refine (has_c _ _ _ hA).mono ?_; rintro e w' ⟨rfl, hw⟩; subst w'; rw [hh])
          go_ret2
          exact ⟨ret_two (by rw [e.out.1]) e.out.2, rfl⟩
        · have hh' : hasI k (wrap64 (n - frs k)) = false := by simpa using hh
          have ht' : (tb k == t) = true := beq_iff_eq.2 ht
          have hs2 : Hid (∀ j, j < k + 1 → tb j = t → hasI j (wrap64 (n - frs j)) = false) := fun j hj q => by
            by_cases e : j = k
            · subst e; exact hh'
            · exact hs.out j (by omega) q
          clear ht hh
          go_wp2_with (go_at_call 22; refine (has_c _ _ _ hA).mono ?_; rintro e w' ⟨rfl, hw⟩; subst w'; rw [hh'])
          go_round
          case rel => exact ⟨k + 1, by omega, by go_num, hs2⟩
          case measure => simp [intOf]; omega
      · have ht' : (tb k == t) = false := beq_eq_false_iff_ne.2 ht
        have hs2 : Hid (∀ j, j < k + 1 → tb j = t → hasI j (wrap64 (n - frs j)) = false) := fun j hj q => by
          by_cases e : j = k
          · subst e; exact absurd q ht
          · exact hs.out j (by omega) q
        clear ht
        go_wp2
        go_round
        case rel => exact ⟨k + 1, by omega, by go_num, hs2⟩
        case measure => simp [intOf]; omega
    · have e := hid_as (pl_none (n := n) (t := t) (fun j hj q => hs.out j (by omega) q))
      go_wp2
      go_ret2
      exact ⟨ret_two (by rw [e.out]; rfl) (by rw [plN_none e.out]), rfl⟩
end Go.Proofs.YtkalcabhafcdoaaDoor
