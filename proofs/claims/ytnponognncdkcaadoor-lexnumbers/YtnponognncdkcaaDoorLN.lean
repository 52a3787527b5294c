/- The law of numbers (stage 12). -/
import Derived.Test.YtnponognncdkcaaDoorX3
import Derived.Test.YtnponognncdkcaaDoorD3
import Derived.Deep.CutRange
import Derived.Deep.CutBlock
namespace Go.Proofs.YtnponognncdkcaaDoor
open Go.RowKit
open Adr Lx
theorem known_bN (w : World) (hT : Tabs w) : Calls Tryd.prog 8 #[] w fun e w' => e = .returned (.bool true) ∧ Below w.heap.size w w' ∧ Tabs w' :=
  (known_c w hT).mono fun _ _ ⟨a, b⟩ => ⟨a, b, hT.below b⟩
theorem k_bounds (k : Nat) (h2 : 2 ≤ k) (h10 : k ≤ 10) : -2147483648 ≤ klo k ∧ klo k ≤ 0 ∧ 127 ≤ khi k ∧ khi k ≤ 4294967295 ∧ (klo k < 0 ∨ klo k = 0) := by
  have hc : k = 2 ∨ k = 3 ∨ k = 4 ∨ k = 5 ∨ k = 6 ∨ k = 7 ∨ k = 8 ∨ k = 9 ∨ k = 10 := by omega
  rcases hc with rfl | rfl | rfl | rfl | rfl | rfl | rfl | rfl | rfl
  all_goals decide
theorem ranges_c (k : Nat) (h2 : 2 ≤ k) (h10 : k ≤ 10) (w : World) : Calls Tryd.prog 14 #[.int .i64 k] w fun e w' => e = .returned (.tuple #[.int .i64 (klo k), .int .i64 (khi k)]) ∧ w' = w := by
  have hc : k = 2 ∨ k = 3 ∨ k = 4 ∨ k = 5 ∨ k = 6 ∨ k = 7 ∨ k = 8 ∨ k = 9 ∨ k = 10 := by omega
  rcases hc with rfl | rfl | rfl | rfl | rfl | rfl | rfl | rfl | rfl
  all_goals
    go_enter Tryd.func14, Tryd.ntmps14
    go_wp2
    go_ret2
    exact ⟨rfl, rfl⟩
def nine : Array Value := #[.string ⟨#[83, 73, 78, 84]⟩, .string ⟨#[73, 78, 84]⟩, .string ⟨#[68, 73, 78, 84]⟩, .string ⟨#[85, 83, 73, 78, 84]⟩, .string ⟨#[85, 73, 78, 84]⟩, .string ⟨#[85, 68, 73, 78, 84]⟩, .string ⟨#[66, 89, 84, 69]⟩, .string ⟨#[87, 79, 82, 68]⟩, .string ⟨#[68, 87, 79, 82, 68]⟩]
theorem nine_at (q : Nat) (h : q < 9) : nine[q]? = some (.string (kn (q + 2))) := by
  have hc : q = 0 ∨ q = 1 ∨ q = 2 ∨ q = 3 ∨ q = 4 ∨ q = 5 ∨ q = 6 ∨ q = 7 ∨ q = 8 := by omega
  rcases hc with rfl | rfl | rfl | rfl | rfl | rfl | rfl | rfl | rfl <;> rfl
/-- What the law's text comes to. -/
theorem text_is (k : Nat) (S : ByteArray) (l : List UInt8) : ((kn k ++ ⟨#[35]⟩) ++ S ++ tx l).data.toList = nmK k ++ 35 :: (S.data.toList ++ l) := by
  rw [← tx_of (kn k), ← tx_of S, show (⟨#[35]⟩ : ByteArray) = tx [35] from rfl, tx_app, tx_app, tx_app, tx_list, tx_list]
  simp [nmK]
theorem text_hex (k : Nat) (l : List UInt8) : ((kn k ++ ⟨#[35, 49, 54, 35]⟩) ++ tx l).data.toList = nmK k ++ 35 :: 49 :: 54 :: 35 :: l := by
  rw [← tx_of (kn k), show (⟨#[35, 49, 54, 35]⟩ : ByteArray) = tx [35, 49, 54, 35] from rfl, tx_app, tx_app, tx_list]
  simp [nmK]
set_option maxHeartbeats 4000000 in
theorem numbers_w (kind n : Int) (b0 : -9223372036854775808 ≤ kind) (b1 : kind ≤ 9223372036854775807) (w : World) (hT : Tabs w) : Calls Tryd.prog 5 #[.int .i64 kind, .int .i64 n] w fun e w' => e = .returned (.bool true) ∧ Below w.heap.size w w' := by
  have K := hid_as (known_bN w hT)
  have PL := hid_as (fun W => hplace_c kind 9 (by omega) (by omega) b0 b1 W)
  obtain ⟨q, hq⟩ : ∃ q : Nat, kind % 9 = q := ⟨(kind % 9).toNat, by omega⟩
  have hq9 : q < 9 := by omega
  rw [hq] at PL
  clear hq
  have hc : Hid (∀ W : World, (W.alloc (.cells nine 9)).cell? ⟨W.heap.size, q, none⟩ = some (.string (kn (q + 2)))) := fun W => by
    rw [World.cell?_alloc_at _ _ _ _ rfl]
    exact nine_at q hq9
  have RG : Hid (∀ W, Calls Tryd.prog 14 #[.int .i64 (2 + (q : Int))] W fun e w' => e = .returned (.tuple #[.int .i64 (klo (q + 2)), .int .i64 (khi (q + 2))]) ∧ w' = W) := fun W => by
    have h := ranges_c (q + 2) (by omega) (by omega) W
    rw [show ((q + 2 : Nat) : Int) = 2 + (q : Int) by omega] at h
    exact h
  obtain ⟨k1, k2, k3, k4, k5⟩ := k_bounds (q + 2) (by omega) (by omega)
  have q9 : (q : Int) < 9 := by omega
  go_enter Tryd.func5, Tryd.ntmps5
  go_upto_region 4 with (first
    | (go_at_call 8; refine K.out.mono ?_; rintro e w1 ⟨rfl, b1, hT1⟩)
    | (go_at_call 13; (with_reducible refine (PL.out _).mono ?_); rintro e w' ⟨rfl, hw⟩; subst w'))
  have hcw := hc.out w1
  have hTn := hid_as (hT1.below (below_new1 w1 (.cells nine 9)))
  have hBn := hid_as (b1.trans ((below_new1 w1 (.cells nine 9)).mono b1.size))
  unfold nine at hcw hTn hBn
  go_upto_region 7 with (go_at_call 14; (with_reducible refine (RG.out _).mono ?_); rintro e w' ⟨rfl, hw⟩; subst w')
  have hm1 : klo (q + 2) - 1 ≤ max (min n (khi (q + 2) + 1)) (klo (q + 2) - 1) := by omega
  have hm2 : max (min n (khi (q + 2) + 1)) (klo (q + 2) - 1) ≤ khi (q + 2) + 1 := by omega
  generalize max (min n (khi (q + 2) + 1)) (klo (q + 2) - 1) = m at *
  have hNs : (kn (q + 2)).size ≤ 5 := by have h := (nmK_is (q + 2) (by omega) (by omega) []).2.2.2.2.2.2.1; rw [Lib.size_eq]; exact h
  have hk2 : 2 ≤ q + 2 := by omega
  have hk10 : q + 2 ≤ 10 := by omega
  clear hcw hc RG PL K hT1 b1 hq9
  generalize w1.alloc _ = W0 at *
  by_cases hneg : m < 0
  · obtain ⟨u, rfl⟩ : ∃ u : Nat, m = -(u : Int) := ⟨m.natAbs, by omega⟩
    have hu1 : 1 ≤ u := by omega
    have hu : u ≤ 8589934592 := by omega
    have DG : Hid (∀ W, Calls Tryd.prog 15 #[.int .u64 u] W fun e w' => e = .returned (.string (tx (dgs 10 u))) ∧ w' = W) := fun W => digits_c u (by omega) W
    have hdl := dgs_len (b := 10) (by omega) 9 u (Nat.lt_of_le_of_lt hu (by decide))
    have f3s : (tx (dgs 10 u)).size ≤ 10 := by rw [tx_size]; exact hdl.1
    have hX : Hid ((kn (q + 2) ++ ⟨#[35]⟩ ++ ⟨#[45]⟩ ++ tx (dgs 10 u)).data.toList = nmK (q + 2) ++ 35 :: 45 :: dgs 10 u) := text_is (q + 2) ⟨#[45]⟩ (dgs 10 u)
    have hlk : (nmK (q + 2)).length ≤ 5 := (nmK_is (q + 2) hk2 hk10 []).2.2.2.2.2.2.1
    have hXs : (kn (q + 2) ++ ⟨#[35]⟩ ++ ⟨#[45]⟩ ++ tx (dgs 10 u)).size ≤ 1000000 := by
      rw [Lib.size_eq, hX.out]; simp; omega
    have hl6 : (nmK (q + 2) ++ 35 :: 45 :: dgs 10 u).length ≤ 65536 := by simp; omega
    obtain ⟨_, _, _, _, _, _, _, c0, lr, e0, hc1, hc2, hc3⟩ := nmK_is (q + 2) hk2 hk10 (45 :: dgs 10 u)
    rw [← e0] at hc3
    rcases k5 with hlo | hlo
    · have hty := typed_neg hk2 hk10 hu hlo
      have hlo' : ¬ klo (q + 2) = 0 := by omega
      by_cases hfar : -(u : Int) < klo (q + 2)
      · rw [ltR_far hdl.2 (Or.inl hfar)] at hty
        have hb := toks_err (il := false) e0 hl6 (hc2 false) hc3 (by rw [hty]; decide)
        rw [hty] at hb
        have TK := hid_as (fun W hW => tokens_no (s := kn (q + 2) ++ ⟨#[35]⟩ ++ ⟨#[45]⟩ ++ tx (dgs 10 u)) (il := false) (a := 0) (n := 163) (by rw [hX.out]; exact hb) hXs W hW)
        have TE : Hid (∀ W g, Tabs W → W.cell? ⟨g, 0, none⟩ = some (.int .i64 ((0 : Nat) : Int)) → W.cell? ⟨g, 1, none⟩ = some (.int .i64 ((163 : Nat) : Int)) → Calls Tryd.prog 16 #[.iface 47 (.pointer (some ⟨g, 0, none⟩))] W fun e w' => e = .returned (.tuple #[.int .i64 0, .int .i64 163]) ∧ Below W.heap.size W w') := fun W g hW h0 h1 => told_err g 0 163 W hW h0 h1
        clear hty hb e0 hc1 hc2 hc3 hX hl6 hdl
        go_wp2_with (first
          | (go_at_call 15; (with_reducible refine (DG.out _).mono ?_); rintro e w' ⟨rfl, hw⟩; subst w')
          | (go_at_call 9; (with_reducible refine (TK.out _ hTn.out).mono ?_); rintro e w3 ⟨g3, rfl, z3, y3, d0, d1, b3⟩; have hT3 := hid_as (hTn.out.below b3); have hB3 := hid_as (below_and hBn.out b3); clear b3)
          | (go_at_call 16; (with_reducible refine (TE.out _ _ hT3.out d0 d1).mono ?_); rintro e w4 ⟨rfl, b4⟩; have hB4 := hid_as (below_and hB3.out b4); clear b4))
        go_ret
        exact ⟨rfl, hB4.out⟩
      · have hfar2 : ¬ khi (q + 2) < -(u : Int) := by omega
        rw [ltR_yes hdl.2 (by omega) (by omega)] at hty
        have hb := toks_one (il := false) e0 hl6 (hc2 false) hc3 (by rw [hty]) (by rw [hty]; simp; omega)
        rw [hty] at hb
        have TK := hid_as (fun W hW => tokens_yes (s := kn (q + 2) ++ ⟨#[35]⟩ ++ ⟨#[45]⟩ ++ tx (dgs 10 u)) (il := false) (by rw [hX.out]; exact hb) hXs W hW)
        replace TK : Hid (∀ W, Tabs W → Calls Tryd.prog 9 #[.string (kn (q + 2) ++ ⟨#[35]⟩ ++ ⟨#[45]⟩ ++ tx (dgs 10 u)), .bool false] W fun e w' => ∃ g cap, e = .returned (.tuple #[.slice (some ⟨g, 0, none⟩) 2 cap, .nilIface]) ∧ W.heap.size ≤ g ∧ g < w'.heap.size ∧ Laid w' g [((⟨3, q + 2, -(u : Int), []⟩ : Tk), 0), (nul, _)] ∧ Below W.heap.size W w') := TK
        clear hty hb e0 hc1 hc2 hc3 hX hl6 hdl
        go_wp2_with (first
          | (go_at_call 15; (with_reducible refine (DG.out _).mono ?_); rintro e w' ⟨rfl, hw⟩; subst w')
          | (go_at_call 9; (with_reducible refine (TK.out _ hTn.out).mono ?_); rintro e w3 ⟨g3, p3, rfl, z3, y3, l3, b3⟩; have hT3 := hid_as (hTn.out.below b3); have hB3 := hid_as (below_and hBn.out b3); have q1 : w3.cell? ⟨g3, 1, none⟩ = some (.int .i64 (2 + (q : Int))) := (l3 1 _ rfl).trans (by show some (Value.int .i64 ((q + 2 : Nat) : Int)) = _; rw [show ((q + 2 : Nat) : Int) = 2 + (q : Int) by omega]); have q2 := l3 2 _ rfl; clear b3 l3)
          | (go_at_call 16; (with_reducible refine (told_nil _).mono ?_); rintro e w' ⟨rfl, hw⟩; subst w'))
        go_ret
        exact ⟨rfl, hB3.out⟩
    · have hty := typed_no (u := u) hk2 hk10 (by omega)
      have hb := toks_err (il := false) e0 hl6 (hc2 false) hc3 (by rw [hty]; decide)
      rw [hty] at hb
      have TK := hid_as (fun W hW => tokens_no (s := kn (q + 2) ++ ⟨#[35]⟩ ++ ⟨#[45]⟩ ++ tx (dgs 10 u)) (il := false) (a := 0) (n := 120) (by rw [hX.out]; exact hb) hXs W hW)
      have TE : Hid (∀ W g, Tabs W → W.cell? ⟨g, 0, none⟩ = some (.int .i64 ((0 : Nat) : Int)) → W.cell? ⟨g, 1, none⟩ = some (.int .i64 ((120 : Nat) : Int)) → Calls Tryd.prog 16 #[.iface 47 (.pointer (some ⟨g, 0, none⟩))] W fun e w' => e = .returned (.tuple #[.int .i64 0, .int .i64 120]) ∧ Below W.heap.size W w') := fun W g hW h0 h1 => told_err g 0 120 W hW h0 h1
      clear hty hb e0 hc1 hc2 hc3 hX hl6 hdl
      go_wp2_with (first
        | (go_at_call 15; (with_reducible refine (DG.out _).mono ?_); rintro e w' ⟨rfl, hw⟩; subst w')
        | (go_at_call 9; (with_reducible refine (TK.out _ hTn.out).mono ?_); rintro e w3 ⟨g3, rfl, z3, y3, d0, d1, b3⟩; have hT3 := hid_as (hTn.out.below b3); have hB3 := hid_as (below_and hBn.out b3); clear b3)
        | (go_at_call 16; (with_reducible refine (TE.out _ _ hT3.out d0 d1).mono ?_); rintro e w4 ⟨rfl, b4⟩; have hB4 := hid_as (below_and hB3.out b4); clear b4))
      go_ret
      exact ⟨rfl, hB4.out⟩
  · obtain ⟨u, rfl⟩ : ∃ u : Nat, m = (u : Int) := ⟨m.toNat, by omega⟩
    have hu : u ≤ 8589934592 := by omega
    have DG : Hid (∀ W, Calls Tryd.prog 15 #[.int .u64 u] W fun e w' => e = .returned (.string (tx (dgs 10 u))) ∧ w' = W) := fun W => digits_c u (by omega) W
    have hdl := dgs_len (b := 10) (by omega) 9 u (Nat.lt_of_le_of_lt hu (by decide))
    have f3s : (tx (dgs 10 u)).size ≤ 10 := by rw [tx_size]; exact hdl.1
    have hX : Hid ((kn (q + 2) ++ ⟨#[35]⟩ ++ ⟨#[]⟩ ++ tx (dgs 10 u)).data.toList = nmK (q + 2) ++ 35 :: dgs 10 u) := text_is (q + 2) ⟨#[]⟩ (dgs 10 u)
    have hlk : (nmK (q + 2)).length ≤ 5 := (nmK_is (q + 2) hk2 hk10 []).2.2.2.2.2.2.1
    have hXs : (kn (q + 2) ++ ⟨#[35]⟩ ++ ⟨#[]⟩ ++ tx (dgs 10 u)).size ≤ 1000000 := by
      rw [Lib.size_eq, hX.out]; simp; omega
    have hl6 : (nmK (q + 2) ++ 35 :: dgs 10 u).length ≤ 65536 := by simp; omega
    obtain ⟨_, _, _, _, _, _, _, c0, lr, e0, hc1, hc2, hc3⟩ := nmK_is (q + 2) hk2 hk10 (dgs 10 u)
    rw [← e0] at hc3
    have hty := typed_pos hk2 hk10 hu
    by_cases hfar : khi (q + 2) < (u : Int)
    · rw [ltR_far hdl.2 (Or.inr hfar)] at hty
      have hfar1 : ¬ (u : Int) < klo (q + 2) := by omega
      have hb := toks_err (il := false) e0 hl6 (hc2 false) hc3 (by rw [hty]; decide)
      rw [hty] at hb
      have TK := hid_as (fun W hW => tokens_no (s := kn (q + 2) ++ ⟨#[35]⟩ ++ ⟨#[]⟩ ++ tx (dgs 10 u)) (il := false) (a := 0) (n := 163) (by rw [hX.out]; exact hb) hXs W hW)
      have TE : Hid (∀ W g, Tabs W → W.cell? ⟨g, 0, none⟩ = some (.int .i64 ((0 : Nat) : Int)) → W.cell? ⟨g, 1, none⟩ = some (.int .i64 ((163 : Nat) : Int)) → Calls Tryd.prog 16 #[.iface 47 (.pointer (some ⟨g, 0, none⟩))] W fun e w' => e = .returned (.tuple #[.int .i64 0, .int .i64 163]) ∧ Below W.heap.size W w') := fun W g hW h0 h1 => told_err g 0 163 W hW h0 h1
      clear hty hb e0 hc1 hc2 hc3 hX hl6 hdl
      go_wp2_with (first
        | (go_at_call 15; (with_reducible refine (DG.out _).mono ?_); rintro e w' ⟨rfl, hw⟩; subst w')
        | (go_at_call 9; (with_reducible refine (TK.out _ hTn.out).mono ?_); rintro e w3 ⟨g3, rfl, z3, y3, d0, d1, b3⟩; have hT3 := hid_as (hTn.out.below b3); have hB3 := hid_as (below_and hBn.out b3); clear b3)
        | (go_at_call 16; (with_reducible refine (TE.out _ _ hT3.out d0 d1).mono ?_); rintro e w4 ⟨rfl, b4⟩; have hB4 := hid_as (below_and hB3.out b4); clear b4))
      go_ret
      exact ⟨rfl, hB4.out⟩
    · have hfar1 : ¬ (u : Int) < klo (q + 2) := by omega
      rw [ltR_yes hdl.2 (by omega) (by omega)] at hty
      have hb := toks_one (il := false) e0 hl6 (hc2 false) hc3 (by rw [hty]) (by rw [hty]; simp; omega)
      rw [hty] at hb
      have TK := hid_as (fun W hW => tokens_yes (s := kn (q + 2) ++ ⟨#[35]⟩ ++ ⟨#[]⟩ ++ tx (dgs 10 u)) (il := false) (by rw [hX.out]; exact hb) hXs W hW)
      replace TK : Hid (∀ W, Tabs W → Calls Tryd.prog 9 #[.string (kn (q + 2) ++ ⟨#[35]⟩ ++ ⟨#[]⟩ ++ tx (dgs 10 u)), .bool false] W fun e w' => ∃ g cap, e = .returned (.tuple #[.slice (some ⟨g, 0, none⟩) 2 cap, .nilIface]) ∧ W.heap.size ≤ g ∧ g < w'.heap.size ∧ Laid w' g [((⟨3, q + 2, (u : Int), []⟩ : Tk), 0), (nul, _)] ∧ Below W.heap.size W w') := TK
      have HX : Hid (∀ W, Calls Tryd.prog 17 #[.int .u64 u] W fun e w' => e = .returned (.string (tx (dgs 16 u))) ∧ w' = W) := fun W => hex_c u (by omega) W
      have hhl := dgs_len (b := 16) (by omega) 8 u (Nat.lt_of_le_of_lt hu (by decide))
      have f4s : (tx (dgs 16 u)).size ≤ 9 := by rw [tx_size]; exact hhl.1
      have hY := hid_as (text_hex (q + 2) (dgs 16 u))
      have hYs : (kn (q + 2) ++ ⟨#[35, 49, 54, 35]⟩ ++ tx (dgs 16 u)).size ≤ 1000000 := by
        rw [Lib.size_eq, hY.out]; simp; omega
      have hl7 : (nmK (q + 2) ++ 35 :: 49 :: 54 :: 35 :: dgs 16 u).length ≤ 65536 := by simp; omega
      obtain ⟨_, _, _, _, _, _, _, c7, lr7, e7, hd1, hd2, hd3⟩ := nmK_is (q + 2) hk2 hk10 (49 :: 54 :: 35 :: dgs 16 u)
      rw [← e7] at hd3
      have hty7 := typed_hex hk2 hk10 hu
      rw [ltR_yes (by omega) (by omega) (by omega)] at hty7
      have hb7 := toks_one (il := false) e7 hl7 (hd2 false) hd3 (by rw [hty7]) (by rw [hty7]; simp; omega)
      rw [hty7] at hb7
      have TK2 := hid_as (fun W hW => tokens_yes (s := kn (q + 2) ++ ⟨#[35, 49, 54, 35]⟩ ++ tx (dgs 16 u)) (il := false) (by rw [hY.out]; exact hb7) hYs W hW)
      replace TK2 : Hid (∀ W, Tabs W → Calls Tryd.prog 9 #[.string (kn (q + 2) ++ ⟨#[35, 49, 54, 35]⟩ ++ tx (dgs 16 u)), .bool false] W fun e w' => ∃ g cap, e = .returned (.tuple #[.slice (some ⟨g, 0, none⟩) 2 cap, .nilIface]) ∧ W.heap.size ≤ g ∧ g < w'.heap.size ∧ Laid w' g [((⟨3, q + 2, (u : Int), []⟩ : Tk), 0), (nul, _)] ∧ Below W.heap.size W w') := TK2
      clear hty hb e0 hc1 hc2 hc3 hX hl6 hdl hty7 hb7 e7 hd1 hd2 hd3 hY hl7 hhl
      go_wp2_with (first
        | (go_at_call 15; (with_reducible refine (DG.out _).mono ?_); rintro e w' ⟨rfl, hw⟩; subst w')
        | (go_at_call 17; (with_reducible refine (HX.out _).mono ?_); rintro e w' ⟨rfl, hw⟩; subst w')
        | (go_at_call 9; (first | ((with_reducible refine (TK.out _ hTn.out).mono ?_); rintro e w3 ⟨g3, p3, rfl, z3, y3, l3, b3⟩; have hT3 := hid_as (hTn.out.below b3); have hB3 := hid_as (below_and hBn.out b3); have q1 : w3.cell? ⟨g3, 1, none⟩ = some (.int .i64 (2 + (q : Int))) := (l3 1 _ rfl).trans (by show some (Value.int .i64 ((q + 2 : Nat) : Int)) = _; rw [show ((q + 2 : Nat) : Int) = 2 + (q : Int) by omega]); have q2 := l3 2 _ rfl; clear b3 l3) | ((with_reducible refine (TK2.out _ hT3.out).mono ?_); rintro e w5 ⟨g5, p5, rfl, z5, y5, l5, b5⟩; have hB5 := hid_as (below_and hB3.out b5); have r2 := l5 2 _ rfl; clear b5 l5)))
        | (go_at_call 16; (with_reducible refine (told_nil _).mono ?_); rintro e w' ⟨rfl, hw⟩; subst w'))
      go_ret
      exact ⟨rfl, hB5.out⟩
end Go.Proofs.YtnponognncdkcaaDoor
