/- The law of depths: statements (stage 13). -/
import Derived.Test.YtgdoanhemgklpaaGreatDoorVV
namespace Go.Proofs.YtgdoanhemgklpaaGreatDoor
open Go.RowKit
open Adr Lx Sx
set_option maxHeartbeats 4000000 in
set_option maxRecDepth 100000 in
theorem deep_4y (n how : Int) (N : Nat) (hN : N < 80) (hcc : chP N = true) (P1 : Hid (∀ W, Calls Tryz.prog 12 #[.int .i64 n, .int .i64 80] W fun e w' => e = .returned (.int .i64 (N : Int)) ∧ w' = W)) (P2 : Hid (∀ W, Calls Tryz.prog 12 #[.int .i64 how, .int .i64 5] W fun e w' => e = .returned (.int .i64 4) ∧ w' = W)) (h32 : N ≤ 32) (w : World) (hT : Tabs w) : Calls Tryz.prog 4 #[.int .i64 n, .int .i64 how] w fun e w' => e = .returned (.bool true) ∧ Below w.heap.size w w' := by
  have KN := hid_as (fun W hW => known_c W hW)
  have hc := hid_as hcc
  have T0 := hid_as hT
  have h32' : (N : Int) ≤ 32 := by omega
  have h33' : ¬ (32 : Int) < N := by omega
  clear hT hcc
  go_enter Tryz.func4, Tryz.ntmps4
  go_wp2_with (first
    | (go_at_call 6; (with_reducible refine (KN.out _ T0.out).mono ?_); rintro e w1 ⟨rfl, b1⟩; have T1 := hid_as (T0.out.below b1); have K1 := hid_as b1; clear b1)
    | (go_at_call 12; (first | (with_reducible refine (P1.out _).mono ?_) | (with_reducible refine (P2.out _).mono ?_)); rintro e w' ⟨rfl, hw⟩; subst w'))
  go_loop [8, 9, 10, 11] (fun a b d c => ∃ (k : Nat) (X Y : ByteArray), k ≤ N ∧ a = .string X ∧ b = .string Y ∧ d = .int .i64 (if 32 < k then (330 : Int) else 0) ∧ c = .int .i64 k ∧ Hid (X.data.toList = [80, 82, 79, 71, 82, 65, 77, 32, 112, 32] ++ rept [73, 70, 32, 97, 32, 84, 72, 69, 78, 32] k) ∧ Hid (Y.data.toList = reph [69, 78, 68, 95, 73, 70, 59, 32] [32, 69, 78, 68, 95, 80, 82, 79, 71, 82, 65, 77] k) ∧ X.size = 10 + 10 * k ∧ Y.size ≤ 700) (fun _ _ _ c => N - (intOf c).toNat)
  case atStart => exact ⟨0, ⟨#[80, 82, 79, 71, 82, 65, 77, 32, 112, 32]⟩, ⟨#[32, 69, 78, 68, 95, 80, 82, 79, 71, 82, 65, 77]⟩, by omega, rfl, rfl, rfl, rfl, hid_as rfl, hid_as rfl, by decide, by decide⟩
  case round =>
    obtain ⟨k, X, Y, hk, rfl, rfl, rfl, rfl, hX, hY, zX, zY⟩ := hrel
    by_cases hlt : k < N
    · have hlt' : (k : Int) < N := by omega
      have X1 : Hid ((X ++ (⟨#[73, 70, 32, 97, 32, 84, 72, 69, 78, 32]⟩ : ByteArray)).data.toList = [80, 82, 79, 71, 82, 65, 77, 32, 112, 32] ++ rept [73, 70, 32, 97, 32, 84, 72, 69, 78, 32] (k + 1)) := hid_as (by rw [bcat, hX.out, List.append_assoc]; rfl)
      have Y1 : Hid (((⟨#[69, 78, 68, 95, 73, 70, 59, 32]⟩ : ByteArray) ++ Y).data.toList = reph [69, 78, 68, 95, 73, 70, 59, 32] [32, 69, 78, 68, 95, 80, 82, 79, 71, 82, 65, 77] (k + 1)) := hid_as (by rw [bcat, hY.out]; rfl)
      have X2 : (X ++ (⟨#[73, 70, 32, 97, 32, 84, 72, 69, 78, 32]⟩ : ByteArray)).size = 10 + 10 * (k + 1) := by rw [Lib.size_eq, bcat, List.length_append, ← Lib.size_eq, zX]; show 10 + 10 * k + 10 = _; omega
      have Y2 : ((⟨#[69, 78, 68, 95, 73, 70, 59, 32]⟩ : ByteArray) ++ Y).size ≤ 700 := by rw [Lib.size_eq, Y1.out, reph_len]; show (k + 1) * 8 + 12 ≤ 700; omega
      by_cases h2 : k = 32
      · omega
      · have h2' : ((k : Int) == 32) = false := by rw [beq_eq_false_iff_ne]; omega
        have h2i : (if 32 < k + 1 then (330 : Int) else 0) = if 32 < k then (330 : Int) else 0 := by split <;> split <;> first | rfl | omega
        rw [← h2i]
        generalize hq : (if 32 < k + 1 then (330 : Int) else 0) = Q at *
        go_wp2
        go_round
        case rel => exact ⟨k + 1, X ++ ⟨#[73, 70, 32, 97, 32, 84, 72, 69, 78, 32]⟩, ⟨#[69, 78, 68, 95, 73, 70, 59, 32]⟩ ++ Y, by omega, by first | rfl | simp, by first | rfl | simp, by rw [hq], by go_num, X1, Y1, X2, Y2⟩
        case measure => simp [intOf]; omega
    · obtain rfl : k = N := by omega
      have hlt' : ¬ (k : Int) < k := by omega
      have hS : Hid ((X ++ Y).data.toList = ppT k) := hid_as (by rw [bcat, hX.out, hY.out]; rfl)
      have hz : (X ++ Y).size ≤ 5000 := by rw [Lib.size_eq, bcat, List.length_append, ← Lib.size_eq, ← Lib.size_eq]; omega
      have C : Hid (∀ W, Tabs W → Calls Tryz.prog 13 #[.string (X ++ Y)] W fun e w' => (∃ nm sa sb sc va vb vc ba bb bc, e = .returned (.tuple #[.agg #[.string nm, .slice sa sb sc, .slice va vb vc, .bool false, .slice ba bb bc, .slice none 0 0], .nilIface])) ∧ Below W.heap.size W w') := fun W hW => deepP_yes hc.out h32 _ hS.out hz W hW
      rw [if_neg (by omega)]
      have TN := hid_as told_nil
      go_wp2_with (first
        | (go_at_call 13; (with_reducible refine (C.out _ T1.out).mono ?_); rintro e w2 ⟨⟨nm2, sa2, sb2, sc2, va2, vb2, vc2, ba2, bb2, bc2, rfl⟩, b2⟩; have K2 := hid_as (below_and (below_and K1.out b2) (below_new1 w2 (.cells #[.string nm2, .slice sa2 sb2 sc2, .slice va2 vb2 vc2, .bool false, .slice ba2 bb2 bc2, .slice none 0 0] 42))); clear b2)
        | (go_at_call 8; (with_reducible refine (TN.out _).mono ?_); rintro e w' ⟨rfl, hw⟩; subst w'))
      go_ret
      exact ⟨rfl, K2.out⟩
set_option maxHeartbeats 4000000 in
set_option maxRecDepth 100000 in
theorem deep_4n (n how : Int) (N : Nat) (hN : N < 80) (hcc : chP N = true) (P1 : Hid (∀ W, Calls Tryz.prog 12 #[.int .i64 n, .int .i64 80] W fun e w' => e = .returned (.int .i64 (N : Int)) ∧ w' = W)) (P2 : Hid (∀ W, Calls Tryz.prog 12 #[.int .i64 how, .int .i64 5] W fun e w' => e = .returned (.int .i64 4) ∧ w' = W)) (h32 : ¬ N ≤ 32) (w : World) (hT : Tabs w) : Calls Tryz.prog 4 #[.int .i64 n, .int .i64 how] w fun e w' => e = .returned (.bool true) ∧ Below w.heap.size w w' := by
  have KN := hid_as (fun W hW => known_c W hW)
  have hc := hid_as hcc
  have T0 := hid_as hT
  have h32' : ¬ (N : Int) ≤ 32 := by omega
  have h33' : (32 : Int) < N := by omega
  clear hT hcc
  go_enter Tryz.func4, Tryz.ntmps4
  go_wp2_with (first
    | (go_at_call 6; (with_reducible refine (KN.out _ T0.out).mono ?_); rintro e w1 ⟨rfl, b1⟩; have T1 := hid_as (T0.out.below b1); have K1 := hid_as b1; clear b1)
    | (go_at_call 12; (first | (with_reducible refine (P1.out _).mono ?_) | (with_reducible refine (P2.out _).mono ?_)); rintro e w' ⟨rfl, hw⟩; subst w'))
  go_loop [8, 9, 10, 11] (fun a b d c => ∃ (k : Nat) (X Y : ByteArray), k ≤ N ∧ a = .string X ∧ b = .string Y ∧ d = .int .i64 (if 32 < k then (330 : Int) else 0) ∧ c = .int .i64 k ∧ Hid (X.data.toList = [80, 82, 79, 71, 82, 65, 77, 32, 112, 32] ++ rept [73, 70, 32, 97, 32, 84, 72, 69, 78, 32] k) ∧ Hid (Y.data.toList = reph [69, 78, 68, 95, 73, 70, 59, 32] [32, 69, 78, 68, 95, 80, 82, 79, 71, 82, 65, 77] k) ∧ X.size = 10 + 10 * k ∧ Y.size ≤ 700) (fun _ _ _ c => N - (intOf c).toNat)
  case atStart => exact ⟨0, ⟨#[80, 82, 79, 71, 82, 65, 77, 32, 112, 32]⟩, ⟨#[32, 69, 78, 68, 95, 80, 82, 79, 71, 82, 65, 77]⟩, by omega, rfl, rfl, rfl, rfl, hid_as rfl, hid_as rfl, by decide, by decide⟩
  case round =>
    obtain ⟨k, X, Y, hk, rfl, rfl, rfl, rfl, hX, hY, zX, zY⟩ := hrel
    by_cases hlt : k < N
    · have hlt' : (k : Int) < N := by omega
      have X1 : Hid ((X ++ (⟨#[73, 70, 32, 97, 32, 84, 72, 69, 78, 32]⟩ : ByteArray)).data.toList = [80, 82, 79, 71, 82, 65, 77, 32, 112, 32] ++ rept [73, 70, 32, 97, 32, 84, 72, 69, 78, 32] (k + 1)) := hid_as (by rw [bcat, hX.out, List.append_assoc]; rfl)
      have Y1 : Hid (((⟨#[69, 78, 68, 95, 73, 70, 59, 32]⟩ : ByteArray) ++ Y).data.toList = reph [69, 78, 68, 95, 73, 70, 59, 32] [32, 69, 78, 68, 95, 80, 82, 79, 71, 82, 65, 77] (k + 1)) := hid_as (by rw [bcat, hY.out]; rfl)
      have X2 : (X ++ (⟨#[73, 70, 32, 97, 32, 84, 72, 69, 78, 32]⟩ : ByteArray)).size = 10 + 10 * (k + 1) := by rw [Lib.size_eq, bcat, List.length_append, ← Lib.size_eq, zX]; show 10 + 10 * k + 10 = _; omega
      have Y2 : ((⟨#[69, 78, 68, 95, 73, 70, 59, 32]⟩ : ByteArray) ++ Y).size ≤ 700 := by rw [Lib.size_eq, Y1.out, reph_len]; show (k + 1) * 8 + 12 ≤ 700; omega
      by_cases h2 : k = 32
      · subst h2
        have zX' : (X.size : Int) = 330 := by omega
        go_wp2
        go_round
        case rel => exact ⟨33, X ++ ⟨#[73, 70, 32, 97, 32, 84, 72, 69, 78, 32]⟩, ⟨#[69, 78, 68, 95, 73, 70, 59, 32]⟩ ++ Y, by omega, by first | rfl | simp, by first | rfl | simp, by rw [if_pos (by decide)], by go_num, X1, Y1, X2, Y2⟩
        case measure => simp [intOf]; omega
      · have h2' : ((k : Int) == 32) = false := by rw [beq_eq_false_iff_ne]; omega
        have h2i : (if 32 < k + 1 then (330 : Int) else 0) = if 32 < k then (330 : Int) else 0 := by split <;> split <;> first | rfl | omega
        rw [← h2i]
        generalize hq : (if 32 < k + 1 then (330 : Int) else 0) = Q at *
        go_wp2
        go_round
        case rel => exact ⟨k + 1, X ++ ⟨#[73, 70, 32, 97, 32, 84, 72, 69, 78, 32]⟩, ⟨#[69, 78, 68, 95, 73, 70, 59, 32]⟩ ++ Y, by omega, by first | rfl | simp, by first | rfl | simp, by rw [hq], by go_num, X1, Y1, X2, Y2⟩
        case measure => simp [intOf]; omega
    · obtain rfl : k = N := by omega
      have hlt' : ¬ (k : Int) < k := by omega
      have hS : Hid ((X ++ Y).data.toList = ppT k) := hid_as (by rw [bcat, hX.out, hY.out]; rfl)
      have hz : (X ++ Y).size ≤ 5000 := by rw [Lib.size_eq, bcat, List.length_append, ← Lib.size_eq, ← Lib.size_eq]; omega
      have C : Hid (∀ W, Tabs W → Calls Tryz.prog 13 #[.string (X ++ Y)] W fun e w' => ∃ g, e = .returned (.tuple #[.agg #[.string ⟨#[]⟩, .slice none 0 0, .slice none 0 0, .bool false, .slice none 0 0, .slice none 0 0], .iface 60 (.pointer (some ⟨g, 0, none⟩))]) ∧ g < w'.heap.size ∧ w'.cell? ⟨g, 0, none⟩ = some (.int .i64 ((330 : Nat) : Int)) ∧ w'.cell? ⟨g, 1, none⟩ = some (.int .i64 ((131 : Nat) : Int)) ∧ Below W.heap.size W w') := fun W hW => deepP_no hc.out h32 _ hS.out hz W hW
      rw [if_pos (by omega)]
      have TE : Hid (∀ W g, Tabs W → W.cell? ⟨g, 0, none⟩ = some (.int .i64 ((330 : Nat) : Int)) → W.cell? ⟨g, 1, none⟩ = some (.int .i64 ((131 : Nat) : Int)) → Calls Tryz.prog 8 #[.iface 60 (.pointer (some ⟨g, 0, none⟩))] W fun e w' => e = .returned (.tuple #[.int .i64 330, .int .i64 131]) ∧ Below W.heap.size W w') := fun W g hW h0 h1 => told_err g 330 131 W hW h0 h1
      go_wp2_with (first
        | (go_at_call 13; (with_reducible refine (C.out _ T1.out).mono ?_); rintro e w2 ⟨g2, rfl, hg2, c0, c1, b2⟩; have K2 := hid_as (below_and (below_and K1.out b2) (below_new1 w2 (.cells #[.string ⟨#[]⟩, .slice none 0 0, .slice none 0 0, .bool false, .slice none 0 0, .slice none 0 0] 42))); have T2 := hid_as ((T1.out.below b2).below (below_new1 w2 (.cells #[.string ⟨#[]⟩, .slice none 0 0, .slice none 0 0, .bool false, .slice none 0 0, .slice none 0 0] 42))); have d0 := (World.cell?_alloc_lt w2 (.cells #[.string ⟨#[]⟩, .slice none 0 0, .slice none 0 0, .bool false, .slice none 0 0, .slice none 0 0] 42) ⟨g2, 0, none⟩ hg2).trans c0; have d1 := (World.cell?_alloc_lt w2 (.cells #[.string ⟨#[]⟩, .slice none 0 0, .slice none 0 0, .bool false, .slice none 0 0, .slice none 0 0] 42) ⟨g2, 1, none⟩ hg2).trans c1; clear b2 c0 c1)
        | (go_at_call 8; (with_reducible refine (TE.out _ _ T2.out d0 d1).mono ?_); rintro e w3 ⟨rfl, b3⟩; have K3 := hid_as (below_and K2.out b3); clear b3))
      go_ret
      exact ⟨rfl, K3.out⟩
end Go.Proofs.YtgdoanhemgklpaaGreatDoor
