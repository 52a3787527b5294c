/- The law of depths (stage 13). -/
import Derived.Test.YtgdoanhemgklpaaGreatDoorVT
import Derived.Test.YtgdoanhemgklpaaGreatDoorVU0
import Derived.Test.YtgdoanhemgklpaaGreatDoorD1
namespace Go.Proofs.YtgdoanhemgklpaaGreatDoor
open Go.RowKit
open Adr Lx Sx
theorem bcat (a b : ByteArray) : (a ++ b).data.toList = a.data.toList ++ b.data.toList := by simp
theorem tx_is {s : ByteArray} {l : List UInt8} (h : s.data.toList = l) : s = tx l := by rw [← h, tx_of]
theorem rept_len (l : List UInt8) : ∀ k, (rept l k).length = k * l.length
  | 0 => by simp [rept]
  | k + 1 => by unfold rept; rw [List.length_append, rept_len l k, Nat.succ_mul]
theorem reph_len (l z : List UInt8) : ∀ k, (reph l z k).length = k * l.length + z.length
  | 0 => by simp [reph]
  | k + 1 => by unfold reph; rw [List.length_append, reph_len l z k, Nat.succ_mul]; omega
theorem deepE_yes {o s : List UInt8} {one n : Nat} (hc : chE o s one n = true) (hn : n < 32) (S : ByteArray) (hS : S.data.toList = dpT o s n) (hz : S.size ≤ 1000) (W : World) (hW : Tabs W) : Calls Tryz.prog 7 #[.string S] W fun e w' => (∃ o kd n nm fl lp ln lc p, e = .returned (.tuple #[.agg #[.int .i64 o, .int .i64 kd, .int .i64 n, .string nm, .string fl, .slice lp ln lc, .int .i64 p], .nilIface])) ∧ Below W.heap.size W w' := by
  unfold chE at hc
  rw [if_pos hn, ← hS] at hc
  simp only [Bool.and_eq_true, beq_iff_eq] at hc
  obtain ⟨h1, h2, h3⟩ := hc
  have ht : toks S.data.toList false = ((toks S.data.toList false).1, none) := Prod.ext rfl (by rw [← Option.isNone_iff_eq_none]; exact h1)
  obtain ⟨t, hv⟩ := Option.isSome_iff_exists.1 h2
  refine (expr_yes S W hW (by omega) ht (ok_of hv h3)).mono ?_
  rintro e w' ⟨o, kd, n, nm, fl, lp, ln, lc, p, rfl, _, b⟩
  exact ⟨⟨o, kd, n, nm, fl, lp, ln, lc, p, rfl⟩, b⟩
theorem deepE_no {o s : List UInt8} {one n : Nat} (hc : chE o s one n = true) (hn : ¬ n < 32) (S : ByteArray) (hS : S.data.toList = dpT o s n) (hz : S.size ≤ 1000) (W : World) (hW : Tabs W) : Calls Tryz.prog 7 #[.string S] W fun e w' => ∃ g, e = .returned (.tuple #[.agg #[.int .i64 0, .int .i64 0, .int .i64 0, .string ⟨#[]⟩, .string ⟨#[]⟩, .slice none 0 0, .int .i64 0], .iface 60 (.pointer (some ⟨g, 0, none⟩))]) ∧ g < w'.heap.size ∧ w'.cell? ⟨g, 0, none⟩ = some (.int .i64 ((32 * one : Nat) : Int)) ∧ w'.cell? ⟨g, 1, none⟩ = some (.int .i64 ((131 : Nat) : Int)) ∧ Below W.heap.size W w' := by
  unfold chE at hc
  rw [if_neg hn, ← hS] at hc
  simp only [Bool.and_eq_true, beq_iff_eq] at hc
  obtain ⟨h1, ⟨h2, h3⟩, h4⟩ := hc
  have ht : toks S.data.toList false = ((toks S.data.toList false).1, none) := Prod.ext rfl (by rw [← Option.isNone_iff_eq_none]; exact h1)
  have q := no_of h2
  rw [h3] at q
  refine (expr_no S W hW (by omega) ht q).mono ?_
  rintro e w' ⟨g, rfl, _, hg, c0, c1, b⟩
  rw [h4] at c0
  exact ⟨g, rfl, hg, c0, c1, b⟩
theorem deepP_yes {n : Nat} (hc : chP n = true) (hn : n ≤ 32) (S : ByteArray) (hS : S.data.toList = ppT n) (hz : S.size ≤ 5000) (W : World) (hW : Tabs W) : Calls Tryz.prog 13 #[.string S] W fun e w' => (∃ nm sa sb sc va vb vc ba bb bc, e = .returned (.tuple #[.agg #[.string nm, .slice sa sb sc, .slice va vb vc, .bool false, .slice ba bb bc, .slice none 0 0], .nilIface])) ∧ Below W.heap.size W w' := by
  unfold chP at hc
  rw [if_pos hn, ← hS] at hc
  simp only [Bool.and_eq_true, beq_iff_eq] at hc
  obtain ⟨h1, h2, h3⟩ := hc
  have ht : toks S.data.toList false = ((toks S.data.toList false).1, none) := Prod.ext rfl (by rw [← Option.isNone_iff_eq_none]; exact h1)
  obtain ⟨⟨nm, nv, l⟩, hv⟩ := Option.isSome_iff_exists.1 h2
  refine (parse_yes S W hW (by omega) ht (ok_of hv h3)).mono ?_
  rintro e w' ⟨sa, sb, sc, va, vc, ba, bc, xs, rfl, _, _, b⟩
  exact ⟨⟨_, sa, sb, sc, va, nv, vc, ba, l.length, bc, rfl⟩, b⟩
theorem deepP_no {n : Nat} (hc : chP n = true) (hn : ¬ n ≤ 32) (S : ByteArray) (hS : S.data.toList = ppT n) (hz : S.size ≤ 5000) (W : World) (hW : Tabs W) : Calls Tryz.prog 13 #[.string S] W fun e w' => ∃ g, e = .returned (.tuple #[.agg #[.string ⟨#[]⟩, .slice none 0 0, .slice none 0 0, .bool false, .slice none 0 0, .slice none 0 0], .iface 60 (.pointer (some ⟨g, 0, none⟩))]) ∧ g < w'.heap.size ∧ w'.cell? ⟨g, 0, none⟩ = some (.int .i64 ((330 : Nat) : Int)) ∧ w'.cell? ⟨g, 1, none⟩ = some (.int .i64 ((131 : Nat) : Int)) ∧ Below W.heap.size W w' := by
  unfold chP at hc
  rw [if_neg hn, ← hS] at hc
  simp only [Bool.and_eq_true, beq_iff_eq] at hc
  obtain ⟨h1, ⟨h2, h3⟩, h4⟩ := hc
  have ht : toks S.data.toList false = ((toks S.data.toList false).1, none) := Prod.ext rfl (by rw [← Option.isNone_iff_eq_none]; exact h1)
  have q := no_of h2
  rw [h3] at q
  refine (parse_no S W hW (by omega) ht q).mono ?_
  rintro e w' ⟨g, rfl, _, hg, c0, c1, b⟩
  rw [h4] at c0
  exact ⟨g, rfl, hg, c0, c1, b⟩
set_option maxHeartbeats 4000000 in
set_option maxRecDepth 100000 in
theorem deep_0y (n how : Int) (N : Nat) (hN : N < 80) (hcc : chE [40] [41] 1 N = true) (P1 : Hid (∀ W, Calls Tryz.prog 12 #[.int .i64 n, .int .i64 80] W fun e w' => e = .returned (.int .i64 (N : Int)) ∧ w' = W)) (P2 : Hid (∀ W, Calls Tryz.prog 12 #[.int .i64 how, .int .i64 5] W fun e w' => e = .returned (.int .i64 0) ∧ w' = W)) (h32 : N < 32) (w : World) (hT : Tabs w) : Calls Tryz.prog 4 #[.int .i64 n, .int .i64 how] w fun e w' => e = .returned (.bool true) ∧ Below w.heap.size w w' := by
  have KN := hid_as (fun W hW => known_c W hW)
  have hc := hid_as hcc
  have T0 := hid_as hT
  have h32' : (N : Int) < 32 := by omega
  have h33' : ¬ (32 : Int) ≤ N := by omega
  clear hT hcc
  go_enter Tryz.func4, Tryz.ntmps4
  go_wp2_with (first
    | (go_at_call 6; (with_reducible refine (KN.out _ T0.out).mono ?_); rintro e w1 ⟨rfl, b1⟩; have T1 := hid_as (T0.out.below b1); have K1 := hid_as b1; clear b1)
    | (go_at_call 12; (first | (with_reducible refine (P1.out _).mono ?_) | (with_reducible refine (P2.out _).mono ?_)); rintro e w' ⟨rfl, hw⟩; subst w'))
  go_loop [16, 17, 18] (fun a b c => ∃ (k : Nat) (X Y : ByteArray), k ≤ N ∧ a = .string X ∧ b = .string Y ∧ c = .int .i64 k ∧ Hid (X.data.toList = rept [40] k) ∧ Hid (Y.data.toList = rept [41] k) ∧ X.size ≤ 200 ∧ Y.size ≤ 200) (fun _ _ c => N - (intOf c).toNat)
  case atStart => exact ⟨0, ⟨#[]⟩, ⟨#[]⟩, by omega, rfl, rfl, rfl, hid_as rfl, hid_as rfl, by decide, by decide⟩
  case round =>
    obtain ⟨k, X, Y, hk, rfl, rfl, rfl, hX, hY, zX, zY⟩ := hrel
    by_cases hlt : k < N
    · have hlt' : (k : Int) < N := by omega
      have X1 : Hid ((X ++ (⟨#[40]⟩ : ByteArray)).data.toList = rept [40] (k + 1)) := hid_as (by rw [bcat, hX.out]; rfl)
      have Y1 : Hid ((Y ++ (⟨#[41]⟩ : ByteArray)).data.toList = rept [41] (k + 1)) := hid_as (by rw [bcat, hY.out]; rfl)
      have X2 : (X ++ (⟨#[40]⟩ : ByteArray)).size ≤ 200 := by rw [Lib.size_eq, X1.out, rept_len]; show (k + 1) * 1 ≤ 200; omega
      have Y2 : (Y ++ (⟨#[41]⟩ : ByteArray)).size ≤ 200 := by rw [Lib.size_eq, Y1.out, rept_len]; show (k + 1) * 1 ≤ 200; omega
      go_wp2
      go_round
      case rel => exact ⟨k + 1, X ++ ⟨#[40]⟩, Y ++ ⟨#[41]⟩, by omega, by first | rfl | simp, by first | rfl | simp, by go_num, X1, Y1, X2, Y2⟩
      case measure => simp [intOf]; omega
    · obtain rfl : k = N := by omega
      have hlt' : ¬ (k : Int) < k := by omega
      have hS : Hid (((X ++ (⟨#[120]⟩ : ByteArray)) ++ Y).data.toList = dpT [40] [41] k) := hid_as (by rw [bcat, bcat, hX.out, hY.out]; rfl)
      have hz : ((X ++ (⟨#[120]⟩ : ByteArray)) ++ Y).size ≤ 1000 := by rw [Lib.size_eq, bcat, bcat, List.length_append, List.length_append, ← Lib.size_eq, ← Lib.size_eq]; show X.size + 1 + Y.size ≤ 1000; omega
      have C : Hid (∀ W, Tabs W → Calls Tryz.prog 7 #[.string ((X ++ (⟨#[120]⟩ : ByteArray)) ++ Y)] W fun e w' => (∃ o kd n nm fl lp ln lc p, e = .returned (.tuple #[.agg #[.int .i64 o, .int .i64 kd, .int .i64 n, .string nm, .string fl, .slice lp ln lc, .int .i64 p], .nilIface])) ∧ Below W.heap.size W w') := fun W hW => deepE_yes hc.out h32 _ hS.out hz W hW
      have z1 : (X ++ (⟨#[120]⟩ : ByteArray)).size ≤ 201 := by rw [Lib.size_eq, bcat, List.length_append, ← Lib.size_eq]; show X.size + 1 ≤ 201; omega
      have TN := hid_as told_nil
      go_wp2_with (first
        | (go_at_call 7; (with_reducible refine (C.out _ T1.out).mono ?_); rintro e w2 ⟨⟨o2, kd2, v2, nm2, fl2, lp2, ln2, lc2, p2, rfl⟩, b2⟩; have K2 := hid_as (below_and (below_and K1.out b2) (below_new1 w2 (.cells #[.int .i64 o2, .int .i64 kd2, .int .i64 v2, .string nm2, .string fl2, .slice lp2 ln2 lc2, .int .i64 p2] 25))); clear b2)
        | (go_at_call 8; (with_reducible refine (TN.out _).mono ?_); rintro e w' ⟨rfl, hw⟩; subst w'))
      go_ret
      exact ⟨rfl, K2.out⟩
set_option maxHeartbeats 4000000 in
set_option maxRecDepth 100000 in
theorem deep_0n (n how : Int) (N : Nat) (hN : N < 80) (hcc : chE [40] [41] 1 N = true) (P1 : Hid (∀ W, Calls Tryz.prog 12 #[.int .i64 n, .int .i64 80] W fun e w' => e = .returned (.int .i64 (N : Int)) ∧ w' = W)) (P2 : Hid (∀ W, Calls Tryz.prog 12 #[.int .i64 how, .int .i64 5] W fun e w' => e = .returned (.int .i64 0) ∧ w' = W)) (h32 : ¬ N < 32) (w : World) (hT : Tabs w) : Calls Tryz.prog 4 #[.int .i64 n, .int .i64 how] w fun e w' => e = .returned (.bool true) ∧ Below w.heap.size w w' := by
  have KN := hid_as (fun W hW => known_c W hW)
  have hc := hid_as hcc
  have T0 := hid_as hT
  have h32' : ¬ (N : Int) < 32 := by omega
  have h33' : (32 : Int) ≤ N := by omega
  clear hT hcc
  go_enter Tryz.func4, Tryz.ntmps4
  go_wp2_with (first
    | (go_at_call 6; (with_reducible refine (KN.out _ T0.out).mono ?_); rintro e w1 ⟨rfl, b1⟩; have T1 := hid_as (T0.out.below b1); have K1 := hid_as b1; clear b1)
    | (go_at_call 12; (first | (with_reducible refine (P1.out _).mono ?_) | (with_reducible refine (P2.out _).mono ?_)); rintro e w' ⟨rfl, hw⟩; subst w'))
  go_loop [16, 17, 18] (fun a b c => ∃ (k : Nat) (X Y : ByteArray), k ≤ N ∧ a = .string X ∧ b = .string Y ∧ c = .int .i64 k ∧ Hid (X.data.toList = rept [40] k) ∧ Hid (Y.data.toList = rept [41] k) ∧ X.size ≤ 200 ∧ Y.size ≤ 200) (fun _ _ c => N - (intOf c).toNat)
  case atStart => exact ⟨0, ⟨#[]⟩, ⟨#[]⟩, by omega, rfl, rfl, rfl, hid_as rfl, hid_as rfl, by decide, by decide⟩
  case round =>
    obtain ⟨k, X, Y, hk, rfl, rfl, rfl, hX, hY, zX, zY⟩ := hrel
    by_cases hlt : k < N
    · have hlt' : (k : Int) < N := by omega
      have X1 : Hid ((X ++ (⟨#[40]⟩ : ByteArray)).data.toList = rept [40] (k + 1)) := hid_as (by rw [bcat, hX.out]; rfl)
      have Y1 : Hid ((Y ++ (⟨#[41]⟩ : ByteArray)).data.toList = rept [41] (k + 1)) := hid_as (by rw [bcat, hY.out]; rfl)
      have X2 : (X ++ (⟨#[40]⟩ : ByteArray)).size ≤ 200 := by rw [Lib.size_eq, X1.out, rept_len]; show (k + 1) * 1 ≤ 200; omega
      have Y2 : (Y ++ (⟨#[41]⟩ : ByteArray)).size ≤ 200 := by rw [Lib.size_eq, Y1.out, rept_len]; show (k + 1) * 1 ≤ 200; omega
      go_wp2
      go_round
      case rel => exact ⟨k + 1, X ++ ⟨#[40]⟩, Y ++ ⟨#[41]⟩, by omega, by first | rfl | simp, by first | rfl | simp, by go_num, X1, Y1, X2, Y2⟩
      case measure => simp [intOf]; omega
    · obtain rfl : k = N := by omega
      have hlt' : ¬ (k : Int) < k := by omega
      have hS : Hid (((X ++ (⟨#[120]⟩ : ByteArray)) ++ Y).data.toList = dpT [40] [41] k) := hid_as (by rw [bcat, bcat, hX.out, hY.out]; rfl)
      have hz : ((X ++ (⟨#[120]⟩ : ByteArray)) ++ Y).size ≤ 1000 := by rw [Lib.size_eq, bcat, bcat, List.length_append, List.length_append, ← Lib.size_eq, ← Lib.size_eq]; show X.size + 1 + Y.size ≤ 1000; omega
      have C : Hid (∀ W, Tabs W → Calls Tryz.prog 7 #[.string ((X ++ (⟨#[120]⟩ : ByteArray)) ++ Y)] W fun e w' => ∃ g, e = .returned (.tuple #[.agg #[.int .i64 0, .int .i64 0, .int .i64 0, .string ⟨#[]⟩, .string ⟨#[]⟩, .slice none 0 0, .int .i64 0], .iface 60 (.pointer (some ⟨g, 0, none⟩))]) ∧ g < w'.heap.size ∧ w'.cell? ⟨g, 0, none⟩ = some (.int .i64 ((32 : Nat) : Int)) ∧ w'.cell? ⟨g, 1, none⟩ = some (.int .i64 ((131 : Nat) : Int)) ∧ Below W.heap.size W w') := fun W hW => deepE_no hc.out h32 _ hS.out hz W hW
      have z1 : (X ++ (⟨#[120]⟩ : ByteArray)).size ≤ 201 := by rw [Lib.size_eq, bcat, List.length_append, ← Lib.size_eq]; show X.size + 1 ≤ 201; omega
      have TE : Hid (∀ W g, Tabs W → W.cell? ⟨g, 0, none⟩ = some (.int .i64 ((32 : Nat) : Int)) → W.cell? ⟨g, 1, none⟩ = some (.int .i64 ((131 : Nat) : Int)) → Calls Tryz.prog 8 #[.iface 60 (.pointer (some ⟨g, 0, none⟩))] W fun e w' => e = .returned (.tuple #[.int .i64 32, .int .i64 131]) ∧ Below W.heap.size W w') := fun W g hW h0 h1 => told_err g 32 131 W hW h0 h1
      go_wp2_with (first
        | (go_at_call 7; (with_reducible refine (C.out _ T1.out).mono ?_); rintro e w2 ⟨g2, rfl, hg2, c0, c1, b2⟩; have K2 := hid_as (below_and (below_and K1.out b2) (below_new1 w2 (.cells #[.int .i64 0, .int .i64 0, .int .i64 0, .string ⟨#[]⟩, .string ⟨#[]⟩, .slice none 0 0, .int .i64 0] 25))); have T2 := hid_as ((T1.out.below b2).below (below_new1 w2 (.cells #[.int .i64 0, .int .i64 0, .int .i64 0, .string ⟨#[]⟩, .string ⟨#[]⟩, .slice none 0 0, .int .i64 0] 25))); have d0 := (World.cell?_alloc_lt w2 (.cells #[.int .i64 0, .int .i64 0, .int .i64 0, .string ⟨#[]⟩, .string ⟨#[]⟩, .slice none 0 0, .int .i64 0] 25) ⟨g2, 0, none⟩ hg2).trans c0; have d1 := (World.cell?_alloc_lt w2 (.cells #[.int .i64 0, .int .i64 0, .int .i64 0, .string ⟨#[]⟩, .string ⟨#[]⟩, .slice none 0 0, .int .i64 0] 25) ⟨g2, 1, none⟩ hg2).trans c1; clear b2 c0 c1)
        | (go_at_call 8; (with_reducible refine (TE.out _ _ T2.out d0 d1).mono ?_); rintro e w3 ⟨rfl, b3⟩; have K3 := hid_as (below_and K2.out b3); clear b3))
      go_ret
      exact ⟨rfl, K3.out⟩
set_option maxHeartbeats 4000000 in
set_option maxRecDepth 100000 in
theorem deep_1y (n how : Int) (N : Nat) (hN : N < 80) (hcc : chE [45] [] 1 N = true) (P1 : Hid (∀ W, Calls Tryz.prog 12 #[.int .i64 n, .int .i64 80] W fun e w' => e = .returned (.int .i64 (N : Int)) ∧ w' = W)) (P2 : Hid (∀ W, Calls Tryz.prog 12 #[.int .i64 how, .int .i64 5] W fun e w' => e = .returned (.int .i64 1) ∧ w' = W)) (h32 : N < 32) (w : World) (hT : Tabs w) : Calls Tryz.prog 4 #[.int .i64 n, .int .i64 how] w fun e w' => e = .returned (.bool true) ∧ Below w.heap.size w w' := by
  have KN := hid_as (fun W hW => known_c W hW)
  have hc := hid_as hcc
  have T0 := hid_as hT
  have h32' : (N : Int) < 32 := by omega
  have h33' : ¬ (32 : Int) ≤ N := by omega
  clear hT hcc
  go_enter Tryz.func4, Tryz.ntmps4
  go_wp2_with (first
    | (go_at_call 6; (with_reducible refine (KN.out _ T0.out).mono ?_); rintro e w1 ⟨rfl, b1⟩; have T1 := hid_as (T0.out.below b1); have K1 := hid_as b1; clear b1)
    | (go_at_call 12; (first | (with_reducible refine (P1.out _).mono ?_) | (with_reducible refine (P2.out _).mono ?_)); rintro e w' ⟨rfl, hw⟩; subst w'))
  go_loop [16, 17, 18] (fun a b c => ∃ (k : Nat) (X Y : ByteArray), k ≤ N ∧ a = .string X ∧ b = .string Y ∧ c = .int .i64 k ∧ Hid (X.data.toList = rept [45] k) ∧ Hid (Y.data.toList = rept [] k) ∧ X.size ≤ 200 ∧ Y.size ≤ 200) (fun _ _ c => N - (intOf c).toNat)
  case atStart => exact ⟨0, ⟨#[]⟩, ⟨#[]⟩, by omega, rfl, rfl, rfl, hid_as rfl, hid_as rfl, by decide, by decide⟩
  case round =>
    obtain ⟨k, X, Y, hk, rfl, rfl, rfl, hX, hY, zX, zY⟩ := hrel
    by_cases hlt : k < N
    · have hlt' : (k : Int) < N := by omega
      have X1 : Hid ((X ++ (⟨#[45]⟩ : ByteArray)).data.toList = rept [45] (k + 1)) := hid_as (by rw [bcat, hX.out]; rfl)
      have Y1 : Hid ((Y ++ (⟨#[]⟩ : ByteArray)).data.toList = rept [] (k + 1)) := hid_as (by rw [bcat, hY.out]; rfl)
      have X2 : (X ++ (⟨#[45]⟩ : ByteArray)).size ≤ 200 := by rw [Lib.size_eq, X1.out, rept_len]; show (k + 1) * 1 ≤ 200; omega
      have Y2 : (Y ++ (⟨#[]⟩ : ByteArray)).size ≤ 200 := by rw [Lib.size_eq, Y1.out, rept_len]; show (k + 1) * 0 ≤ 200; omega
      go_wp2
      go_round
      case rel => exact ⟨k + 1, X ++ ⟨#[45]⟩, Y ++ ⟨#[]⟩, by omega, by first | rfl | simp, by first | rfl | simp, by go_num, X1, Y1, X2, Y2⟩
      case measure => simp [intOf]; omega
    · obtain rfl : k = N := by omega
      have hlt' : ¬ (k : Int) < k := by omega
      have hS : Hid (((X ++ (⟨#[120]⟩ : ByteArray)) ++ Y).data.toList = dpT [45] [] k) := hid_as (by rw [bcat, bcat, hX.out, hY.out]; rfl)
      have hz : ((X ++ (⟨#[120]⟩ : ByteArray)) ++ Y).size ≤ 1000 := by rw [Lib.size_eq, bcat, bcat, List.length_append, List.length_append, ← Lib.size_eq, ← Lib.size_eq]; show X.size + 1 + Y.size ≤ 1000; omega
      have C : Hid (∀ W, Tabs W → Calls Tryz.prog 7 #[.string ((X ++ (⟨#[120]⟩ : ByteArray)) ++ Y)] W fun e w' => (∃ o kd n nm fl lp ln lc p, e = .returned (.tuple #[.agg #[.int .i64 o, .int .i64 kd, .int .i64 n, .string nm, .string fl, .slice lp ln lc, .int .i64 p], .nilIface])) ∧ Below W.heap.size W w') := fun W hW => deepE_yes hc.out h32 _ hS.out hz W hW
      have z1 : (X ++ (⟨#[120]⟩ : ByteArray)).size ≤ 201 := by rw [Lib.size_eq, bcat, List.length_append, ← Lib.size_eq]; show X.size + 1 ≤ 201; omega
      have TN := hid_as told_nil
      go_wp2_with (first
        | (go_at_call 7; (with_reducible refine (C.out _ T1.out).mono ?_); rintro e w2 ⟨⟨o2, kd2, v2, nm2, fl2, lp2, ln2, lc2, p2, rfl⟩, b2⟩; have K2 := hid_as (below_and (below_and K1.out b2) (below_new1 w2 (.cells #[.int .i64 o2, .int .i64 kd2, .int .i64 v2, .string nm2, .string fl2, .slice lp2 ln2 lc2, .int .i64 p2] 25))); clear b2)
        | (go_at_call 8; (with_reducible refine (TN.out _).mono ?_); rintro e w' ⟨rfl, hw⟩; subst w'))
      go_ret
      exact ⟨rfl, K2.out⟩
set_option maxHeartbeats 4000000 in
set_option maxRecDepth 100000 in
theorem deep_1n (n how : Int) (N : Nat) (hN : N < 80) (hcc : chE [45] [] 1 N = true) (P1 : Hid (∀ W, Calls Tryz.prog 12 #[.int .i64 n, .int .i64 80] W fun e w' => e = .returned (.int .i64 (N : Int)) ∧ w' = W)) (P2 : Hid (∀ W, Calls Tryz.prog 12 #[.int .i64 how, .int .i64 5] W fun e w' => e = .returned (.int .i64 1) ∧ w' = W)) (h32 : ¬ N < 32) (w : World) (hT : Tabs w) : Calls Tryz.prog 4 #[.int .i64 n, .int .i64 how] w fun e w' => e = .returned (.bool true) ∧ Below w.heap.size w w' := by
  have KN := hid_as (fun W hW => known_c W hW)
  have hc := hid_as hcc
  have T0 := hid_as hT
  have h32' : ¬ (N : Int) < 32 := by omega
  have h33' : (32 : Int) ≤ N := by omega
  clear hT hcc
  go_enter Tryz.func4, Tryz.ntmps4
  go_wp2_with (first
    | (go_at_call 6; (with_reducible refine (KN.out _ T0.out).mono ?_); rintro e w1 ⟨rfl, b1⟩; have T1 := hid_as (T0.out.below b1); have K1 := hid_as b1; clear b1)
    | (go_at_call 12; (first | (with_reducible refine (P1.out _).mono ?_) | (with_reducible refine (P2.out _).mono ?_)); rintro e w' ⟨rfl, hw⟩; subst w'))
  go_loop [16, 17, 18] (fun a b c => ∃ (k : Nat) (X Y : ByteArray), k ≤ N ∧ a = .string X ∧ b = .string Y ∧ c = .int .i64 k ∧ Hid (X.data.toList = rept [45] k) ∧ Hid (Y.data.toList = rept [] k) ∧ X.size ≤ 200 ∧ Y.size ≤ 200) (fun _ _ c => N - (intOf c).toNat)
  case atStart => exact ⟨0, ⟨#[]⟩, ⟨#[]⟩, by omega, rfl, rfl, rfl, hid_as rfl, hid_as rfl, by decide, by decide⟩
  case round =>
    obtain ⟨k, X, Y, hk, rfl, rfl, rfl, hX, hY, zX, zY⟩ := hrel
    by_cases hlt : k < N
    · have hlt' : (k : Int) < N := by omega
      have X1 : Hid ((X ++ (⟨#[45]⟩ : ByteArray)).data.toList = rept [45] (k + 1)) := hid_as (by rw [bcat, hX.out]; rfl)
      have Y1 : Hid ((Y ++ (⟨#[]⟩ : ByteArray)).data.toList = rept [] (k + 1)) := hid_as (by rw [bcat, hY.out]; rfl)
      have X2 : (X ++ (⟨#[45]⟩ : ByteArray)).size ≤ 200 := by rw [Lib.size_eq, X1.out, rept_len]; show (k + 1) * 1 ≤ 200; omega
      have Y2 : (Y ++ (⟨#[]⟩ : ByteArray)).size ≤ 200 := by rw [Lib.size_eq, Y1.out, rept_len]; show (k + 1) * 0 ≤ 200; omega
      go_wp2
      go_round
      case rel => exact ⟨k + 1, X ++ ⟨#[45]⟩, Y ++ ⟨#[]⟩, by omega, by first | rfl | simp, by first | rfl | simp, by go_num, X1, Y1, X2, Y2⟩
      case measure => simp [intOf]; omega
    · obtain rfl : k = N := by omega
      have hlt' : ¬ (k : Int) < k := by omega
      have hS : Hid (((X ++ (⟨#[120]⟩ : ByteArray)) ++ Y).data.toList = dpT [45] [] k) := hid_as (by rw [bcat, bcat, hX.out, hY.out]; rfl)
      have hz : ((X ++ (⟨#[120]⟩ : ByteArray)) ++ Y).size ≤ 1000 := by rw [Lib.size_eq, bcat, bcat, List.length_append, List.length_append, ← Lib.size_eq, ← Lib.size_eq]; show X.size + 1 + Y.size ≤ 1000; omega
      have C : Hid (∀ W, Tabs W → Calls Tryz.prog 7 #[.string ((X ++ (⟨#[120]⟩ : ByteArray)) ++ Y)] W fun e w' => ∃ g, e = .returned (.tuple #[.agg #[.int .i64 0, .int .i64 0, .int .i64 0, .string ⟨#[]⟩, .string ⟨#[]⟩, .slice none 0 0, .int .i64 0], .iface 60 (.pointer (some ⟨g, 0, none⟩))]) ∧ g < w'.heap.size ∧ w'.cell? ⟨g, 0, none⟩ = some (.int .i64 ((32 : Nat) : Int)) ∧ w'.cell? ⟨g, 1, none⟩ = some (.int .i64 ((131 : Nat) : Int)) ∧ Below W.heap.size W w') := fun W hW => deepE_no hc.out h32 _ hS.out hz W hW
      have z1 : (X ++ (⟨#[120]⟩ : ByteArray)).size ≤ 201 := by rw [Lib.size_eq, bcat, List.length_append, ← Lib.size_eq]; show X.size + 1 ≤ 201; omega
      have TE : Hid (∀ W g, Tabs W → W.cell? ⟨g, 0, none⟩ = some (.int .i64 ((32 : Nat) : Int)) → W.cell? ⟨g, 1, none⟩ = some (.int .i64 ((131 : Nat) : Int)) → Calls Tryz.prog 8 #[.iface 60 (.pointer (some ⟨g, 0, none⟩))] W fun e w' => e = .returned (.tuple #[.int .i64 32, .int .i64 131]) ∧ Below W.heap.size W w') := fun W g hW h0 h1 => told_err g 32 131 W hW h0 h1
      go_wp2_with (first
        | (go_at_call 7; (with_reducible refine (C.out _ T1.out).mono ?_); rintro e w2 ⟨g2, rfl, hg2, c0, c1, b2⟩; have K2 := hid_as (below_and (below_and K1.out b2) (below_new1 w2 (.cells #[.int .i64 0, .int .i64 0, .int .i64 0, .string ⟨#[]⟩, .string ⟨#[]⟩, .slice none 0 0, .int .i64 0] 25))); have T2 := hid_as ((T1.out.below b2).below (below_new1 w2 (.cells #[.int .i64 0, .int .i64 0, .int .i64 0, .string ⟨#[]⟩, .string ⟨#[]⟩, .slice none 0 0, .int .i64 0] 25))); have d0 := (World.cell?_alloc_lt w2 (.cells #[.int .i64 0, .int .i64 0, .int .i64 0, .string ⟨#[]⟩, .string ⟨#[]⟩, .slice none 0 0, .int .i64 0] 25) ⟨g2, 0, none⟩ hg2).trans c0; have d1 := (World.cell?_alloc_lt w2 (.cells #[.int .i64 0, .int .i64 0, .int .i64 0, .string ⟨#[]⟩, .string ⟨#[]⟩, .slice none 0 0, .int .i64 0] 25) ⟨g2, 1, none⟩ hg2).trans c1; clear b2 c0 c1)
        | (go_at_call 8; (with_reducible refine (TE.out _ _ T2.out d0 d1).mono ?_); rintro e w3 ⟨rfl, b3⟩; have K3 := hid_as (below_and K2.out b3); clear b3))
      go_ret
      exact ⟨rfl, K3.out⟩
set_option maxHeartbeats 4000000 in
set_option maxRecDepth 100000 in
theorem deep_2y (n how : Int) (N : Nat) (hN : N < 80) (hcc : chE [102, 40] [41] 2 N = true) (P1 : Hid (∀ W, Calls Tryz.prog 12 #[.int .i64 n, .int .i64 80] W fun e w' => e = .returned (.int .i64 (N : Int)) ∧ w' = W)) (P2 : Hid (∀ W, Calls Tryz.prog 12 #[.int .i64 how, .int .i64 5] W fun e w' => e = .returned (.int .i64 2) ∧ w' = W)) (h32 : N < 32) (w : World) (hT : Tabs w) : Calls Tryz.prog 4 #[.int .i64 n, .int .i64 how] w fun e w' => e = .returned (.bool true) ∧ Below w.heap.size w w' := by
  have KN := hid_as (fun W hW => known_c W hW)
  have hc := hid_as hcc
  have T0 := hid_as hT
  have h32' : (N : Int) < 32 := by omega
  have h33' : ¬ (32 : Int) ≤ N := by omega
  clear hT hcc
  go_enter Tryz.func4, Tryz.ntmps4
  go_wp2_with (first
    | (go_at_call 6; (with_reducible refine (KN.out _ T0.out).mono ?_); rintro e w1 ⟨rfl, b1⟩; have T1 := hid_as (T0.out.below b1); have K1 := hid_as b1; clear b1)
    | (go_at_call 12; (first | (with_reducible refine (P1.out _).mono ?_) | (with_reducible refine (P2.out _).mono ?_)); rintro e w' ⟨rfl, hw⟩; subst w'))
  go_loop [16, 17, 18] (fun a b c => ∃ (k : Nat) (X Y : ByteArray), k ≤ N ∧ a = .string X ∧ b = .string Y ∧ c = .int .i64 k ∧ Hid (X.data.toList = rept [102, 40] k) ∧ Hid (Y.data.toList = rept [41] k) ∧ X.size ≤ 200 ∧ Y.size ≤ 200) (fun _ _ c => N - (intOf c).toNat)
  case atStart => exact ⟨0, ⟨#[]⟩, ⟨#[]⟩, by omega, rfl, rfl, rfl, hid_as rfl, hid_as rfl, by decide, by decide⟩
  case round =>
    obtain ⟨k, X, Y, hk, rfl, rfl, rfl, hX, hY, zX, zY⟩ := hrel
    by_cases hlt : k < N
    · have hlt' : (k : Int) < N := by omega
      have X1 : Hid ((X ++ (⟨#[102, 40]⟩ : ByteArray)).data.toList = rept [102, 40] (k + 1)) := hid_as (by rw [bcat, hX.out]; rfl)
      have Y1 : Hid ((Y ++ (⟨#[41]⟩ : ByteArray)).data.toList = rept [41] (k + 1)) := hid_as (by rw [bcat, hY.out]; rfl)
      have X2 : (X ++ (⟨#[102, 40]⟩ : ByteArray)).size ≤ 200 := by rw [Lib.size_eq, X1.out, rept_len]; show (k + 1) * 2 ≤ 200; omega
      have Y2 : (Y ++ (⟨#[41]⟩ : ByteArray)).size ≤ 200 := by rw [Lib.size_eq, Y1.out, rept_len]; show (k + 1) * 1 ≤ 200; omega
      go_wp2
      go_round
      case rel => exact ⟨k + 1, X ++ ⟨#[102, 40]⟩, Y ++ ⟨#[41]⟩, by omega, by first | rfl | simp, by first | rfl | simp, by go_num, X1, Y1, X2, Y2⟩
      case measure => simp [intOf]; omega
    · obtain rfl : k = N := by omega
      have hlt' : ¬ (k : Int) < k := by omega
      have hS : Hid (((X ++ (⟨#[120]⟩ : ByteArray)) ++ Y).data.toList = dpT [102, 40] [41] k) := hid_as (by rw [bcat, bcat, hX.out, hY.out]; rfl)
      have hz : ((X ++ (⟨#[120]⟩ : ByteArray)) ++ Y).size ≤ 1000 := by rw [Lib.size_eq, bcat, bcat, List.length_append, List.length_append, ← Lib.size_eq, ← Lib.size_eq]; show X.size + 1 + Y.size ≤ 1000; omega
      have C : Hid (∀ W, Tabs W → Calls Tryz.prog 7 #[.string ((X ++ (⟨#[120]⟩ : ByteArray)) ++ Y)] W fun e w' => (∃ o kd n nm fl lp ln lc p, e = .returned (.tuple #[.agg #[.int .i64 o, .int .i64 kd, .int .i64 n, .string nm, .string fl, .slice lp ln lc, .int .i64 p], .nilIface])) ∧ Below W.heap.size W w') := fun W hW => deepE_yes hc.out h32 _ hS.out hz W hW
      have z1 : (X ++ (⟨#[120]⟩ : ByteArray)).size ≤ 201 := by rw [Lib.size_eq, bcat, List.length_append, ← Lib.size_eq]; show X.size + 1 ≤ 201; omega
      have TN := hid_as told_nil
      go_wp2_with (first
        | (go_at_call 7; (with_reducible refine (C.out _ T1.out).mono ?_); rintro e w2 ⟨⟨o2, kd2, v2, nm2, fl2, lp2, ln2, lc2, p2, rfl⟩, b2⟩; have K2 := hid_as (below_and (below_and K1.out b2) (below_new1 w2 (.cells #[.int .i64 o2, .int .i64 kd2, .int .i64 v2, .string nm2, .string fl2, .slice lp2 ln2 lc2, .int .i64 p2] 25))); clear b2)
        | (go_at_call 8; (with_reducible refine (TN.out _).mono ?_); rintro e w' ⟨rfl, hw⟩; subst w'))
      go_ret
      exact ⟨rfl, K2.out⟩
set_option maxHeartbeats 4000000 in
set_option maxRecDepth 100000 in
theorem deep_2n (n how : Int) (N : Nat) (hN : N < 80) (hcc : chE [102, 40] [41] 2 N = true) (P1 : Hid (∀ W, Calls Tryz.prog 12 #[.int .i64 n, .int .i64 80] W fun e w' => e = .returned (.int .i64 (N : Int)) ∧ w' = W)) (P2 : Hid (∀ W, Calls Tryz.prog 12 #[.int .i64 how, .int .i64 5] W fun e w' => e = .returned (.int .i64 2) ∧ w' = W)) (h32 : ¬ N < 32) (w : World) (hT : Tabs w) : Calls Tryz.prog 4 #[.int .i64 n, .int .i64 how] w fun e w' => e = .returned (.bool true) ∧ Below w.heap.size w w' := by
  have KN := hid_as (fun W hW => known_c W hW)
  have hc := hid_as hcc
  have T0 := hid_as hT
  have h32' : ¬ (N : Int) < 32 := by omega
  have h33' : (32 : Int) ≤ N := by omega
  clear hT hcc
  go_enter Tryz.func4, Tryz.ntmps4
  go_wp2_with (first
    | (go_at_call 6; (with_reducible refine (KN.out _ T0.out).mono ?_); rintro e w1 ⟨rfl, b1⟩; have T1 := hid_as (T0.out.below b1); have K1 := hid_as b1; clear b1)
    | (go_at_call 12; (first | (with_reducible refine (P1.out _).mono ?_) | (with_reducible refine (P2.out _).mono ?_)); rintro e w' ⟨rfl, hw⟩; subst w'))
  go_loop [16, 17, 18] (fun a b c => ∃ (k : Nat) (X Y : ByteArray), k ≤ N ∧ a = .string X ∧ b = .string Y ∧ c = .int .i64 k ∧ Hid (X.data.toList = rept [102, 40] k) ∧ Hid (Y.data.toList = rept [41] k) ∧ X.size ≤ 200 ∧ Y.size ≤ 200) (fun _ _ c => N - (intOf c).toNat)
  case atStart => exact ⟨0, ⟨#[]⟩, ⟨#[]⟩, by omega, rfl, rfl, rfl, hid_as rfl, hid_as rfl, by decide, by decide⟩
  case round =>
    obtain ⟨k, X, Y, hk, rfl, rfl, rfl, hX, hY, zX, zY⟩ := hrel
    by_cases hlt : k < N
    · have hlt' : (k : Int) < N := by omega
      have X1 : Hid ((X ++ (⟨#[102, 40]⟩ : ByteArray)).data.toList = rept [102, 40] (k + 1)) := hid_as (by rw [bcat, hX.out]; rfl)
      have Y1 : Hid ((Y ++ (⟨#[41]⟩ : ByteArray)).data.toList = rept [41] (k + 1)) := hid_as (by rw [bcat, hY.out]; rfl)
      have X2 : (X ++ (⟨#[102, 40]⟩ : ByteArray)).size ≤ 200 := by rw [Lib.size_eq, X1.out, rept_len]; show (k + 1) * 2 ≤ 200; omega
      have Y2 : (Y ++ (⟨#[41]⟩ : ByteArray)).size ≤ 200 := by rw [Lib.size_eq, Y1.out, rept_len]; show (k + 1) * 1 ≤ 200; omega
      go_wp2
      go_round
      case rel => exact ⟨k + 1, X ++ ⟨#[102, 40]⟩, Y ++ ⟨#[41]⟩, by omega, by first | rfl | simp, by first | rfl | simp, by go_num, X1, Y1, X2, Y2⟩
      case measure => simp [intOf]; omega
    · obtain rfl : k = N := by omega
      have hlt' : ¬ (k : Int) < k := by omega
      have hS : Hid (((X ++ (⟨#[120]⟩ : ByteArray)) ++ Y).data.toList = dpT [102, 40] [41] k) := hid_as (by rw [bcat, bcat, hX.out, hY.out]; rfl)
      have hz : ((X ++ (⟨#[120]⟩ : ByteArray)) ++ Y).size ≤ 1000 := by rw [Lib.size_eq, bcat, bcat, List.length_append, List.length_append, ← Lib.size_eq, ← Lib.size_eq]; show X.size + 1 + Y.size ≤ 1000; omega
      have C : Hid (∀ W, Tabs W → Calls Tryz.prog 7 #[.string ((X ++ (⟨#[120]⟩ : ByteArray)) ++ Y)] W fun e w' => ∃ g, e = .returned (.tuple #[.agg #[.int .i64 0, .int .i64 0, .int .i64 0, .string ⟨#[]⟩, .string ⟨#[]⟩, .slice none 0 0, .int .i64 0], .iface 60 (.pointer (some ⟨g, 0, none⟩))]) ∧ g < w'.heap.size ∧ w'.cell? ⟨g, 0, none⟩ = some (.int .i64 ((64 : Nat) : Int)) ∧ w'.cell? ⟨g, 1, none⟩ = some (.int .i64 ((131 : Nat) : Int)) ∧ Below W.heap.size W w') := fun W hW => deepE_no hc.out h32 _ hS.out hz W hW
      have z1 : (X ++ (⟨#[120]⟩ : ByteArray)).size ≤ 201 := by rw [Lib.size_eq, bcat, List.length_append, ← Lib.size_eq]; show X.size + 1 ≤ 201; omega
      have TE : Hid (∀ W g, Tabs W → W.cell? ⟨g, 0, none⟩ = some (.int .i64 ((64 : Nat) : Int)) → W.cell? ⟨g, 1, none⟩ = some (.int .i64 ((131 : Nat) : Int)) → Calls Tryz.prog 8 #[.iface 60 (.pointer (some ⟨g, 0, none⟩))] W fun e w' => e = .returned (.tuple #[.int .i64 64, .int .i64 131]) ∧ Below W.heap.size W w') := fun W g hW h0 h1 => told_err g 64 131 W hW h0 h1
      go_wp2_with (first
        | (go_at_call 7; (with_reducible refine (C.out _ T1.out).mono ?_); rintro e w2 ⟨g2, rfl, hg2, c0, c1, b2⟩; have K2 := hid_as (below_and (below_and K1.out b2) (below_new1 w2 (.cells #[.int .i64 0, .int .i64 0, .int .i64 0, .string ⟨#[]⟩, .string ⟨#[]⟩, .slice none 0 0, .int .i64 0] 25))); have T2 := hid_as ((T1.out.below b2).below (below_new1 w2 (.cells #[.int .i64 0, .int .i64 0, .int .i64 0, .string ⟨#[]⟩, .string ⟨#[]⟩, .slice none 0 0, .int .i64 0] 25))); have d0 := (World.cell?_alloc_lt w2 (.cells #[.int .i64 0, .int .i64 0, .int .i64 0, .string ⟨#[]⟩, .string ⟨#[]⟩, .slice none 0 0, .int .i64 0] 25) ⟨g2, 0, none⟩ hg2).trans c0; have d1 := (World.cell?_alloc_lt w2 (.cells #[.int .i64 0, .int .i64 0, .int .i64 0, .string ⟨#[]⟩, .string ⟨#[]⟩, .slice none 0 0, .int .i64 0] 25) ⟨g2, 1, none⟩ hg2).trans c1; clear b2 c0 c1)
        | (go_at_call 8; (with_reducible refine (TE.out _ _ T2.out d0 d1).mono ?_); rintro e w3 ⟨rfl, b3⟩; have K3 := hid_as (below_and K2.out b3); clear b3))
      go_ret
      exact ⟨rfl, K3.out⟩
set_option maxHeartbeats 4000000 in
set_option maxRecDepth 100000 in
theorem deep_3y (n how : Int) (N : Nat) (hN : N < 80) (hcc : chE [97, 91] [93] 2 N = true) (P1 : Hid (∀ W, Calls Tryz.prog 12 #[.int .i64 n, .int .i64 80] W fun e w' => e = .returned (.int .i64 (N : Int)) ∧ w' = W)) (P2 : Hid (∀ W, Calls Tryz.prog 12 #[.int .i64 how, .int .i64 5] W fun e w' => e = .returned (.int .i64 3) ∧ w' = W)) (h32 : N < 32) (w : World) (hT : Tabs w) : Calls Tryz.prog 4 #[.int .i64 n, .int .i64 how] w fun e w' => e = .returned (.bool true) ∧ Below w.heap.size w w' := by
  have KN := hid_as (fun W hW => known_c W hW)
  have hc := hid_as hcc
  have T0 := hid_as hT
  have h32' : (N : Int) < 32 := by omega
  have h33' : ¬ (32 : Int) ≤ N := by omega
  clear hT hcc
  go_enter Tryz.func4, Tryz.ntmps4
  go_wp2_with (first
    | (go_at_call 6; (with_reducible refine (KN.out _ T0.out).mono ?_); rintro e w1 ⟨rfl, b1⟩; have T1 := hid_as (T0.out.below b1); have K1 := hid_as b1; clear b1)
    | (go_at_call 12; (first | (with_reducible refine (P1.out _).mono ?_) | (with_reducible refine (P2.out _).mono ?_)); rintro e w' ⟨rfl, hw⟩; subst w'))
  go_loop [16, 17, 18] (fun a b c => ∃ (k : Nat) (X Y : ByteArray), k ≤ N ∧ a = .string X ∧ b = .string Y ∧ c = .int .i64 k ∧ Hid (X.data.toList = rept [97, 91] k) ∧ Hid (Y.data.toList = rept [93] k) ∧ X.size ≤ 200 ∧ Y.size ≤ 200) (fun _ _ c => N - (intOf c).toNat)
  case atStart => exact ⟨0, ⟨#[]⟩, ⟨#[]⟩, by omega, rfl, rfl, rfl, hid_as rfl, hid_as rfl, by decide, by decide⟩
  case round =>
    obtain ⟨k, X, Y, hk, rfl, rfl, rfl, hX, hY, zX, zY⟩ := hrel
    by_cases hlt : k < N
    · have hlt' : (k : Int) < N := by omega
      have X1 : Hid ((X ++ (⟨#[97, 91]⟩ : ByteArray)).data.toList = rept [97, 91] (k + 1)) := hid_as (by rw [bcat, hX.out]; rfl)
      have Y1 : Hid ((Y ++ (⟨#[93]⟩ : ByteArray)).data.toList = rept [93] (k + 1)) := hid_as (by rw [bcat, hY.out]; rfl)
      have X2 : (X ++ (⟨#[97, 91]⟩ : ByteArray)).size ≤ 200 := by rw [Lib.size_eq, X1.out, rept_len]; show (k + 1) * 2 ≤ 200; omega
      have Y2 : (Y ++ (⟨#[93]⟩ : ByteArray)).size ≤ 200 := by rw [Lib.size_eq, Y1.out, rept_len]; show (k + 1) * 1 ≤ 200; omega
      go_wp2
      go_round
      case rel => exact ⟨k + 1, X ++ ⟨#[97, 91]⟩, Y ++ ⟨#[93]⟩, by omega, by first | rfl | simp, by first | rfl | simp, by go_num, X1, Y1, X2, Y2⟩
      case measure => simp [intOf]; omega
    · obtain rfl : k = N := by omega
      have hlt' : ¬ (k : Int) < k := by omega
      have hS : Hid (((X ++ (⟨#[120]⟩ : ByteArray)) ++ Y).data.toList = dpT [97, 91] [93] k) := hid_as (by rw [bcat, bcat, hX.out, hY.out]; rfl)
      have hz : ((X ++ (⟨#[120]⟩ : ByteArray)) ++ Y).size ≤ 1000 := by rw [Lib.size_eq, bcat, bcat, List.length_append, List.length_append, ← Lib.size_eq, ← Lib.size_eq]; show X.size + 1 + Y.size ≤ 1000; omega
      have C : Hid (∀ W, Tabs W → Calls Tryz.prog 7 #[.string ((X ++ (⟨#[120]⟩ : ByteArray)) ++ Y)] W fun e w' => (∃ o kd n nm fl lp ln lc p, e = .returned (.tuple #[.agg #[.int .i64 o, .int .i64 kd, .int .i64 n, .string nm, .string fl, .slice lp ln lc, .int .i64 p], .nilIface])) ∧ Below W.heap.size W w') := fun W hW => deepE_yes hc.out h32 _ hS.out hz W hW
      have z1 : (X ++ (⟨#[120]⟩ : ByteArray)).size ≤ 201 := by rw [Lib.size_eq, bcat, List.length_append, ← Lib.size_eq]; show X.size + 1 ≤ 201; omega
      have TN := hid_as told_nil
      go_wp2_with (first
        | (go_at_call 7; (with_reducible refine (C.out _ T1.out).mono ?_); rintro e w2 ⟨⟨o2, kd2, v2, nm2, fl2, lp2, ln2, lc2, p2, rfl⟩, b2⟩; have K2 := hid_as (below_and (below_and K1.out b2) (below_new1 w2 (.cells #[.int .i64 o2, .int .i64 kd2, .int .i64 v2, .string nm2, .string fl2, .slice lp2 ln2 lc2, .int .i64 p2] 25))); clear b2)
        | (go_at_call 8; (with_reducible refine (TN.out _).mono ?_); rintro e w' ⟨rfl, hw⟩; subst w'))
      go_ret
      exact ⟨rfl, K2.out⟩
set_option maxHeartbeats 4000000 in
set_option maxRecDepth 100000 in
theorem deep_3n (n how : Int) (N : Nat) (hN : N < 80) (hcc : chE [97, 91] [93] 2 N = true) (P1 : Hid (∀ W, Calls Tryz.prog 12 #[.int .i64 n, .int .i64 80] W fun e w' => e = .returned (.int .i64 (N : Int)) ∧ w' = W)) (P2 : Hid (∀ W, Calls Tryz.prog 12 #[.int .i64 how, .int .i64 5] W fun e w' => e = .returned (.int .i64 3) ∧ w' = W)) (h32 : ¬ N < 32) (w : World) (hT : Tabs w) : Calls Tryz.prog 4 #[.int .i64 n, .int .i64 how] w fun e w' => e = .returned (.bool true) ∧ Below w.heap.size w w' := by
  have KN := hid_as (fun W hW => known_c W hW)
  have hc := hid_as hcc
  have T0 := hid_as hT
  have h32' : ¬ (N : Int) < 32 := by omega
  have h33' : (32 : Int) ≤ N := by omega
  clear hT hcc
  go_enter Tryz.func4, Tryz.ntmps4
  go_wp2_with (first
    | (go_at_call 6; (with_reducible refine (KN.out _ T0.out).mono ?_); rintro e w1 ⟨rfl, b1⟩; have T1 := hid_as (T0.out.below b1); have K1 := hid_as b1; clear b1)
    | (go_at_call 12; (first | (with_reducible refine (P1.out _).mono ?_) | (with_reducible refine (P2.out _).mono ?_)); rintro e w' ⟨rfl, hw⟩; subst w'))
  go_loop [16, 17, 18] (fun a b c => ∃ (k : Nat) (X Y : ByteArray), k ≤ N ∧ a = .string X ∧ b = .string Y ∧ c = .int .i64 k ∧ Hid (X.data.toList = rept [97, 91] k) ∧ Hid (Y.data.toList = rept [93] k) ∧ X.size ≤ 200 ∧ Y.size ≤ 200) (fun _ _ c => N - (intOf c).toNat)
  case atStart => exact ⟨0, ⟨#[]⟩, ⟨#[]⟩, by omega, rfl, rfl, rfl, hid_as rfl, hid_as rfl, by decide, by decide⟩
  case round =>
    obtain ⟨k, X, Y, hk, rfl, rfl, rfl, hX, hY, zX, zY⟩ := hrel
    by_cases hlt : k < N
    · have hlt' : (k : Int) < N := by omega
      have X1 : Hid ((X ++ (⟨#[97, 91]⟩ : ByteArray)).data.toList = rept [97, 91] (k + 1)) := hid_as (by rw [bcat, hX.out]; rfl)
      have Y1 : Hid ((Y ++ (⟨#[93]⟩ : ByteArray)).data.toList = rept [93] (k + 1)) := hid_as (by rw [bcat, hY.out]; rfl)
      have X2 : (X ++ (⟨#[97, 91]⟩ : ByteArray)).size ≤ 200 := by rw [Lib.size_eq, X1.out, rept_len]; show (k + 1) * 2 ≤ 200; omega
      have Y2 : (Y ++ (⟨#[93]⟩ : ByteArray)).size ≤ 200 := by rw [Lib.size_eq, Y1.out, rept_len]; show (k + 1) * 1 ≤ 200; omega
      go_wp2
      go_round
      case rel => exact ⟨k + 1, X ++ ⟨#[97, 91]⟩, Y ++ ⟨#[93]⟩, by omega, by first | rfl | simp, by first | rfl | simp, by go_num, X1, Y1, X2, Y2⟩
      case measure => simp [intOf]; omega
    · obtain rfl : k = N := by omega
      have hlt' : ¬ (k : Int) < k := by omega
      have hS : Hid (((X ++ (⟨#[120]⟩ : ByteArray)) ++ Y).data.toList = dpT [97, 91] [93] k) := hid_as (by rw [bcat, bcat, hX.out, hY.out]; rfl)
      have hz : ((X ++ (⟨#[120]⟩ : ByteArray)) ++ Y).size ≤ 1000 := by rw [Lib.size_eq, bcat, bcat, List.length_append, List.length_append, ← Lib.size_eq, ← Lib.size_eq]; show X.size + 1 + Y.size ≤ 1000; omega
      have C : Hid (∀ W, Tabs W → Calls Tryz.prog 7 #[.string ((X ++ (⟨#[120]⟩ : ByteArray)) ++ Y)] W fun e w' => ∃ g, e = .returned (.tuple #[.agg #[.int .i64 0, .int .i64 0, .int .i64 0, .string ⟨#[]⟩, .string ⟨#[]⟩, .slice none 0 0, .int .i64 0], .iface 60 (.pointer (some ⟨g, 0, none⟩))]) ∧ g < w'.heap.size ∧ w'.cell? ⟨g, 0, none⟩ = some (.int .i64 ((64 : Nat) : Int)) ∧ w'.cell? ⟨g, 1, none⟩ = some (.int .i64 ((131 : Nat) : Int)) ∧ Below W.heap.size W w') := fun W hW => deepE_no hc.out h32 _ hS.out hz W hW
      have z1 : (X ++ (⟨#[120]⟩ : ByteArray)).size ≤ 201 := by rw [Lib.size_eq, bcat, List.length_append, ← Lib.size_eq]; show X.size + 1 ≤ 201; omega
      have TE : Hid (∀ W g, Tabs W → W.cell? ⟨g, 0, none⟩ = some (.int .i64 ((64 : Nat) : Int)) → W.cell? ⟨g, 1, none⟩ = some (.int .i64 ((131 : Nat) : Int)) → Calls Tryz.prog 8 #[.iface 60 (.pointer (some ⟨g, 0, none⟩))] W fun e w' => e = .returned (.tuple #[.int .i64 64, .int .i64 131]) ∧ Below W.heap.size W w') := fun W g hW h0 h1 => told_err g 64 131 W hW h0 h1
      go_wp2_with (first
        | (go_at_call 7; (with_reducible refine (C.out _ T1.out).mono ?_); rintro e w2 ⟨g2, rfl, hg2, c0, c1, b2⟩; have K2 := hid_as (below_and (below_and K1.out b2) (below_new1 w2 (.cells #[.int .i64 0, .int .i64 0, .int .i64 0, .string ⟨#[]⟩, .string ⟨#[]⟩, .slice none 0 0, .int .i64 0] 25))); have T2 := hid_as ((T1.out.below b2).below (below_new1 w2 (.cells #[.int .i64 0, .int .i64 0, .int .i64 0, .string ⟨#[]⟩, .string ⟨#[]⟩, .slice none 0 0, .int .i64 0] 25))); have d0 := (World.cell?_alloc_lt w2 (.cells #[.int .i64 0, .int .i64 0, .int .i64 0, .string ⟨#[]⟩, .string ⟨#[]⟩, .slice none 0 0, .int .i64 0] 25) ⟨g2, 0, none⟩ hg2).trans c0; have d1 := (World.cell?_alloc_lt w2 (.cells #[.int .i64 0, .int .i64 0, .int .i64 0, .string ⟨#[]⟩, .string ⟨#[]⟩, .slice none 0 0, .int .i64 0] 25) ⟨g2, 1, none⟩ hg2).trans c1; clear b2 c0 c1)
        | (go_at_call 8; (with_reducible refine (TE.out _ _ T2.out d0 d1).mono ?_); rintro e w3 ⟨rfl, b3⟩; have K3 := hid_as (below_and K2.out b3); clear b3))
      go_ret
      exact ⟨rfl, K3.out⟩
end Go.Proofs.YtgdoanhemgklpaaGreatDoor
