/- The law of times, its head and sign fixed (stage 12). -/
import Derived.Test.YtnponognncdkcaaDoorLT0
import Derived.Deep.CutRange
import Derived.Deep.CutBlock
import Derived.Deep.RegionWith
namespace Go.Proofs.YtnponognncdkcaaDoor
open Go.RowKit
open Adr Lx
set_option maxHeartbeats 4000000 in
theorem times_tf (d h m s ms : Int) (c : Nat) (bd : -9223372036854775808 ≤ d ∧ d ≤ 9223372036854775807) (bh : -9223372036854775808 ≤ h ∧ h ≤ 9223372036854775807) (bm : -9223372036854775808 ≤ m ∧ m ≤ 9223372036854775807) (bs : -9223372036854775808 ≤ s ∧ s ≤ 9223372036854775807) (bms : -9223372036854775808 ≤ ms ∧ ms ≤ 9223372036854775807) (w : World) (hT : Tabs w) :
    Calls Tryd.prog 6 #[.int .i64 d, .int .i64 h, .int .i64 m, .int .i64 s, .int .i64 ms, .int .u8 c, .bool false, .bool true] w fun e w' => e = .returned (.bool true) ∧ Below w.heap.size w w' := by
  have K := hid_as (known_bT w hT)
  obtain ⟨v0, l0, P0⟩ := placeN d 30 (by omega) (by omega) bd.1 bd.2
  obtain ⟨v1, l1, P1⟩ := placeN h 700 (by omega) (by omega) bh.1 bh.2
  obtain ⟨v2, l2, P2⟩ := placeN m 40000 (by omega) (by omega) bm.1 bm.2
  obtain ⟨v3, l3, P3⟩ := placeN s 3000000 (by omega) (by omega) bs.1 bs.2
  obtain ⟨v4, l4, P4⟩ := placeN ms 3000000000 (by omega) (by omega) bms.1 bms.2
  replace P0 : Hid (∀ w, Calls Tryd.prog 13 #[.int .i64 d, .int .i64 30] w fun e w' => e = .returned (.int .i64 v0) ∧ w' = w) := P0
  replace P1 : Hid (∀ w, Calls Tryd.prog 13 #[.int .i64 h, .int .i64 700] w fun e w' => e = .returned (.int .i64 v1) ∧ w' = w) := P1
  replace P2 : Hid (∀ w, Calls Tryd.prog 13 #[.int .i64 m, .int .i64 40000] w fun e w' => e = .returned (.int .i64 v2) ∧ w' = w) := P2
  replace P3 : Hid (∀ w, Calls Tryd.prog 13 #[.int .i64 s, .int .i64 3000000] w fun e w' => e = .returned (.int .i64 v3) ∧ w' = w) := P3
  replace P4 : Hid (∀ w, Calls Tryd.prog 13 #[.int .i64 ms, .int .i64 3000000000] w fun e w' => e = .returned (.int .i64 v4) ∧ w' = w) := P4
  go_enter Tryd.func6, Tryd.ntmps6
  go_upto_region 4 with (first
    | (go_at_call 8; refine K.out.mono ?_; rintro e w1 ⟨rfl, b1, hT1⟩)
    | (go_at_call 13; (first | (with_reducible refine (P0.out _).mono ?_) | (with_reducible refine (P1.out _).mono ?_) | (with_reducible refine (P2.out _).mono ?_) | (with_reducible refine (P3.out _).mono ?_) | (with_reducible refine (P4.out _).mono ?_)); rintro e w' ⟨rfl, hw⟩; subst w'))
  have hTn := hid_as (hT1.below (below_new1 w1 (.cells #[.int .i64 v0, .int .i64 v1, .int .i64 v2, .int .i64 v3, .int .i64 v4] 3)))
  have hBn := hid_as (b1.trans ((below_new1 w1 (.cells #[.int .i64 v0, .int .i64 v1, .int .i64 v2, .int .i64 v3, .int .i64 v4] 3)).mono b1.size))
  obtain ⟨v, hv⟩ : ∃ v : Nat → Nat, v = fun i => if i = 0 then v0 else if i = 1 then v1 else if i = 2 then v2 else if i = 3 then v3 else if i = 4 then v4 else 0 := ⟨_, rfl⟩
  have hv5 : Hid (∀ i, v i ≤ 8589934592) := fun i => by
    rw [hv]
    show (if i = 0 then v0 else if i = 1 then v1 else if i = 2 then v2 else if i = 3 then v3 else if i = 4 then v4 else 0) ≤ _
    split <;> (try split) <;> (try split) <;> (try split) <;> (try split) <;> omega
  have e0 : v 0 = v0 := by rw [hv]; rfl
  have e1 : v 1 = v1 := by rw [hv]; rfl
  have e2 : v 2 = v2 := by rw [hv]; rfl
  have e3 : v 3 = v3 := by rw [hv]; rfl
  have e4 : v 4 = v4 := by rw [hv]; rfl
  have hcell : Hid (VC (w1.alloc (.cells #[.int .i64 v0, .int .i64 v1, .int .i64 v2, .int .i64 v3, .int .i64 v4] 3)) w1.heap.size v) := vc_mk (by rw [e0]; simp) (by rw [e1]; simp) (by rw [e2]; simp) (by rw [e3]; simp) (by rw [e4]; simp) (by simp)
  clear hv e0 e1 e2 e3 e4
  obtain ⟨b, hb⟩ : ∃ b : Nat → Bool, b = fun i => (bits .and .u8 ((c : Int) / 2 ^ i) 1 == 1) := ⟨_, rfl⟩
  clear P0 P1 P2 P3 P4 K hT1 b1
  generalize w1.alloc _ = W0 at *
  generalize w1.heap.size = gv at *
  clear l0 l1 l2 l3 l4
  have hJ0 : Hid (JT w W0 gv v) := ⟨hBn.out, hTn.out, hcell.out⟩
  have fb : Hid (∀ k, (bits .and .u8 ((c : Int) / 2 ^ k) 1 == 1) = b k) := fun k => by rw [hb]
  clear hBn hTn hcell hb
  go_wp2
  go_loopw [18, 19, 20, 21] (fun s n o i wr => ∃ k : Nat, k ≤ 5 ∧ i = .int .i64 k ∧ s = .string (tx ((hdT true ++ sgT false) ++ body b v k)) ∧ n = .int .i64 (tot b v k) ∧ o = .bool (anyb b k) ∧ Hid (JT w wr gv v)) (fun s n o i wr => 5 - (intOf i).toNat)
  case atStart => exact ⟨0, by omega, rfl, rfl, rfl, rfl, hJ0⟩
  case round =>
    obtain ⟨k, hk, rfl, rfl, rfl, rfl, hJ⟩ := hrel
    by_cases hlt : k < 5
    · have hlt' : (k : Int) < 5 := by omega
      have hdk : decide ((5 : Int) ≤ k) = false := decide_eq_false (by omega)
      have hbl := (body_len b v hv5.out k (by omega)).1
      cases hbk : b k with
      | false =>
        have g := (fb.out k).trans hbk
        have t1 := hid_as (step_no (v := v) hbk)
        clear hbk
        go_wp2
        go_roundw
        case rel => exact ⟨k + 1, by omega, by go_num, by rw [t1.out.1], by rw [t1.out.2.1], by rw [t1.out.2.2], hJ⟩
        case measure => simp [intOf]; omega
      | true =>
        have g := (fb.out k).trans hbk
        have hvk := hv5.out k
        have hwr : IntKind.u64.wrap ((v k : Nat) : Int) = (v k : Nat) := by rw [IntKind.wrap_u64]; omega
        have DG : Hid (∀ W, Calls Tryd.prog 15 #[.int .u64 ((v k : Nat) : Int)] W fun e w' => e = .returned (.string (tx (dgs 10 (v k)))) ∧ w' = W) := fun W => digits_c (v k) (by omega) W
        have hdl := (dgs_len (b := 10) (by omega) 9 (v k) (Nat.lt_of_le_of_lt hvk (by decide))).1
        have s1 : (tx (dgs 10 (v k))).size ≤ 10 := by rw [tx_size]; exact hdl
        have s2 : (tx ((hdT true ++ sgT false) ++ body b v k)).size ≤ 70 := by rw [tx_size]; simp [hdT, sgT]; omega
        have s3 : (uN k).size ≤ 2 := by
          have hc : k = 0 ∨ k = 1 ∨ k = 2 ∨ k = 3 ∨ k = 4 := by omega
          rcases hc with rfl | rfl | rfl | rfl | rfl <;> decide
        have z1 : ¬ 9223372036854775807 < (tx ((hdT true ++ sgT false) ++ body b v k)).size + (tx (dgs 10 (v k))).size := by omega
        have z2 : ¬ 9223372036854775807 < (tx ((hdT true ++ sgT false) ++ body b v k)).size + (tx (dgs 10 (v k))).size + (uN k).size := by omega
        clear s1 s2 s3 hdl hbl
        have q := hJ.out.vc.at_ k hlt
        have qa : ∀ o, (wr.alloc o).cell? ⟨gv, k, none⟩ = some (.int .i64 (v k)) := fun o => (hJ.out.alloc o).vc.at_ k hlt
        have ua := ustr_at wr k hlt
        have ty := hid_as (step_yes (v := v) hbk (hdT true ++ sgT false))
        clear hbk
        have tb := tot_le (b := b) hv5.out (k + 1) (by omega)
        rw [ty.out.2.1] at tb
        have m0 : (0 : Int) ≤ (v k : Int) * (uM k : Int) := Int.mul_nonneg (by omega) (by omega)
        have m1 : (tot b v k : Int) + (v k : Int) * (uM k : Int) ≤ 3710851743744000000 := by
          have h2 : ((tot b v k + v k * uM k : Nat) : Int) ≤ ((3710851743744000000 : Nat) : Int) := Int.ofNat_le.2 tb
          rw [Int.natCast_add, Int.natCast_mul] at h2
          exact h2
        have mw : IntKind.i64.wrap ((v k : Int) * (uM k : Int)) = (v k : Int) * (uM k : Int) := by rw [IntKind.wrap_i64]; omega
        have mw2 : IntKind.i64.wrap ((tot b v k : Int) + (v k : Int) * (uM k : Int)) = (tot b v k : Int) + (v k : Int) * (uM k : Int) := by rw [IntKind.wrap_i64]; omega
        clear tb
        go_upto_region 14 with fail
        go_cut [18] from 52 to 64 (fun s wx => s = .string (tx ((hdT true ++ sgT false) ++ body b v (k + 1))) ∧ Hid (JT w wx gv v))
        case first =>
          go_region_with (go_at_call 15; (with_reducible refine (DG.out _).mono ?_); rintro e w' ⟨rfl, hw⟩; subst w')
          all_goals
            go_wp2
            go_meet
            case rel => exact ⟨congrArg Value.string ty.out.1, hid_as (by repeat (first | exact hJ.out | refine JT.drew ?_ | refine JT.drewN _ ?_ | refine JT.alloc ?_ _))⟩
        case rest =>
          obtain ⟨rfl, hJ2⟩ := hcut
          clear q qa ua hJ
          have q := hJ2.out.vc.at_ k hlt
          have qa : ∀ o, (wc.alloc o).cell? ⟨gv, k, none⟩ = some (.int .i64 (v k)) := fun o => (hJ2.out.alloc o).vc.at_ k hlt
          have ub := uint_at wc k hlt
          go_upto_region 15 with fail
          go_cut [19] from 65 to 75 (fun s wx => s = .int .i64 ((tot b v (k + 1) : Nat) : Int) ∧ Hid (JT w wx gv v))
          case first =>
            go_region
            all_goals
              go_wp2
              go_meet
              case rel => exact ⟨congrArg (Value.int .i64) (by rw [ty.out.2.1, Int.natCast_add, Int.natCast_mul]), hid_as (by repeat (first | exact hJ2.out | refine JT.drew ?_ | refine JT.drewN _ ?_ | refine JT.alloc ?_ _))⟩
          case rest =>
            obtain ⟨rfl, hJ3⟩ := hcut
            clear q qa ub hJ2
            go_wp2
            go_roundw
            case rel => exact ⟨k + 1, by omega, by go_num, rfl, rfl, by rw [ty.out.2.2], hJ3⟩
            case measure => simp [intOf]; omega
    · have hk5 : k = 5 := by omega
      subst hk5
      have tb := tot_le (b := b) hv5.out 5 (by omega)
      obtain ⟨t1, t2, t3, t4⟩ := toks_time b v hv5.out true false ((tot b v 5 : Int)) rfl
      have hXs : (tx ((hdT true ++ sgT false) ++ body b v 5)).size ≤ 1000000 := by rw [tx_size, List.append_assoc]; omega
      clear t4
      have hXl : Hid ((tx ((hdT true ++ sgT false) ++ body b v 5)).data.toList = hdT true ++ (sgT false ++ body b v 5)) := by rw [tx_list, List.append_assoc]; exact hid_as rfl
      generalize tx ((hdT true ++ sgT false) ++ body b v 5) = X at *
      cases ha : anyb b 5 with
      | false =>
        replace t1 := t1 ha
        clear ha
        have TK := hid_as (fun W hW => tokens_no (s := X) (il := false) (a := 0) (n := 120) (by rw [hXl.out]; exact t1) hXs W hW)
        have TE : Hid (∀ W g, Tabs W → W.cell? ⟨g, 0, none⟩ = some (.int .i64 ((0 : Nat) : Int)) → W.cell? ⟨g, 1, none⟩ = some (.int .i64 ((120 : Nat) : Int)) → Calls Tryd.prog 16 #[.iface 47 (.pointer (some ⟨g, 0, none⟩))] W fun e w' => e = .returned (.tuple #[.int .i64 0, .int .i64 120]) ∧ Below W.heap.size W w') := fun W g hW h0 h1 => told_err g 0 120 W hW h0 h1
        clear t1 t2 t3
        go_wp2_with (first
          | (go_at_call 9; (with_reducible refine (TK.out _ hJ.out.tabs).mono ?_); rintro e w3 ⟨g3, rfl, z3, y3, d0, d1, b3⟩; have hT3 := hid_as (hJ.out.tabs.below b3); have hB3 := hid_as (below_and hJ.out.kept b3); clear b3)
          | (go_at_call 16; (with_reducible refine (TE.out _ _ hT3.out d0 d1).mono ?_); rintro e w4 ⟨rfl, b4⟩; have hB4 := hid_as (below_and hB3.out b4); clear b4))
        go_ret
        exact ⟨rfl, hB4.out⟩
      | true =>
        replace t2 := t2 ha
        replace t3 := t3 ha
        clear ha
        by_cases hf : (tot b v 5 : Int) < -2147483648 ∨ 2147483647 < (tot b v 5 : Int)
        · replace t2 := t2 hf
          have hf0 := hf
          clear hf
          have hf1 : ¬ (tot b v 5 : Int) < -2147483648 := by omega
          have hf2 : 2147483647 < (tot b v 5 : Int) := by rcases hf0 with h | h <;> omega
          clear hf0
          have TK := hid_as (fun W hW => tokens_no (s := X) (il := false) (a := 0) (n := 163) (by rw [hXl.out]; exact t2) hXs W hW)
          have TE : Hid (∀ W g, Tabs W → W.cell? ⟨g, 0, none⟩ = some (.int .i64 ((0 : Nat) : Int)) → W.cell? ⟨g, 1, none⟩ = some (.int .i64 ((163 : Nat) : Int)) → Calls Tryd.prog 16 #[.iface 47 (.pointer (some ⟨g, 0, none⟩))] W fun e w' => e = .returned (.tuple #[.int .i64 0, .int .i64 163]) ∧ Below W.heap.size W w') := fun W g hW h0 h1 => told_err g 0 163 W hW h0 h1
          clear t1 t2 t3
          go_wp2_with (first
            | (go_at_call 9; (with_reducible refine (TK.out _ hJ.out.tabs).mono ?_); rintro e w3 ⟨g3, rfl, z3, y3, d0, d1, b3⟩; have hT3 := hid_as (hJ.out.tabs.below b3); have hB3 := hid_as (below_and hJ.out.kept b3); clear b3)
            | (go_at_call 16; (with_reducible refine (TE.out _ _ hT3.out d0 d1).mono ?_); rintro e w4 ⟨rfl, b4⟩; have hB4 := hid_as (below_and hB3.out b4); clear b4))
          go_ret
          exact ⟨rfl, hB4.out⟩
        · have hf1 : ¬ (tot b v 5 : Int) < -2147483648 := fun h => hf (Or.inl h)
          have hf2 : ¬ 2147483647 < (tot b v 5 : Int) := fun h => hf (Or.inr h)
          obtain ⟨zz, t4⟩ := t3 (by omega) (by omega)
          have TK : Hid (∀ W, Tabs W → Calls Tryd.prog 9 #[.string X, .bool false] W fun e w' => ∃ g cap, e = .returned (.tuple #[.slice (some ⟨g, 0, none⟩) 2 cap, .nilIface]) ∧ W.heap.size ≤ g ∧ g < w'.heap.size ∧ Laid w' g [((⟨4, 11, (tot b v 5 : Int), []⟩ : Tk), 0), (nul, zz)] ∧ Below W.heap.size W w') := fun W hW => tokens_yes (L := [((⟨4, 11, (tot b v 5 : Int), []⟩ : Tk), 0), (nul, zz)]) (by rw [hXl.out]; exact t4) hXs W hW
          clear t1 t2 t3 t4 hf
          go_wp2_with (first
            | (go_at_call 9; (with_reducible refine (TK.out _ hJ.out.tabs).mono ?_); rintro e w3 ⟨g3, p3, rfl, z3, y3, l3, b3⟩; have hB3 := hid_as (below_and hJ.out.kept b3); have q0 := l3 0 _ rfl; have q2 := l3 2 _ rfl; clear b3 l3)
            | (go_at_call 16; (with_reducible refine (told_nil _).mono ?_); rintro e w' ⟨rfl, hw⟩; subst w'))
          go_ret
          exact ⟨rfl, hB3.out⟩
end Go.Proofs.YtnponognncdkcaaDoor
