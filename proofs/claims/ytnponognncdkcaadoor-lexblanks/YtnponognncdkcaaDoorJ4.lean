/- The reference's token, walked: words ahead of literals (stage 12). · The reference's token, walked: plain words (stage 12). · The reference's token, walked: plain words (stage 12). -/
import Derived.Test.YtnponognncdkcaaDoorJ3
import Derived.Test.YtnponognncdkcaaDoorRN
namespace Go.Proofs.YtnponognncdkcaaDoor
open Go.RowKit
open Adr Lx
theorem TS.step2 {w W : World} {g bt br a j : Nat} {s u : ByteArray} {x y n v : Int} (h : TS w W g s bt br (a + j) x y n u v) : TS w (W.setCell ⟨g, 1, none⟩ (.int .i64 ((a : Int) + j + 1))) g s bt br (a + j + 1) x y n u v := by
  have q := h.step
  rw [Int.natCast_add] at q
  exact q
set_option maxHeartbeats 1600000 in
set_option maxRecDepth 100000 in
theorem tokW_T_some (s : ByteArray) (g a k : Nat) (w : World) (h : Sc w g s a) (ha : a < s.size) (hs : s.size ≤ 65536) (hk : a + k ≤ s.size) (hl : isL (chr s a) = true) (hz : cz inW (s.data.toList.drop a) = k) (hh : (((chr s (a + k)).toNat : Int) == 35) = true) (hT : ((s.extract a (a + k)).toList == [84]) = true) (t : Tk) (z : Nat) (TY : Hid (∀ V, Sc V g s (a + k + 1) → Calls Tryd.prog 53 #[.pointer (some ⟨g, 0, none⟩), .agg #[.int .i64 0, .int .i64 0, .int .i64 0, .string ⟨#[]⟩, .int .i64 a], .string (s.extract a (a + k))] V fun e w' => RT g s a (a + k + 1) (some (t, z)) V e w')) : Calls Tryd.prog 35 #[.pointer (some ⟨g, 0, none⟩)] w fun e w' => RT g s a a (some (t, k + 1 + z)) w e w' := by
  have C0 : Hid (∀ V, Sc V g s a → Calls Tryd.prog 34 #[.pointer (some ⟨g, 0, none⟩), .int .i64 0] V fun e w' => e = .returned (.int .u8 (chr s a).toNat) ∧ Same V w') := fun V q => c_r s g a 0 V q (by omega) (by omega)
  have L : Hid (∀ V, Calls Tryd.prog 51 #[.int .u8 (chr s a).toNat] V fun e w' => e = .returned (.bool true) ∧ w' = V) := fun V => by have q := rletter_c (chr s a) V; rw [hl] at q; exact q
  have hgl := h.lt
  have f0 := h.c0
  have f1 := h.c1
  have ff := h.fr
  have hX := hid_as (ts_token h)
  obtain ⟨ta, tb, tc, td⟩ := t
  replace hz := hid_as hz
  clear hl
  generalize (chr s a).toNat = cc at *
  go_enter Tryd.func35, Tryd.ntmps35
  go_wp2_with (first
    | (go_at_call 34; (with_reducible refine (C0.out _ hX.out.sc).mono ?_); rintro e w4 ⟨rfl, k_⟩; replace hX := hid_as (hX.out.turn (Turn.same k_) (hX.out.sc.same k_)); clear k_; have d0 := hX.out.sc.c0; have d1 := hX.out.sc.c1; have df := hX.out.sc.fr)
    | (go_at_call 51; (with_reducible refine (L.out _).mono ?_); rintro e w' ⟨rfl, hw⟩; subst w'))
  have hX0 := hX
  clear hX L C0 d0 d1 df f0 f1 ff
  go_loopw [] (fun wr => ∃ j : Nat, a + j ≤ s.size ∧ Hid (TS w wr g s (w.heap.size + 1) w.heap.size (a + j) 0 0 0 ⟨#[]⟩ (a : Nat)) ∧ Hid (∀ i, i < j → inW (chr s (a + i)) = true)) (fun wr => s.size - atOf g wr)
  case atStart => exact ⟨0, by omega, hX0, hid_as (fun i hi => by omega)⟩
  case round =>
    obtain ⟨j, hj, hX, hj0⟩ := hrel
    have hat := hid_as hX.out.sc.atOf
    have C0 : Hid (∀ V, Sc V g s (a + j) → Calls Tryd.prog 34 #[.pointer (some ⟨g, 0, none⟩), .int .i64 0] V fun e w' => e = .returned (.int .u8 (chr s (a + j)).toNat) ∧ Same V w') := fun V q => c_r s g (a + j) 0 V q (by omega) (by omega)
    cases hl : isL (chr s (a + j)) with
    | true =>
      have L : Hid (∀ V, Calls Tryd.prog 51 #[.int .u8 (chr s (a + j)).toNat] V fun e w' => e = .returned (.bool true) ∧ w' = V) := fun V => by have q := rletter_c (chr s (a + j)) V; rw [hl] at q; exact q
      have hin : Hid (inW (chr s (a + j)) = true) := by rw [inW_or, hl]; exact hid_as rfl
      have hlt := inW_lt hin.out
      clear hl
      generalize (chr s (a + j)).toNat = cc at *
      go_wp2_with (first
        | (go_at_call 34; (with_reducible refine (C0.out _ hX.out.sc).mono ?_); rintro e w4 ⟨rfl, k_⟩; replace hX := hid_as (hX.out.turn (Turn.same k_) (hX.out.sc.same k_)); clear k_; have d0 := hX.out.sc.c0; have d1 := hX.out.sc.c1; have df := hX.out.sc.fr)
        | (go_at_call 51; (with_reducible refine (L.out _).mono ?_); rintro e w' ⟨rfl, hw⟩; subst w'))
      go_roundw
      case rel =>
        refine ⟨j + 1, by omega, hid_as ?_, hid_as ?_⟩
        · have q := hX.out.step
          rw [Int.natCast_add] at q
          exact q
        · intro i hi
          by_cases e : i = j
          · subst e; exact hin.out
          · exact hj0.out i (by omega)
      case measure =>
        have q := hX.out.step.sc
        rw [Int.natCast_add] at q
        rw [q.atOf, hat.out]
        omega
    | false =>
      have L : Hid (∀ V, Calls Tryd.prog 51 #[.int .u8 (chr s (a + j)).toNat] V fun e w' => e = .returned (.bool false) ∧ w' = V) := fun V => by have q := rletter_c (chr s (a + j)) V; rw [hl] at q; exact q
      cases hd : dgt (chr s (a + j)) with
      | true =>
        have DG : Hid (∀ V, Calls Tryd.prog 52 #[.int .u8 (chr s (a + j)).toNat] V fun e w' => e = .returned (.bool true) ∧ w' = V) := fun V => by have q := rdigit_c (chr s (a + j)) V; rw [hd] at q; exact q
        have hin : Hid (inW (chr s (a + j)) = true) := by rw [inW_or, hl, hd]; exact hid_as rfl
        have hlt := inW_lt hin.out
        clear hl hd
        generalize (chr s (a + j)).toNat = cc at *
        go_wp2_with (first
          | (go_at_call 34; (with_reducible refine (C0.out _ hX.out.sc).mono ?_); rintro e w4 ⟨rfl, k_⟩; replace hX := hid_as (hX.out.turn (Turn.same k_) (hX.out.sc.same k_)); clear k_; have d0 := hX.out.sc.c0; have d1 := hX.out.sc.c1; have df := hX.out.sc.fr)
          | (go_at_call 51; (with_reducible refine (L.out _).mono ?_); rintro e w' ⟨rfl, hw⟩; subst w')
          | (go_at_call 52; (with_reducible refine (DG.out _).mono ?_); rintro e w' ⟨rfl, hw⟩; subst w'))
        go_roundw
        case rel =>
          refine ⟨j + 1, by omega, hid_as ?_, hid_as ?_⟩
          · have q := hX.out.step
            rw [Int.natCast_add] at q
            exact q
          · intro i hi
            by_cases e : i = j
            · subst e; exact hin.out
            · exact hj0.out i (by omega)
        case measure =>
          have q := hX.out.step.sc
          rw [Int.natCast_add] at q
          rw [q.atOf, hat.out]
          omega
      | false =>
        have DG : Hid (∀ V, Calls Tryd.prog 52 #[.int .u8 (chr s (a + j)).toNat] V fun e w' => e = .returned (.bool false) ∧ w' = V) := fun V => by have q := rdigit_c (chr s (a + j)) V; rw [hd] at q; exact q
        obtain rfl : j = k := (cz_chr (s := s) (p := inW) (by decide) j a hj0.out (by rw [inW_or, hl, hd]; rfl)).symm.trans hz.out
        have x1 : (0 : Int) ≤ a := by omega
        have x2 : (a : Int) ≤ (a : Int) + j := by omega
        have x3 : (a : Int) + j ≤ s.size := by omega
        have x4 : ((a : Int) + j).toNat = a + j := by omega
        clear hl hd hj0 hz hat
        generalize (chr s (a + j)).toNat = cc at *
        go_wp2_with (first
          | (go_at_call 34; (with_reducible refine (C0.out _ hX.out.sc).mono ?_); rintro e w4 ⟨rfl, k_⟩; replace hX := hid_as (hX.out.turn (Turn.same k_) (hX.out.sc.same k_)); clear k_; have d0 := hX.out.sc.c0; have d1 := hX.out.sc.c1; have df := hX.out.sc.fr; have q4 := hX.out.t.c4)
          | (go_at_call 51; (with_reducible refine (L.out _).mono ?_); rintro e w' ⟨rfl, hw⟩; subst w')
          | (go_at_call 52; (with_reducible refine (DG.out _).mono ?_); rintro e w' ⟨rfl, hw⟩; subst w'))
        go_quiet (fail)
        replace hX := hid_as (hX.out.turn (Turn.same (Same.drewN w4 nq)) (hX.out.sc.same (Same.drewN w4 nq)))
        generalize w4.drewN nq = w5 at *
        clear d0 d1 df q4
        obtain ⟨_, ⟨q0, q1, q2, q3, q4, qf, ql⟩, ⟨r0, r1, r2, r3, r4, rf, rl⟩, _, _, _, _⟩ := hX.out
        have d1 := hX.out.sc.c1
        have df := hX.out.sc.fr
        go_wp2_with (first
          | (go_at_call 34; (with_reducible refine (C0.out _ hX.out.sc).mono ?_); rintro e w4 ⟨rfl, k_⟩; replace hX := hid_as (hX.out.turn (Turn.same k_) (hX.out.sc.same k_)); clear k_; clear q0 q1 q2 q3 q4 qf ql r0 r1 r2 r3 r4 rf rl d1 df; obtain ⟨_, ⟨q0, q1, q2, q3, q4, qf, ql⟩, ⟨r0, r1, r2, r3, r4, rf, rl⟩, _, _, _, _⟩ := hX.out; have d1 := hX.out.sc.c1; have df := hX.out.sc.fr)
          | (go_at_call 53; (with_reducible refine (TY.out _ hX.out.step2.sc).mono ?_); rintro e w7 RTX; have hX7 := hX; clear q0 q1 q2 q3 q4 qf ql d1 df; obtain ⟨t7, rfl, s7⟩ := RTX; have hR7 := hid_as (hX7.out.step2.r.turn t7 (by omega)); have hU7 := hid_as (hX7.out.step2.tu.trans t7); clear r0 r1 r2 r3 r4 rf rl; obtain ⟨r0, r1, r2, r3, r4, rf, rl⟩ := hR7.out; replace s7 := hid_as s7; unfold tv))
        have hTu := hU7.out
        have hSc := s7.out
        rw [show a + j + 1 + z = a + (j + 1 + z) by omega] at hSc
        exact bodyPost_ret (v := .tuple #[tv ⟨ta, tb, tc, td⟩ a, .int .i64 0]) (by simp [results, Tryd.results35, go_sem, tv, r0, r1, r2, r3, r4]) rfl (rt_some (by repeat (first | (with_reducible exact hTu) | refine Turn.far ?_ (by omega) _ _)) (by repeat (first | (with_reducible exact hSc) | refine Sc.far ?_ (by omega) _ _)))
set_option maxHeartbeats 1600000 in
set_option maxRecDepth 100000 in
theorem tokW_T_none (s : ByteArray) (g a k : Nat) (w : World) (h : Sc w g s a) (ha : a < s.size) (hs : s.size ≤ 65536) (hk : a + k ≤ s.size) (hl : isL (chr s a) = true) (hz : cz inW (s.data.toList.drop a) = k) (hh : (((chr s (a + k)).toNat : Int) == 35) = true) (hT : ((s.extract a (a + k)).toList == [84]) = true) (TY : Hid (∀ V, Sc V g s (a + k + 1) → Calls Tryd.prog 53 #[.pointer (some ⟨g, 0, none⟩), .agg #[.int .i64 0, .int .i64 0, .int .i64 0, .string ⟨#[]⟩, .int .i64 a], .string (s.extract a (a + k))] V fun e w' => RT g s a (a + k + 1) (none) V e w')) : Calls Tryd.prog 35 #[.pointer (some ⟨g, 0, none⟩)] w fun e w' => RT g s a a (none) w e w' := by
  have C0 : Hid (∀ V, Sc V g s a → Calls Tryd.prog 34 #[.pointer (some ⟨g, 0, none⟩), .int .i64 0] V fun e w' => e = .returned (.int .u8 (chr s a).toNat) ∧ Same V w') := fun V q => c_r s g a 0 V q (by omega) (by omega)
  have L : Hid (∀ V, Calls Tryd.prog 51 #[.int .u8 (chr s a).toNat] V fun e w' => e = .returned (.bool true) ∧ w' = V) := fun V => by have q := rletter_c (chr s a) V; rw [hl] at q; exact q
  have hgl := h.lt
  have f0 := h.c0
  have f1 := h.c1
  have ff := h.fr
  have hX := hid_as (ts_token h)
  replace hz := hid_as hz
  clear hl
  generalize (chr s a).toNat = cc at *
  go_enter Tryd.func35, Tryd.ntmps35
  go_wp2_with (first
    | (go_at_call 34; (with_reducible refine (C0.out _ hX.out.sc).mono ?_); rintro e w4 ⟨rfl, k_⟩; replace hX := hid_as (hX.out.turn (Turn.same k_) (hX.out.sc.same k_)); clear k_; have d0 := hX.out.sc.c0; have d1 := hX.out.sc.c1; have df := hX.out.sc.fr)
    | (go_at_call 51; (with_reducible refine (L.out _).mono ?_); rintro e w' ⟨rfl, hw⟩; subst w'))
  have hX0 := hX
  clear hX L C0 d0 d1 df f0 f1 ff
  go_loopw [] (fun wr => ∃ j : Nat, a + j ≤ s.size ∧ Hid (TS w wr g s (w.heap.size + 1) w.heap.size (a + j) 0 0 0 ⟨#[]⟩ (a : Nat)) ∧ Hid (∀ i, i < j → inW (chr s (a + i)) = true)) (fun wr => s.size - atOf g wr)
  case atStart => exact ⟨0, by omega, hX0, hid_as (fun i hi => by omega)⟩
  case round =>
    obtain ⟨j, hj, hX, hj0⟩ := hrel
    have hat := hid_as hX.out.sc.atOf
    have C0 : Hid (∀ V, Sc V g s (a + j) → Calls Tryd.prog 34 #[.pointer (some ⟨g, 0, none⟩), .int .i64 0] V fun e w' => e = .returned (.int .u8 (chr s (a + j)).toNat) ∧ Same V w') := fun V q => c_r s g (a + j) 0 V q (by omega) (by omega)
    cases hl : isL (chr s (a + j)) with
    | true =>
      have L : Hid (∀ V, Calls Tryd.prog 51 #[.int .u8 (chr s (a + j)).toNat] V fun e w' => e = .returned (.bool true) ∧ w' = V) := fun V => by have q := rletter_c (chr s (a + j)) V; rw [hl] at q; exact q
      have hin : Hid (inW (chr s (a + j)) = true) := by rw [inW_or, hl]; exact hid_as rfl
      have hlt := inW_lt hin.out
      clear hl
      generalize (chr s (a + j)).toNat = cc at *
      go_wp2_with (first
        | (go_at_call 34; (with_reducible refine (C0.out _ hX.out.sc).mono ?_); rintro e w4 ⟨rfl, k_⟩; replace hX := hid_as (hX.out.turn (Turn.same k_) (hX.out.sc.same k_)); clear k_; have d0 := hX.out.sc.c0; have d1 := hX.out.sc.c1; have df := hX.out.sc.fr)
        | (go_at_call 51; (with_reducible refine (L.out _).mono ?_); rintro e w' ⟨rfl, hw⟩; subst w'))
      go_roundw
      case rel =>
        refine ⟨j + 1, by omega, hid_as ?_, hid_as ?_⟩
        · have q := hX.out.step
          rw [Int.natCast_add] at q
          exact q
        · intro i hi
          by_cases e : i = j
          · subst e; exact hin.out
          · exact hj0.out i (by omega)
      case measure =>
        have q := hX.out.step.sc
        rw [Int.natCast_add] at q
        rw [q.atOf, hat.out]
        omega
    | false =>
      have L : Hid (∀ V, Calls Tryd.prog 51 #[.int .u8 (chr s (a + j)).toNat] V fun e w' => e = .returned (.bool false) ∧ w' = V) := fun V => by have q := rletter_c (chr s (a + j)) V; rw [hl] at q; exact q
      cases hd : dgt (chr s (a + j)) with
      | true =>
        have DG : Hid (∀ V, Calls Tryd.prog 52 #[.int .u8 (chr s (a + j)).toNat] V fun e w' => e = .returned (.bool true) ∧ w' = V) := fun V => by have q := rdigit_c (chr s (a + j)) V; rw [hd] at q; exact q
        have hin : Hid (inW (chr s (a + j)) = true) := by rw [inW_or, hl, hd]; exact hid_as rfl
        have hlt := inW_lt hin.out
        clear hl hd
        generalize (chr s (a + j)).toNat = cc at *
        go_wp2_with (first
          | (go_at_call 34; (with_reducible refine (C0.out _ hX.out.sc).mono ?_); rintro e w4 ⟨rfl, k_⟩; replace hX := hid_as (hX.out.turn (Turn.same k_) (hX.out.sc.same k_)); clear k_; have d0 := hX.out.sc.c0; have d1 := hX.out.sc.c1; have df := hX.out.sc.fr)
          | (go_at_call 51; (with_reducible refine (L.out _).mono ?_); rintro e w' ⟨rfl, hw⟩; subst w')
          | (go_at_call 52; (with_reducible refine (DG.out _).mono ?_); rintro e w' ⟨rfl, hw⟩; subst w'))
        go_roundw
        case rel =>
          refine ⟨j + 1, by omega, hid_as ?_, hid_as ?_⟩
          · have q := hX.out.step
            rw [Int.natCast_add] at q
            exact q
          · intro i hi
            by_cases e : i = j
            · subst e; exact hin.out
            · exact hj0.out i (by omega)
        case measure =>
          have q := hX.out.step.sc
          rw [Int.natCast_add] at q
          rw [q.atOf, hat.out]
          omega
      | false =>
        have DG : Hid (∀ V, Calls Tryd.prog 52 #[.int .u8 (chr s (a + j)).toNat] V fun e w' => e = .returned (.bool false) ∧ w' = V) := fun V => by have q := rdigit_c (chr s (a + j)) V; rw [hd] at q; exact q
        obtain rfl : j = k := (cz_chr (s := s) (p := inW) (by decide) j a hj0.out (by rw [inW_or, hl, hd]; rfl)).symm.trans hz.out
        have x1 : (0 : Int) ≤ a := by omega
        have x2 : (a : Int) ≤ (a : Int) + j := by omega
        have x3 : (a : Int) + j ≤ s.size := by omega
        have x4 : ((a : Int) + j).toNat = a + j := by omega
        clear hl hd hj0 hz hat
        generalize (chr s (a + j)).toNat = cc at *
        go_wp2_with (first
          | (go_at_call 34; (with_reducible refine (C0.out _ hX.out.sc).mono ?_); rintro e w4 ⟨rfl, k_⟩; replace hX := hid_as (hX.out.turn (Turn.same k_) (hX.out.sc.same k_)); clear k_; have d0 := hX.out.sc.c0; have d1 := hX.out.sc.c1; have df := hX.out.sc.fr; have q4 := hX.out.t.c4)
          | (go_at_call 51; (with_reducible refine (L.out _).mono ?_); rintro e w' ⟨rfl, hw⟩; subst w')
          | (go_at_call 52; (with_reducible refine (DG.out _).mono ?_); rintro e w' ⟨rfl, hw⟩; subst w'))
        go_quiet (fail)
        replace hX := hid_as (hX.out.turn (Turn.same (Same.drewN w4 nq)) (hX.out.sc.same (Same.drewN w4 nq)))
        generalize w4.drewN nq = w5 at *
        clear d0 d1 df q4
        obtain ⟨_, ⟨q0, q1, q2, q3, q4, qf, ql⟩, ⟨r0, r1, r2, r3, r4, rf, rl⟩, _, _, _, _⟩ := hX.out
        have d1 := hX.out.sc.c1
        have df := hX.out.sc.fr
        go_wp2_with (first
          | (go_at_call 34; (with_reducible refine (C0.out _ hX.out.sc).mono ?_); rintro e w4 ⟨rfl, k_⟩; replace hX := hid_as (hX.out.turn (Turn.same k_) (hX.out.sc.same k_)); clear k_; clear q0 q1 q2 q3 q4 qf ql r0 r1 r2 r3 r4 rf rl d1 df; obtain ⟨_, ⟨q0, q1, q2, q3, q4, qf, ql⟩, ⟨r0, r1, r2, r3, r4, rf, rl⟩, _, _, _, _⟩ := hX.out; have d1 := hX.out.sc.c1; have df := hX.out.sc.fr)
          | (go_at_call 53; (with_reducible refine (TY.out _ hX.out.step2.sc).mono ?_); rintro e w7 RTX; have hX7 := hX; clear q0 q1 q2 q3 q4 qf ql d1 df; obtain ⟨t7, tx0, ty0, tn0, tE, tu0, hE, rfl⟩ := RTX; have hR7 := hid_as (hX7.out.step2.r.turn t7 (by omega)); have hU7 := hid_as (hX7.out.step2.tu.trans t7); clear r0 r1 r2 r3 r4 rf rl; obtain ⟨r0, r1, r2, r3, r4, rf, rl⟩ := hR7.out))
        have hTu := hU7.out
        exact bodyPost_ret (v := .tuple #[.agg #[.int .i64 tx0, .int .i64 ty0, .int .i64 tn0, .string tu0, .int .i64 a], .int .i64 tE]) (by simp [results, Tryd.results35, go_sem, r0, r1, r2, r3, r4]) rfl (rt_none hE (by repeat (first | (with_reducible exact hTu) | refine Turn.far ?_ (by omega) _ _)))
set_option maxHeartbeats 1600000 in
set_option maxRecDepth 100000 in
theorem tokW_K_some (s : ByteArray) (g a k : Nat) (w : World) (h : Sc w g s a) (ha : a < s.size) (hs : s.size ≤ 65536) (hk : a + k ≤ s.size) (hl : isL (chr s a) = true) (hz : cz inW (s.data.toList.drop a) = k) (hh : (((chr s (a + k)).toNat : Int) == 35) = true) (hT : ((s.extract a (a + k)).toList == [84]) = false) (K : Nat) (hkf : kf (s.extract a (a + k)).data.toList = K) (hK : ¬ K = 0) (t : Tk) (z : Nat) (TY : Hid (∀ V, Sc V g s (a + k + 1) → Calls Tryd.prog 53 #[.pointer (some ⟨g, 0, none⟩), .agg #[.int .i64 0, .int .i64 0, .int .i64 0, .string ⟨#[]⟩, .int .i64 a], .string (s.extract a (a + k))] V fun e w' => RT g s a (a + k + 1) (some (t, z)) V e w')) : Calls Tryd.prog 35 #[.pointer (some ⟨g, 0, none⟩)] w fun e w' => RT g s a a (some (t, k + 1 + z)) w e w' := by
  have C0 : Hid (∀ V, Sc V g s a → Calls Tryd.prog 34 #[.pointer (some ⟨g, 0, none⟩), .int .i64 0] V fun e w' => e = .returned (.int .u8 (chr s a).toNat) ∧ Same V w') := fun V q => c_r s g a 0 V q (by omega) (by omega)
  have L : Hid (∀ V, Calls Tryd.prog 51 #[.int .u8 (chr s a).toNat] V fun e w' => e = .returned (.bool true) ∧ w' = V) := fun V => by have q := rletter_c (chr s a) V; rw [hl] at q; exact q
  have hgl := h.lt
  have f0 := h.c0
  have f1 := h.c1
  have ff := h.fr
  have hX := hid_as (ts_token h)
  obtain ⟨ta, tb, tc, td⟩ := t
  have KD : Hid (∀ V, Calls Tryd.prog 24 #[.string (s.extract a (a + k))] V fun e w' => e = .returned (.int .i64 (K : Nat)) ∧ Below V.heap.size V w') := fun V => by have q := kind_r (s.extract a (a + k)) V; rw [hkf] at q; exact q
  have hK' : ¬ (K : Int) = 0 := by omega
  clear hkf
  replace hz := hid_as hz
  clear hl
  generalize (chr s a).toNat = cc at *
  go_enter Tryd.func35, Tryd.ntmps35
  go_wp2_with (first
    | (go_at_call 34; (with_reducible refine (C0.out _ hX.out.sc).mono ?_); rintro e w4 ⟨rfl, k_⟩; replace hX := hid_as (hX.out.turn (Turn.same k_) (hX.out.sc.same k_)); clear k_; have d0 := hX.out.sc.c0; have d1 := hX.out.sc.c1; have df := hX.out.sc.fr)
    | (go_at_call 51; (with_reducible refine (L.out _).mono ?_); rintro e w' ⟨rfl, hw⟩; subst w'))
  have hX0 := hX
  clear hX L C0 d0 d1 df f0 f1 ff
  go_loopw [] (fun wr => ∃ j : Nat, a + j ≤ s.size ∧ Hid (TS w wr g s (w.heap.size + 1) w.heap.size (a + j) 0 0 0 ⟨#[]⟩ (a : Nat)) ∧ Hid (∀ i, i < j → inW (chr s (a + i)) = true)) (fun wr => s.size - atOf g wr)
  case atStart => exact ⟨0, by omega, hX0, hid_as (fun i hi => by omega)⟩
  case round =>
    obtain ⟨j, hj, hX, hj0⟩ := hrel
    have hat := hid_as hX.out.sc.atOf
    have C0 : Hid (∀ V, Sc V g s (a + j) → Calls Tryd.prog 34 #[.pointer (some ⟨g, 0, none⟩), .int .i64 0] V fun e w' => e = .returned (.int .u8 (chr s (a + j)).toNat) ∧ Same V w') := fun V q => c_r s g (a + j) 0 V q (by omega) (by omega)
    cases hl : isL (chr s (a + j)) with
    | true =>
      have L : Hid (∀ V, Calls Tryd.prog 51 #[.int .u8 (chr s (a + j)).toNat] V fun e w' => e = .returned (.bool true) ∧ w' = V) := fun V => by have q := rletter_c (chr s (a + j)) V; rw [hl] at q; exact q
      have hin : Hid (inW (chr s (a + j)) = true) := by rw [inW_or, hl]; exact hid_as rfl
      have hlt := inW_lt hin.out
      clear hl
      generalize (chr s (a + j)).toNat = cc at *
      go_wp2_with (first
        | (go_at_call 34; (with_reducible refine (C0.out _ hX.out.sc).mono ?_); rintro e w4 ⟨rfl, k_⟩; replace hX := hid_as (hX.out.turn (Turn.same k_) (hX.out.sc.same k_)); clear k_; have d0 := hX.out.sc.c0; have d1 := hX.out.sc.c1; have df := hX.out.sc.fr)
        | (go_at_call 51; (with_reducible refine (L.out _).mono ?_); rintro e w' ⟨rfl, hw⟩; subst w'))
      go_roundw
      case rel =>
        refine ⟨j + 1, by omega, hid_as ?_, hid_as ?_⟩
        · have q := hX.out.step
          rw [Int.natCast_add] at q
          exact q
        · intro i hi
          by_cases e : i = j
          · subst e; exact hin.out
          · exact hj0.out i (by omega)
      case measure =>
        have q := hX.out.step.sc
        rw [Int.natCast_add] at q
        rw [q.atOf, hat.out]
        omega
    | false =>
      have L : Hid (∀ V, Calls Tryd.prog 51 #[.int .u8 (chr s (a + j)).toNat] V fun e w' => e = .returned (.bool false) ∧ w' = V) := fun V => by have q := rletter_c (chr s (a + j)) V; rw [hl] at q; exact q
      cases hd : dgt (chr s (a + j)) with
      | true =>
        have DG : Hid (∀ V, Calls Tryd.prog 52 #[.int .u8 (chr s (a + j)).toNat] V fun e w' => e = .returned (.bool true) ∧ w' = V) := fun V => by have q := rdigit_c (chr s (a + j)) V; rw [hd] at q; exact q
        have hin : Hid (inW (chr s (a + j)) = true) := by rw [inW_or, hl, hd]; exact hid_as rfl
        have hlt := inW_lt hin.out
        clear hl hd
        generalize (chr s (a + j)).toNat = cc at *
        go_wp2_with (first
          | (go_at_call 34; (with_reducible refine (C0.out _ hX.out.sc).mono ?_); rintro e w4 ⟨rfl, k_⟩; replace hX := hid_as (hX.out.turn (Turn.same k_) (hX.out.sc.same k_)); clear k_; have d0 := hX.out.sc.c0; have d1 := hX.out.sc.c1; have df := hX.out.sc.fr)
          | (go_at_call 51; (with_reducible refine (L.out _).mono ?_); rintro e w' ⟨rfl, hw⟩; subst w')
          | (go_at_call 52; (with_reducible refine (DG.out _).mono ?_); rintro e w' ⟨rfl, hw⟩; subst w'))
        go_roundw
        case rel =>
          refine ⟨j + 1, by omega, hid_as ?_, hid_as ?_⟩
          · have q := hX.out.step
            rw [Int.natCast_add] at q
            exact q
          · intro i hi
            by_cases e : i = j
            · subst e; exact hin.out
            · exact hj0.out i (by omega)
        case measure =>
          have q := hX.out.step.sc
          rw [Int.natCast_add] at q
          rw [q.atOf, hat.out]
          omega
      | false =>
        have DG : Hid (∀ V, Calls Tryd.prog 52 #[.int .u8 (chr s (a + j)).toNat] V fun e w' => e = .returned (.bool false) ∧ w' = V) := fun V => by have q := rdigit_c (chr s (a + j)) V; rw [hd] at q; exact q
        obtain rfl : j = k := (cz_chr (s := s) (p := inW) (by decide) j a hj0.out (by rw [inW_or, hl, hd]; rfl)).symm.trans hz.out
        have x1 : (0 : Int) ≤ a := by omega
        have x2 : (a : Int) ≤ (a : Int) + j := by omega
        have x3 : (a : Int) + j ≤ s.size := by omega
        have x4 : ((a : Int) + j).toNat = a + j := by omega
        clear hl hd hj0 hz hat
        generalize (chr s (a + j)).toNat = cc at *
        go_wp2_with (first
          | (go_at_call 34; (with_reducible refine (C0.out _ hX.out.sc).mono ?_); rintro e w4 ⟨rfl, k_⟩; replace hX := hid_as (hX.out.turn (Turn.same k_) (hX.out.sc.same k_)); clear k_; have d0 := hX.out.sc.c0; have d1 := hX.out.sc.c1; have df := hX.out.sc.fr; have q4 := hX.out.t.c4)
          | (go_at_call 51; (with_reducible refine (L.out _).mono ?_); rintro e w' ⟨rfl, hw⟩; subst w')
          | (go_at_call 52; (with_reducible refine (DG.out _).mono ?_); rintro e w' ⟨rfl, hw⟩; subst w'))
        go_quiet (fail)
        replace hX := hid_as (hX.out.turn (Turn.same (Same.drewN w4 nq)) (hX.out.sc.same (Same.drewN w4 nq)))
        generalize w4.drewN nq = w5 at *
        clear d0 d1 df q4
        obtain ⟨_, ⟨q0, q1, q2, q3, q4, qf, ql⟩, ⟨r0, r1, r2, r3, r4, rf, rl⟩, _, _, _, _⟩ := hX.out
        have d1 := hX.out.sc.c1
        have df := hX.out.sc.fr
        go_wp2_with (first
          | (go_at_call 34; (with_reducible refine (C0.out _ hX.out.sc).mono ?_); rintro e w4 ⟨rfl, k_⟩; replace hX := hid_as (hX.out.turn (Turn.same k_) (hX.out.sc.same k_)); clear k_; clear q0 q1 q2 q3 q4 qf ql r0 r1 r2 r3 r4 rf rl d1 df; obtain ⟨_, ⟨q0, q1, q2, q3, q4, qf, ql⟩, ⟨r0, r1, r2, r3, r4, rf, rl⟩, _, _, _, _⟩ := hX.out; have d1 := hX.out.sc.c1; have df := hX.out.sc.fr)
          | (go_at_call 24; (with_reducible refine (KD.out _).mono ?_); rintro e w6 ⟨rfl, b_⟩; replace hX := hid_as (hX.out.below b_); clear b_; clear q0 q1 q2 q3 q4 qf ql r0 r1 r2 r3 r4 rf rl d1 df; obtain ⟨_, ⟨q0, q1, q2, q3, q4, qf, ql⟩, ⟨r0, r1, r2, r3, r4, rf, rl⟩, _, _, _, _⟩ := hX.out; have d1 := hX.out.sc.c1; have df := hX.out.sc.fr)
          | (go_at_call 53; (with_reducible refine (TY.out _ hX.out.step2.sc).mono ?_); rintro e w7 RTX; have hX7 := hX; clear q0 q1 q2 q3 q4 qf ql d1 df; obtain ⟨t7, rfl, s7⟩ := RTX; have hR7 := hid_as (hX7.out.step2.r.turn t7 (by omega)); have hU7 := hid_as (hX7.out.step2.tu.trans t7); clear r0 r1 r2 r3 r4 rf rl; obtain ⟨r0, r1, r2, r3, r4, rf, rl⟩ := hR7.out; replace s7 := hid_as s7; unfold tv))
        have hTu := hU7.out
        have hSc := s7.out
        rw [show a + j + 1 + z = a + (j + 1 + z) by omega] at hSc
        exact bodyPost_ret (v := .tuple #[tv ⟨ta, tb, tc, td⟩ a, .int .i64 0]) (by simp [results, Tryd.results35, go_sem, tv, r0, r1, r2, r3, r4]) rfl (rt_some (by repeat (first | (with_reducible exact hTu) | refine Turn.far ?_ (by omega) _ _)) (by repeat (first | (with_reducible exact hSc) | refine Sc.far ?_ (by omega) _ _)))
set_option maxHeartbeats 1600000 in
set_option maxRecDepth 100000 in
theorem tokW_K_none (s : ByteArray) (g a k : Nat) (w : World) (h : Sc w g s a) (ha : a < s.size) (hs : s.size ≤ 65536) (hk : a + k ≤ s.size) (hl : isL (chr s a) = true) (hz : cz inW (s.data.toList.drop a) = k) (hh : (((chr s (a + k)).toNat : Int) == 35) = true) (hT : ((s.extract a (a + k)).toList == [84]) = false) (K : Nat) (hkf : kf (s.extract a (a + k)).data.toList = K) (hK : ¬ K = 0) (TY : Hid (∀ V, Sc V g s (a + k + 1) → Calls Tryd.prog 53 #[.pointer (some ⟨g, 0, none⟩), .agg #[.int .i64 0, .int .i64 0, .int .i64 0, .string ⟨#[]⟩, .int .i64 a], .string (s.extract a (a + k))] V fun e w' => RT g s a (a + k + 1) (none) V e w')) : Calls Tryd.prog 35 #[.pointer (some ⟨g, 0, none⟩)] w fun e w' => RT g s a a (none) w e w' := by
  have C0 : Hid (∀ V, Sc V g s a → Calls Tryd.prog 34 #[.pointer (some ⟨g, 0, none⟩), .int .i64 0] V fun e w' => e = .returned (.int .u8 (chr s a).toNat) ∧ Same V w') := fun V q => c_r s g a 0 V q (by omega) (by omega)
  have L : Hid (∀ V, Calls Tryd.prog 51 #[.int .u8 (chr s a).toNat] V fun e w' => e = .returned (.bool true) ∧ w' = V) := fun V => by have q := rletter_c (chr s a) V; rw [hl] at q; exact q
  have hgl := h.lt
  have f0 := h.c0
  have f1 := h.c1
  have ff := h.fr
  have hX := hid_as (ts_token h)
  have KD : Hid (∀ V, Calls Tryd.prog 24 #[.string (s.extract a (a + k))] V fun e w' => e = .returned (.int .i64 (K : Nat)) ∧ Below V.heap.size V w') := fun V => by have q := kind_r (s.extract a (a + k)) V; rw [hkf] at q; exact q
  have hK' : ¬ (K : Int) = 0 := by omega
  clear hkf
  replace hz := hid_as hz
  clear hl
  generalize (chr s a).toNat = cc at *
  go_enter Tryd.func35, Tryd.ntmps35
  go_wp2_with (first
    | (go_at_call 34; (with_reducible refine (C0.out _ hX.out.sc).mono ?_); rintro e w4 ⟨rfl, k_⟩; replace hX := hid_as (hX.out.turn (Turn.same k_) (hX.out.sc.same k_)); clear k_; have d0 := hX.out.sc.c0; have d1 := hX.out.sc.c1; have df := hX.out.sc.fr)
    | (go_at_call 51; (with_reducible refine (L.out _).mono ?_); rintro e w' ⟨rfl, hw⟩; subst w'))
  have hX0 := hX
  clear hX L C0 d0 d1 df f0 f1 ff
  go_loopw [] (fun wr => ∃ j : Nat, a + j ≤ s.size ∧ Hid (TS w wr g s (w.heap.size + 1) w.heap.size (a + j) 0 0 0 ⟨#[]⟩ (a : Nat)) ∧ Hid (∀ i, i < j → inW (chr s (a + i)) = true)) (fun wr => s.size - atOf g wr)
  case atStart => exact ⟨0, by omega, hX0, hid_as (fun i hi => by omega)⟩
  case round =>
    obtain ⟨j, hj, hX, hj0⟩ := hrel
    have hat := hid_as hX.out.sc.atOf
    have C0 : Hid (∀ V, Sc V g s (a + j) → Calls Tryd.prog 34 #[.pointer (some ⟨g, 0, none⟩), .int .i64 0] V fun e w' => e = .returned (.int .u8 (chr s (a + j)).toNat) ∧ Same V w') := fun V q => c_r s g (a + j) 0 V q (by omega) (by omega)
    cases hl : isL (chr s (a + j)) with
    | true =>
      have L : Hid (∀ V, Calls Tryd.prog 51 #[.int .u8 (chr s (a + j)).toNat] V fun e w' => e = .returned (.bool true) ∧ w' = V) := fun V => by have q := rletter_c (chr s (a + j)) V; rw [hl] at q; exact q
      have hin : Hid (inW (chr s (a + j)) = true) := by rw [inW_or, hl]; exact hid_as rfl
      have hlt := inW_lt hin.out
      clear hl
      generalize (chr s (a + j)).toNat = cc at *
      go_wp2_with (first
        | (go_at_call 34; (with_reducible refine (C0.out _ hX.out.sc).mono ?_); rintro e w4 ⟨rfl, k_⟩; replace hX := hid_as (hX.out.turn (Turn.same k_) (hX.out.sc.same k_)); clear k_; have d0 := hX.out.sc.c0; have d1 := hX.out.sc.c1; have df := hX.out.sc.fr)
        | (go_at_call 51; (with_reducible refine (L.out _).mono ?_); rintro e w' ⟨rfl, hw⟩; subst w'))
      go_roundw
      case rel =>
        refine ⟨j + 1, by omega, hid_as ?_, hid_as ?_⟩
        · have q := hX.out.step
          rw [Int.natCast_add] at q
          exact q
        · intro i hi
          by_cases e : i = j
          · subst e; exact hin.out
          · exact hj0.out i (by omega)
      case measure =>
        have q := hX.out.step.sc
        rw [Int.natCast_add] at q
        rw [q.atOf, hat.out]
        omega
    | false =>
      have L : Hid (∀ V, Calls Tryd.prog 51 #[.int .u8 (chr s (a + j)).toNat] V fun e w' => e = .returned (.bool false) ∧ w' = V) := fun V => by have q := rletter_c (chr s (a + j)) V; rw [hl] at q; exact q
      cases hd : dgt (chr s (a + j)) with
      | true =>
        have DG : Hid (∀ V, Calls Tryd.prog 52 #[.int .u8 (chr s (a + j)).toNat] V fun e w' => e = .returned (.bool true) ∧ w' = V) := fun V => by have q := rdigit_c (chr s (a + j)) V; rw [hd] at q; exact q
        have hin : Hid (inW (chr s (a + j)) = true) := by rw [inW_or, hl, hd]; exact hid_as rfl
        have hlt := inW_lt hin.out
        clear hl hd
        generalize (chr s (a + j)).toNat = cc at *
        go_wp2_with (first
          | (go_at_call 34; (with_reducible refine (C0.out _ hX.out.sc).mono ?_); rintro e w4 ⟨rfl, k_⟩; replace hX := hid_as (hX.out.turn (Turn.same k_) (hX.out.sc.same k_)); clear k_; have d0 := hX.out.sc.c0; have d1 := hX.out.sc.c1; have df := hX.out.sc.fr)
          | (go_at_call 51; (with_reducible refine (L.out _).mono ?_); rintro e w' ⟨rfl, hw⟩; subst w')
          | (go_at_call 52; (with_reducible refine (DG.out _).mono ?_); rintro e w' ⟨rfl, hw⟩; subst w'))
        go_roundw
        case rel =>
          refine ⟨j + 1, by omega, hid_as ?_, hid_as ?_⟩
          · have q := hX.out.step
            rw [Int.natCast_add] at q
            exact q
          · intro i hi
            by_cases e : i = j
            · subst e; exact hin.out
            · exact hj0.out i (by omega)
        case measure =>
          have q := hX.out.step.sc
          rw [Int.natCast_add] at q
          rw [q.atOf, hat.out]
          omega
      | false =>
        have DG : Hid (∀ V, Calls Tryd.prog 52 #[.int .u8 (chr s (a + j)).toNat] V fun e w' => e = .returned (.bool false) ∧ w' = V) := fun V => by have q := rdigit_c (chr s (a + j)) V; rw [hd] at q; exact q
        obtain rfl : j = k := (cz_chr (s := s) (p := inW) (by decide) j a hj0.out (by rw [inW_or, hl, hd]; rfl)).symm.trans hz.out
        have x1 : (0 : Int) ≤ a := by omega
        have x2 : (a : Int) ≤ (a : Int) + j := by omega
        have x3 : (a : Int) + j ≤ s.size := by omega
        have x4 : ((a : Int) + j).toNat = a + j := by omega
        clear hl hd hj0 hz hat
        generalize (chr s (a + j)).toNat = cc at *
        go_wp2_with (first
          | (go_at_call 34; (with_reducible refine (C0.out _ hX.out.sc).mono ?_); rintro e w4 ⟨rfl, k_⟩; replace hX := hid_as (hX.out.turn (Turn.same k_) (hX.out.sc.same k_)); clear k_; have d0 := hX.out.sc.c0; have d1 := hX.out.sc.c1; have df := hX.out.sc.fr; have q4 := hX.out.t.c4)
          | (go_at_call 51; (with_reducible refine (L.out _).mono ?_); rintro e w' ⟨rfl, hw⟩; subst w')
          | (go_at_call 52; (with_reducible refine (DG.out _).mono ?_); rintro e w' ⟨rfl, hw⟩; subst w'))
        go_quiet (fail)
        replace hX := hid_as (hX.out.turn (Turn.same (Same.drewN w4 nq)) (hX.out.sc.same (Same.drewN w4 nq)))
        generalize w4.drewN nq = w5 at *
        clear d0 d1 df q4
        obtain ⟨_, ⟨q0, q1, q2, q3, q4, qf, ql⟩, ⟨r0, r1, r2, r3, r4, rf, rl⟩, _, _, _, _⟩ := hX.out
        have d1 := hX.out.sc.c1
        have df := hX.out.sc.fr
        go_wp2_with (first
          | (go_at_call 34; (with_reducible refine (C0.out _ hX.out.sc).mono ?_); rintro e w4 ⟨rfl, k_⟩; replace hX := hid_as (hX.out.turn (Turn.same k_) (hX.out.sc.same k_)); clear k_; clear q0 q1 q2 q3 q4 qf ql r0 r1 r2 r3 r4 rf rl d1 df; obtain ⟨_, ⟨q0, q1, q2, q3, q4, qf, ql⟩, ⟨r0, r1, r2, r3, r4, rf, rl⟩, _, _, _, _⟩ := hX.out; have d1 := hX.out.sc.c1; have df := hX.out.sc.fr)
          | (go_at_call 24; (with_reducible refine (KD.out _).mono ?_); rintro e w6 ⟨rfl, b_⟩; replace hX := hid_as (hX.out.below b_); clear b_; clear q0 q1 q2 q3 q4 qf ql r0 r1 r2 r3 r4 rf rl d1 df; obtain ⟨_, ⟨q0, q1, q2, q3, q4, qf, ql⟩, ⟨r0, r1, r2, r3, r4, rf, rl⟩, _, _, _, _⟩ := hX.out; have d1 := hX.out.sc.c1; have df := hX.out.sc.fr)
          | (go_at_call 53; (with_reducible refine (TY.out _ hX.out.step2.sc).mono ?_); rintro e w7 RTX; have hX7 := hX; clear q0 q1 q2 q3 q4 qf ql d1 df; obtain ⟨t7, tx0, ty0, tn0, tE, tu0, hE, rfl⟩ := RTX; have hR7 := hid_as (hX7.out.step2.r.turn t7 (by omega)); have hU7 := hid_as (hX7.out.step2.tu.trans t7); clear r0 r1 r2 r3 r4 rf rl; obtain ⟨r0, r1, r2, r3, r4, rf, rl⟩ := hR7.out))
        have hTu := hU7.out
        exact bodyPost_ret (v := .tuple #[.agg #[.int .i64 tx0, .int .i64 ty0, .int .i64 tn0, .string tu0, .int .i64 a], .int .i64 tE]) (by simp [results, Tryd.results35, go_sem, r0, r1, r2, r3, r4]) rfl (rt_none hE (by repeat (first | (with_reducible exact hTu) | refine Turn.far ?_ (by omega) _ _)))
open Go.RowKit
open Adr Lx
set_option maxHeartbeats 1600000 in
set_option maxRecDepth 100000 in
theorem tokPn_true (s : ByteArray) (g a k : Nat) (w : World) (h : Sc w g s a) (ha : a < s.size) (hs : s.size ≤ 65536) (hk : a + k ≤ s.size) (hl : isL (chr s a) = true) (hz : cz inW (s.data.toList.drop a) = k) (hh : (((chr s (a + k)).toNat : Int) == 35) = false) (hv : ((s.extract a (a + k)).toList == [84, 82, 85, 69]) = true)  : Calls Tryd.prog 35 #[.pointer (some ⟨g, 0, none⟩)] w fun e w' => RT g s a a (some (tru 1, k)) w e w' := by
  have C0 : Hid (∀ V, Sc V g s a → Calls Tryd.prog 34 #[.pointer (some ⟨g, 0, none⟩), .int .i64 0] V fun e w' => e = .returned (.int .u8 (chr s a).toNat) ∧ Same V w') := fun V q => c_r s g a 0 V q (by omega) (by omega)
  have L : Hid (∀ V, Calls Tryd.prog 51 #[.int .u8 (chr s a).toNat] V fun e w' => e = .returned (.bool true) ∧ w' = V) := fun V => by have q := rletter_c (chr s a) V; rw [hl] at q; exact q
  have hgl := h.lt
  have f0 := h.c0
  have f1 := h.c1
  have ff := h.fr
  have hX := hid_as (ts_token h)
  replace hz := hid_as hz
  clear hl
  generalize (chr s a).toNat = cc at *
  go_enter Tryd.func35, Tryd.ntmps35
  go_wp2_with (first
    | (go_at_call 34; (with_reducible refine (C0.out _ hX.out.sc).mono ?_); rintro e w4 ⟨rfl, k_⟩; replace hX := hid_as (hX.out.turn (Turn.same k_) (hX.out.sc.same k_)); clear k_; have d0 := hX.out.sc.c0; have d1 := hX.out.sc.c1; have df := hX.out.sc.fr)
    | (go_at_call 51; (with_reducible refine (L.out _).mono ?_); rintro e w' ⟨rfl, hw⟩; subst w'))
  have hX0 := hX
  clear hX L C0 d0 d1 df f0 f1 ff
  go_loopw [] (fun wr => ∃ j : Nat, a + j ≤ s.size ∧ Hid (TS w wr g s (w.heap.size + 1) w.heap.size (a + j) 0 0 0 ⟨#[]⟩ (a : Nat)) ∧ Hid (∀ i, i < j → inW (chr s (a + i)) = true)) (fun wr => s.size - atOf g wr)
  case atStart => exact ⟨0, by omega, hX0, hid_as (fun i hi => by omega)⟩
  case round =>
    obtain ⟨j, hj, hX, hj0⟩ := hrel
    have hat := hid_as hX.out.sc.atOf
    have C0 : Hid (∀ V, Sc V g s (a + j) → Calls Tryd.prog 34 #[.pointer (some ⟨g, 0, none⟩), .int .i64 0] V fun e w' => e = .returned (.int .u8 (chr s (a + j)).toNat) ∧ Same V w') := fun V q => c_r s g (a + j) 0 V q (by omega) (by omega)
    cases hl : isL (chr s (a + j)) with
    | true =>
      have L : Hid (∀ V, Calls Tryd.prog 51 #[.int .u8 (chr s (a + j)).toNat] V fun e w' => e = .returned (.bool true) ∧ w' = V) := fun V => by have q := rletter_c (chr s (a + j)) V; rw [hl] at q; exact q
      have hin : Hid (inW (chr s (a + j)) = true) := by rw [inW_or, hl]; exact hid_as rfl
      have hlt := inW_lt hin.out
      clear hl
      generalize (chr s (a + j)).toNat = cc at *
      go_wp2_with (first
        | (go_at_call 34; (with_reducible refine (C0.out _ hX.out.sc).mono ?_); rintro e w4 ⟨rfl, k_⟩; replace hX := hid_as (hX.out.turn (Turn.same k_) (hX.out.sc.same k_)); clear k_; have d0 := hX.out.sc.c0; have d1 := hX.out.sc.c1; have df := hX.out.sc.fr)
        | (go_at_call 51; (with_reducible refine (L.out _).mono ?_); rintro e w' ⟨rfl, hw⟩; subst w'))
      go_roundw
      case rel =>
        refine ⟨j + 1, by omega, hid_as ?_, hid_as ?_⟩
        · have q := hX.out.step
          rw [Int.natCast_add] at q
          exact q
        · intro i hi
          by_cases e : i = j
          · subst e; exact hin.out
          · exact hj0.out i (by omega)
      case measure =>
        have q := hX.out.step.sc
        rw [Int.natCast_add] at q
        rw [q.atOf, hat.out]
        omega
    | false =>
      have L : Hid (∀ V, Calls Tryd.prog 51 #[.int .u8 (chr s (a + j)).toNat] V fun e w' => e = .returned (.bool false) ∧ w' = V) := fun V => by have q := rletter_c (chr s (a + j)) V; rw [hl] at q; exact q
      cases hd : dgt (chr s (a + j)) with
      | true =>
        have DG : Hid (∀ V, Calls Tryd.prog 52 #[.int .u8 (chr s (a + j)).toNat] V fun e w' => e = .returned (.bool true) ∧ w' = V) := fun V => by have q := rdigit_c (chr s (a + j)) V; rw [hd] at q; exact q
        have hin : Hid (inW (chr s (a + j)) = true) := by rw [inW_or, hl, hd]; exact hid_as rfl
        have hlt := inW_lt hin.out
        clear hl hd
        generalize (chr s (a + j)).toNat = cc at *
        go_wp2_with (first
          | (go_at_call 34; (with_reducible refine (C0.out _ hX.out.sc).mono ?_); rintro e w4 ⟨rfl, k_⟩; replace hX := hid_as (hX.out.turn (Turn.same k_) (hX.out.sc.same k_)); clear k_; have d0 := hX.out.sc.c0; have d1 := hX.out.sc.c1; have df := hX.out.sc.fr)
          | (go_at_call 51; (with_reducible refine (L.out _).mono ?_); rintro e w' ⟨rfl, hw⟩; subst w')
          | (go_at_call 52; (with_reducible refine (DG.out _).mono ?_); rintro e w' ⟨rfl, hw⟩; subst w'))
        go_roundw
        case rel =>
          refine ⟨j + 1, by omega, hid_as ?_, hid_as ?_⟩
          · have q := hX.out.step
            rw [Int.natCast_add] at q
            exact q
          · intro i hi
            by_cases e : i = j
            · subst e; exact hin.out
            · exact hj0.out i (by omega)
        case measure =>
          have q := hX.out.step.sc
          rw [Int.natCast_add] at q
          rw [q.atOf, hat.out]
          omega
      | false =>
        have DG : Hid (∀ V, Calls Tryd.prog 52 #[.int .u8 (chr s (a + j)).toNat] V fun e w' => e = .returned (.bool false) ∧ w' = V) := fun V => by have q := rdigit_c (chr s (a + j)) V; rw [hd] at q; exact q
        obtain rfl : j = k := (cz_chr (s := s) (p := inW) (by decide) j a hj0.out (by rw [inW_or, hl, hd]; rfl)).symm.trans hz.out
        have x1 : (0 : Int) ≤ a := by omega
        have x2 : (a : Int) ≤ (a : Int) + j := by omega
        have x3 : (a : Int) + j ≤ s.size := by omega
        have x4 : ((a : Int) + j).toNat = a + j := by omega
        clear hl hd hj0 hz hat
        generalize (chr s (a + j)).toNat = cc at *
        go_wp2_with (first
          | (go_at_call 34; (with_reducible refine (C0.out _ hX.out.sc).mono ?_); rintro e w4 ⟨rfl, k_⟩; replace hX := hid_as (hX.out.turn (Turn.same k_) (hX.out.sc.same k_)); clear k_; have d0 := hX.out.sc.c0; have d1 := hX.out.sc.c1; have df := hX.out.sc.fr; have q4 := hX.out.t.c4)
          | (go_at_call 51; (with_reducible refine (L.out _).mono ?_); rintro e w' ⟨rfl, hw⟩; subst w')
          | (go_at_call 52; (with_reducible refine (DG.out _).mono ?_); rintro e w' ⟨rfl, hw⟩; subst w'))
        go_quiet (fail)
        replace hX := hid_as (hX.out.turn (Turn.same (Same.drewN w4 nq)) (hX.out.sc.same (Same.drewN w4 nq)))
        generalize w4.drewN nq = w5 at *
        clear d0 d1 df q4
        obtain ⟨_, ⟨q0, q1, q2, q3, q4, qf, ql⟩, ⟨r0, r1, r2, r3, r4, rf, rl⟩, _, _, _, _⟩ := hX.out
        have d1 := hX.out.sc.c1
        have df := hX.out.sc.fr
        go_wp2_with (first
          | (go_at_call 34; (with_reducible refine (C0.out _ hX.out.sc).mono ?_); rintro e w4 ⟨rfl, k_⟩; replace hX := hid_as (hX.out.turn (Turn.same k_) (hX.out.sc.same k_)); clear k_; clear q0 q1 q2 q3 q4 qf ql r0 r1 r2 r3 r4 rf rl d1 df; obtain ⟨_, ⟨q0, q1, q2, q3, q4, qf, ql⟩, ⟨r0, r1, r2, r3, r4, rf, rl⟩, _, _, _, _⟩ := hX.out; have d1 := hX.out.sc.c1; have df := hX.out.sc.fr))
        have hTu := hX.out.tu
        have hSc := hX.out.sc
        exact bodyPost_ret (v := .tuple #[tv ⟨3, 1, 1, []⟩ a, .int .i64 0]) (by simp [results, Tryd.results35, go_sem, tv, r0, r1, r2, r3, r4, tx]) rfl (rt_some (by repeat (first | (with_reducible exact hTu) | refine Turn.far ?_ (by omega) _ _)) (by repeat (first | (with_reducible exact hSc) | refine Sc.far ?_ (by omega) _ _)))
set_option maxHeartbeats 1600000 in
set_option maxRecDepth 100000 in
theorem tokPn_false (s : ByteArray) (g a k : Nat) (w : World) (h : Sc w g s a) (ha : a < s.size) (hs : s.size ≤ 65536) (hk : a + k ≤ s.size) (hl : isL (chr s a) = true) (hz : cz inW (s.data.toList.drop a) = k) (hh : (((chr s (a + k)).toNat : Int) == 35) = false) (hv : ((s.extract a (a + k)).toList == [84, 82, 85, 69]) = false) (hf : ((s.extract a (a + k)).toList == [70, 65, 76, 83, 69]) = true)  : Calls Tryd.prog 35 #[.pointer (some ⟨g, 0, none⟩)] w fun e w' => RT g s a a (some (tru 0, k)) w e w' := by
  have C0 : Hid (∀ V, Sc V g s a → Calls Tryd.prog 34 #[.pointer (some ⟨g, 0, none⟩), .int .i64 0] V fun e w' => e = .returned (.int .u8 (chr s a).toNat) ∧ Same V w') := fun V q => c_r s g a 0 V q (by omega) (by omega)
  have L : Hid (∀ V, Calls Tryd.prog 51 #[.int .u8 (chr s a).toNat] V fun e w' => e = .returned (.bool true) ∧ w' = V) := fun V => by have q := rletter_c (chr s a) V; rw [hl] at q; exact q
  have hgl := h.lt
  have f0 := h.c0
  have f1 := h.c1
  have ff := h.fr
  have hX := hid_as (ts_token h)
  replace hz := hid_as hz
  clear hl
  generalize (chr s a).toNat = cc at *
  go_enter Tryd.func35, Tryd.ntmps35
  go_wp2_with (first
    | (go_at_call 34; (with_reducible refine (C0.out _ hX.out.sc).mono ?_); rintro e w4 ⟨rfl, k_⟩; replace hX := hid_as (hX.out.turn (Turn.same k_) (hX.out.sc.same k_)); clear k_; have d0 := hX.out.sc.c0; have d1 := hX.out.sc.c1; have df := hX.out.sc.fr)
    | (go_at_call 51; (with_reducible refine (L.out _).mono ?_); rintro e w' ⟨rfl, hw⟩; subst w'))
  have hX0 := hX
  clear hX L C0 d0 d1 df f0 f1 ff
  go_loopw [] (fun wr => ∃ j : Nat, a + j ≤ s.size ∧ Hid (TS w wr g s (w.heap.size + 1) w.heap.size (a + j) 0 0 0 ⟨#[]⟩ (a : Nat)) ∧ Hid (∀ i, i < j → inW (chr s (a + i)) = true)) (fun wr => s.size - atOf g wr)
  case atStart => exact ⟨0, by omega, hX0, hid_as (fun i hi => by omega)⟩
  case round =>
    obtain ⟨j, hj, hX, hj0⟩ := hrel
    have hat := hid_as hX.out.sc.atOf
    have C0 : Hid (∀ V, Sc V g s (a + j) → Calls Tryd.prog 34 #[.pointer (some ⟨g, 0, none⟩), .int .i64 0] V fun e w' => e = .returned (.int .u8 (chr s (a + j)).toNat) ∧ Same V w') := fun V q => c_r s g (a + j) 0 V q (by omega) (by omega)
    cases hl : isL (chr s (a + j)) with
    | true =>
      have L : Hid (∀ V, Calls Tryd.prog 51 #[.int .u8 (chr s (a + j)).toNat] V fun e w' => e = .returned (.bool true) ∧ w' = V) := fun V => by have q := rletter_c (chr s (a + j)) V; rw [hl] at q; exact q
      have hin : Hid (inW (chr s (a + j)) = true) := by rw [inW_or, hl]; exact hid_as rfl
      have hlt := inW_lt hin.out
      clear hl
      generalize (chr s (a + j)).toNat = cc at *
      go_wp2_with (first
        | (go_at_call 34; (with_reducible refine (C0.out _ hX.out.sc).mono ?_); rintro e w4 ⟨rfl, k_⟩; replace hX := hid_as (hX.out.turn (Turn.same k_) (hX.out.sc.same k_)); clear k_; have d0 := hX.out.sc.c0; have d1 := hX.out.sc.c1; have df := hX.out.sc.fr)
        | (go_at_call 51; (with_reducible refine (L.out _).mono ?_); rintro e w' ⟨rfl, hw⟩; subst w'))
      go_roundw
      case rel =>
        refine ⟨j + 1, by omega, hid_as ?_, hid_as ?_⟩
        · have q := hX.out.step
          rw [Int.natCast_add] at q
          exact q
        · intro i hi
          by_cases e : i = j
          · subst e; exact hin.out
          · exact hj0.out i (by omega)
      case measure =>
        have q := hX.out.step.sc
        rw [Int.natCast_add] at q
        rw [q.atOf, hat.out]
        omega
    | false =>
      have L : Hid (∀ V, Calls Tryd.prog 51 #[.int .u8 (chr s (a + j)).toNat] V fun e w' => e = .returned (.bool false) ∧ w' = V) := fun V => by have q := rletter_c (chr s (a + j)) V; rw [hl] at q; exact q
      cases hd : dgt (chr s (a + j)) with
      | true =>
        have DG : Hid (∀ V, Calls Tryd.prog 52 #[.int .u8 (chr s (a + j)).toNat] V fun e w' => e = .returned (.bool true) ∧ w' = V) := fun V => by have q := rdigit_c (chr s (a + j)) V; rw [hd] at q; exact q
        have hin : Hid (inW (chr s (a + j)) = true) := by rw [inW_or, hl, hd]; exact hid_as rfl
        have hlt := inW_lt hin.out
        clear hl hd
        generalize (chr s (a + j)).toNat = cc at *
        go_wp2_with (first
          | (go_at_call 34; (with_reducible refine (C0.out _ hX.out.sc).mono ?_); rintro e w4 ⟨rfl, k_⟩; replace hX := hid_as (hX.out.turn (Turn.same k_) (hX.out.sc.same k_)); clear k_; have d0 := hX.out.sc.c0; have d1 := hX.out.sc.c1; have df := hX.out.sc.fr)
          | (go_at_call 51; (with_reducible refine (L.out _).mono ?_); rintro e w' ⟨rfl, hw⟩; subst w')
          | (go_at_call 52; (with_reducible refine (DG.out _).mono ?_); rintro e w' ⟨rfl, hw⟩; subst w'))
        go_roundw
        case rel =>
          refine ⟨j + 1, by omega, hid_as ?_, hid_as ?_⟩
          · have q := hX.out.step
            rw [Int.natCast_add] at q
            exact q
          · intro i hi
            by_cases e : i = j
            · subst e; exact hin.out
            · exact hj0.out i (by omega)
        case measure =>
          have q := hX.out.step.sc
          rw [Int.natCast_add] at q
          rw [q.atOf, hat.out]
          omega
      | false =>
        have DG : Hid (∀ V, Calls Tryd.prog 52 #[.int .u8 (chr s (a + j)).toNat] V fun e w' => e = .returned (.bool false) ∧ w' = V) := fun V => by have q := rdigit_c (chr s (a + j)) V; rw [hd] at q; exact q
        obtain rfl : j = k := (cz_chr (s := s) (p := inW) (by decide) j a hj0.out (by rw [inW_or, hl, hd]; rfl)).symm.trans hz.out
        have x1 : (0 : Int) ≤ a := by omega
        have x2 : (a : Int) ≤ (a : Int) + j := by omega
        have x3 : (a : Int) + j ≤ s.size := by omega
        have x4 : ((a : Int) + j).toNat = a + j := by omega
        clear hl hd hj0 hz hat
        generalize (chr s (a + j)).toNat = cc at *
        go_wp2_with (first
          | (go_at_call 34; (with_reducible refine (C0.out _ hX.out.sc).mono ?_); rintro e w4 ⟨rfl, k_⟩; replace hX := hid_as (hX.out.turn (Turn.same k_) (hX.out.sc.same k_)); clear k_; have d0 := hX.out.sc.c0; have d1 := hX.out.sc.c1; have df := hX.out.sc.fr; have q4 := hX.out.t.c4)
          | (go_at_call 51; (with_reducible refine (L.out _).mono ?_); rintro e w' ⟨rfl, hw⟩; subst w')
          | (go_at_call 52; (with_reducible refine (DG.out _).mono ?_); rintro e w' ⟨rfl, hw⟩; subst w'))
        go_quiet (fail)
        replace hX := hid_as (hX.out.turn (Turn.same (Same.drewN w4 nq)) (hX.out.sc.same (Same.drewN w4 nq)))
        generalize w4.drewN nq = w5 at *
        clear d0 d1 df q4
        obtain ⟨_, ⟨q0, q1, q2, q3, q4, qf, ql⟩, ⟨r0, r1, r2, r3, r4, rf, rl⟩, _, _, _, _⟩ := hX.out
        have d1 := hX.out.sc.c1
        have df := hX.out.sc.fr
        go_wp2_with (first
          | (go_at_call 34; (with_reducible refine (C0.out _ hX.out.sc).mono ?_); rintro e w4 ⟨rfl, k_⟩; replace hX := hid_as (hX.out.turn (Turn.same k_) (hX.out.sc.same k_)); clear k_; clear q0 q1 q2 q3 q4 qf ql r0 r1 r2 r3 r4 rf rl d1 df; obtain ⟨_, ⟨q0, q1, q2, q3, q4, qf, ql⟩, ⟨r0, r1, r2, r3, r4, rf, rl⟩, _, _, _, _⟩ := hX.out; have d1 := hX.out.sc.c1; have df := hX.out.sc.fr))
        have hTu := hX.out.tu
        have hSc := hX.out.sc
        exact bodyPost_ret (v := .tuple #[tv ⟨3, 1, 0, []⟩ a, .int .i64 0]) (by simp [results, Tryd.results35, go_sem, tv, r0, r1, r2, r3, r4, tx]) rfl (rt_some (by repeat (first | (with_reducible exact hTu) | refine Turn.far ?_ (by omega) _ _)) (by repeat (first | (with_reducible exact hSc) | refine Sc.far ?_ (by omega) _ _)))
set_option maxHeartbeats 1600000 in
set_option maxRecDepth 100000 in
theorem tokPn_word (s : ByteArray) (g a k : Nat) (w : World) (h : Sc w g s a) (ha : a < s.size) (hs : s.size ≤ 65536) (hk : a + k ≤ s.size) (hl : isL (chr s a) = true) (hz : cz inW (s.data.toList.drop a) = k) (hh : (((chr s (a + k)).toNat : Int) == 35) = false) (hv : ((s.extract a (a + k)).toList == [84, 82, 85, 69]) = false) (hf : ((s.extract a (a + k)).toList == [70, 65, 76, 83, 69]) = false) (hw : wrd (s.extract a (a + k)).data.toList = true)  : Calls Tryd.prog 35 #[.pointer (some ⟨g, 0, none⟩)] w fun e w' => RT g s a a (some (⟨1, 0, 0, (s.data.toList.drop a).take k⟩, k)) w e w' := by
  have C0 : Hid (∀ V, Sc V g s a → Calls Tryd.prog 34 #[.pointer (some ⟨g, 0, none⟩), .int .i64 0] V fun e w' => e = .returned (.int .u8 (chr s a).toNat) ∧ Same V w') := fun V q => c_r s g a 0 V q (by omega) (by omega)
  have L : Hid (∀ V, Calls Tryd.prog 51 #[.int .u8 (chr s a).toNat] V fun e w' => e = .returned (.bool true) ∧ w' = V) := fun V => by have q := rletter_c (chr s a) V; rw [hl] at q; exact q
  have hgl := h.lt
  have f0 := h.c0
  have f1 := h.c1
  have ff := h.fr
  have hX := hid_as (ts_token h)
  have WD : Hid (∀ V, Calls Tryd.prog 12 #[.string (s.extract a (a + k))] V fun e w' => e = .returned (.bool true) ∧ Below V.heap.size V w') := fun V => by have q := word_r (s.extract a (a + k)) V; rw [hw] at q; exact q
  clear hw
  have hxt : Hid (tx ((s.data.toList.drop a).take k) = s.extract a (a + k)) := by rw [tx_extract, show a + k - a = k by omega]; exact hid_as rfl
  replace hz := hid_as hz
  clear hl
  generalize (chr s a).toNat = cc at *
  go_enter Tryd.func35, Tryd.ntmps35
  go_wp2_with (first
    | (go_at_call 34; (with_reducible refine (C0.out _ hX.out.sc).mono ?_); rintro e w4 ⟨rfl, k_⟩; replace hX := hid_as (hX.out.turn (Turn.same k_) (hX.out.sc.same k_)); clear k_; have d0 := hX.out.sc.c0; have d1 := hX.out.sc.c1; have df := hX.out.sc.fr)
    | (go_at_call 51; (with_reducible refine (L.out _).mono ?_); rintro e w' ⟨rfl, hw⟩; subst w'))
  have hX0 := hX
  clear hX L C0 d0 d1 df f0 f1 ff
  go_loopw [] (fun wr => ∃ j : Nat, a + j ≤ s.size ∧ Hid (TS w wr g s (w.heap.size + 1) w.heap.size (a + j) 0 0 0 ⟨#[]⟩ (a : Nat)) ∧ Hid (∀ i, i < j → inW (chr s (a + i)) = true)) (fun wr => s.size - atOf g wr)
  case atStart => exact ⟨0, by omega, hX0, hid_as (fun i hi => by omega)⟩
  case round =>
    obtain ⟨j, hj, hX, hj0⟩ := hrel
    have hat := hid_as hX.out.sc.atOf
    have C0 : Hid (∀ V, Sc V g s (a + j) → Calls Tryd.prog 34 #[.pointer (some ⟨g, 0, none⟩), .int .i64 0] V fun e w' => e = .returned (.int .u8 (chr s (a + j)).toNat) ∧ Same V w') := fun V q => c_r s g (a + j) 0 V q (by omega) (by omega)
    cases hl : isL (chr s (a + j)) with
    | true =>
      have L : Hid (∀ V, Calls Tryd.prog 51 #[.int .u8 (chr s (a + j)).toNat] V fun e w' => e = .returned (.bool true) ∧ w' = V) := fun V => by have q := rletter_c (chr s (a + j)) V; rw [hl] at q; exact q
      have hin : Hid (inW (chr s (a + j)) = true) := by rw [inW_or, hl]; exact hid_as rfl
      have hlt := inW_lt hin.out
      clear hl
      generalize (chr s (a + j)).toNat = cc at *
      go_wp2_with (first
        | (go_at_call 34; (with_reducible refine (C0.out _ hX.out.sc).mono ?_); rintro e w4 ⟨rfl, k_⟩; replace hX := hid_as (hX.out.turn (Turn.same k_) (hX.out.sc.same k_)); clear k_; have d0 := hX.out.sc.c0; have d1 := hX.out.sc.c1; have df := hX.out.sc.fr)
        | (go_at_call 51; (with_reducible refine (L.out _).mono ?_); rintro e w' ⟨rfl, hw⟩; subst w'))
      go_roundw
      case rel =>
        refine ⟨j + 1, by omega, hid_as ?_, hid_as ?_⟩
        · have q := hX.out.step
          rw [Int.natCast_add] at q
          exact q
        · intro i hi
          by_cases e : i = j
          · subst e; exact hin.out
          · exact hj0.out i (by omega)
      case measure =>
        have q := hX.out.step.sc
        rw [Int.natCast_add] at q
        rw [q.atOf, hat.out]
        omega
    | false =>
      have L : Hid (∀ V, Calls Tryd.prog 51 #[.int .u8 (chr s (a + j)).toNat] V fun e w' => e = .returned (.bool false) ∧ w' = V) := fun V => by have q := rletter_c (chr s (a + j)) V; rw [hl] at q; exact q
      cases hd : dgt (chr s (a + j)) with
      | true =>
        have DG : Hid (∀ V, Calls Tryd.prog 52 #[.int .u8 (chr s (a + j)).toNat] V fun e w' => e = .returned (.bool true) ∧ w' = V) := fun V => by have q := rdigit_c (chr s (a + j)) V; rw [hd] at q; exact q
        have hin : Hid (inW (chr s (a + j)) = true) := by rw [inW_or, hl, hd]; exact hid_as rfl
        have hlt := inW_lt hin.out
        clear hl hd
        generalize (chr s (a + j)).toNat = cc at *
        go_wp2_with (first
          | (go_at_call 34; (with_reducible refine (C0.out _ hX.out.sc).mono ?_); rintro e w4 ⟨rfl, k_⟩; replace hX := hid_as (hX.out.turn (Turn.same k_) (hX.out.sc.same k_)); clear k_; have d0 := hX.out.sc.c0; have d1 := hX.out.sc.c1; have df := hX.out.sc.fr)
          | (go_at_call 51; (with_reducible refine (L.out _).mono ?_); rintro e w' ⟨rfl, hw⟩; subst w')
          | (go_at_call 52; (with_reducible refine (DG.out _).mono ?_); rintro e w' ⟨rfl, hw⟩; subst w'))
        go_roundw
        case rel =>
          refine ⟨j + 1, by omega, hid_as ?_, hid_as ?_⟩
          · have q := hX.out.step
            rw [Int.natCast_add] at q
            exact q
          · intro i hi
            by_cases e : i = j
            · subst e; exact hin.out
            · exact hj0.out i (by omega)
        case measure =>
          have q := hX.out.step.sc
          rw [Int.natCast_add] at q
          rw [q.atOf, hat.out]
          omega
      | false =>
        have DG : Hid (∀ V, Calls Tryd.prog 52 #[.int .u8 (chr s (a + j)).toNat] V fun e w' => e = .returned (.bool false) ∧ w' = V) := fun V => by have q := rdigit_c (chr s (a + j)) V; rw [hd] at q; exact q
        obtain rfl : j = k := (cz_chr (s := s) (p := inW) (by decide) j a hj0.out (by rw [inW_or, hl, hd]; rfl)).symm.trans hz.out
        have x1 : (0 : Int) ≤ a := by omega
        have x2 : (a : Int) ≤ (a : Int) + j := by omega
        have x3 : (a : Int) + j ≤ s.size := by omega
        have x4 : ((a : Int) + j).toNat = a + j := by omega
        clear hl hd hj0 hz hat
        generalize (chr s (a + j)).toNat = cc at *
        go_wp2_with (first
          | (go_at_call 34; (with_reducible refine (C0.out _ hX.out.sc).mono ?_); rintro e w4 ⟨rfl, k_⟩; replace hX := hid_as (hX.out.turn (Turn.same k_) (hX.out.sc.same k_)); clear k_; have d0 := hX.out.sc.c0; have d1 := hX.out.sc.c1; have df := hX.out.sc.fr; have q4 := hX.out.t.c4)
          | (go_at_call 51; (with_reducible refine (L.out _).mono ?_); rintro e w' ⟨rfl, hw⟩; subst w')
          | (go_at_call 52; (with_reducible refine (DG.out _).mono ?_); rintro e w' ⟨rfl, hw⟩; subst w'))
        go_quiet (fail)
        replace hX := hid_as (hX.out.turn (Turn.same (Same.drewN w4 nq)) (hX.out.sc.same (Same.drewN w4 nq)))
        generalize w4.drewN nq = w5 at *
        clear d0 d1 df q4
        obtain ⟨_, ⟨q0, q1, q2, q3, q4, qf, ql⟩, ⟨r0, r1, r2, r3, r4, rf, rl⟩, _, _, _, _⟩ := hX.out
        have d1 := hX.out.sc.c1
        have df := hX.out.sc.fr
        go_wp2_with (first
          | (go_at_call 34; (with_reducible refine (C0.out _ hX.out.sc).mono ?_); rintro e w4 ⟨rfl, k_⟩; replace hX := hid_as (hX.out.turn (Turn.same k_) (hX.out.sc.same k_)); clear k_; clear q0 q1 q2 q3 q4 qf ql r0 r1 r2 r3 r4 rf rl d1 df; obtain ⟨_, ⟨q0, q1, q2, q3, q4, qf, ql⟩, ⟨r0, r1, r2, r3, r4, rf, rl⟩, _, _, _, _⟩ := hX.out; have d1 := hX.out.sc.c1; have df := hX.out.sc.fr)
          | (go_at_call 12; (with_reducible refine (WD.out _).mono ?_); rintro e w6 ⟨rfl, b_⟩; replace hX := hid_as ((hX.out.put3 (by omega) (s.extract a (a + j))).below b_); clear b_; clear q0 q1 q2 q3 q4 qf ql r0 r1 r2 r3 r4 rf rl d1 df; obtain ⟨_, ⟨q0, q1, q2, q3, q4, qf, ql⟩, ⟨r0, r1, r2, r3, r4, rf, rl⟩, _, _, _, _⟩ := hX.out))
        have hTu := hX.out.tu
        have hSc := hX.out.sc
        exact bodyPost_ret (v := .tuple #[tv ⟨1, 0, 0, (s.data.toList.drop a).take j⟩ a, .int .i64 0]) (by simp [results, Tryd.results35, go_sem, tv, r0, r1, r2, r3, r4, hxt.out]) rfl (rt_some (by repeat (first | (with_reducible exact hTu) | refine Turn.far ?_ (by omega) _ _)) (by repeat (first | (with_reducible exact hSc) | refine Sc.far ?_ (by omega) _ _)))
set_option maxHeartbeats 1600000 in
set_option maxRecDepth 100000 in
theorem tokPn_big (s : ByteArray) (g a k : Nat) (w : World) (h : Sc w g s a) (ha : a < s.size) (hs : s.size ≤ 65536) (hk : a + k ≤ s.size) (hl : isL (chr s a) = true) (hz : cz inW (s.data.toList.drop a) = k) (hh : (((chr s (a + k)).toNat : Int) == 35) = false) (hv : ((s.extract a (a + k)).toList == [84, 82, 85, 69]) = false) (hf : ((s.extract a (a + k)).toList == [70, 65, 76, 83, 69]) = false) (hw : wrd (s.extract a (a + k)).data.toList = false) (hb : 32 < k)  : Calls Tryd.prog 35 #[.pointer (some ⟨g, 0, none⟩)] w fun e w' => RT g s a a (none) w e w' := by
  have C0 : Hid (∀ V, Sc V g s a → Calls Tryd.prog 34 #[.pointer (some ⟨g, 0, none⟩), .int .i64 0] V fun e w' => e = .returned (.int .u8 (chr s a).toNat) ∧ Same V w') := fun V q => c_r s g a 0 V q (by omega) (by omega)
  have L : Hid (∀ V, Calls Tryd.prog 51 #[.int .u8 (chr s a).toNat] V fun e w' => e = .returned (.bool true) ∧ w' = V) := fun V => by have q := rletter_c (chr s a) V; rw [hl] at q; exact q
  have hgl := h.lt
  have f0 := h.c0
  have f1 := h.c1
  have ff := h.fr
  have hX := hid_as (ts_token h)
  have WD : Hid (∀ V, Calls Tryd.prog 12 #[.string (s.extract a (a + k))] V fun e w' => e = .returned (.bool false) ∧ Below V.heap.size V w') := fun V => by have q := word_r (s.extract a (a + k)) V; rw [hw] at q; exact q
  clear hw
  have hbs : (s.extract a (a + k)).size = k := by rw [tx_extract, tx_size, List.length_take, List.length_drop, ← Lib.size_eq]; omega
  replace hbs := hid_as hbs
  have hb' : (32 : Int) < ((s.extract a (a + k)).size : Nat) := by rw [hbs.out]; omega
  replace hz := hid_as hz
  clear hl
  generalize (chr s a).toNat = cc at *
  go_enter Tryd.func35, Tryd.ntmps35
  go_wp2_with (first
    | (go_at_call 34; (with_reducible refine (C0.out _ hX.out.sc).mono ?_); rintro e w4 ⟨rfl, k_⟩; replace hX := hid_as (hX.out.turn (Turn.same k_) (hX.out.sc.same k_)); clear k_; have d0 := hX.out.sc.c0; have d1 := hX.out.sc.c1; have df := hX.out.sc.fr)
    | (go_at_call 51; (with_reducible refine (L.out _).mono ?_); rintro e w' ⟨rfl, hw⟩; subst w'))
  have hX0 := hX
  clear hX L C0 d0 d1 df f0 f1 ff
  go_loopw [] (fun wr => ∃ j : Nat, a + j ≤ s.size ∧ Hid (TS w wr g s (w.heap.size + 1) w.heap.size (a + j) 0 0 0 ⟨#[]⟩ (a : Nat)) ∧ Hid (∀ i, i < j → inW (chr s (a + i)) = true)) (fun wr => s.size - atOf g wr)
  case atStart => exact ⟨0, by omega, hX0, hid_as (fun i hi => by omega)⟩
  case round =>
    obtain ⟨j, hj, hX, hj0⟩ := hrel
    have hat := hid_as hX.out.sc.atOf
    have C0 : Hid (∀ V, Sc V g s (a + j) → Calls Tryd.prog 34 #[.pointer (some ⟨g, 0, none⟩), .int .i64 0] V fun e w' => e = .returned (.int .u8 (chr s (a + j)).toNat) ∧ Same V w') := fun V q => c_r s g (a + j) 0 V q (by omega) (by omega)
    cases hl : isL (chr s (a + j)) with
    | true =>
      have L : Hid (∀ V, Calls Tryd.prog 51 #[.int .u8 (chr s (a + j)).toNat] V fun e w' => e = .returned (.bool true) ∧ w' = V) := fun V => by have q := rletter_c (chr s (a + j)) V; rw [hl] at q; exact q
      have hin : Hid (inW (chr s (a + j)) = true) := by rw [inW_or, hl]; exact hid_as rfl
      have hlt := inW_lt hin.out
      clear hl
      generalize (chr s (a + j)).toNat = cc at *
      go_wp2_with (first
        | (go_at_call 34; (with_reducible refine (C0.out _ hX.out.sc).mono ?_); rintro e w4 ⟨rfl, k_⟩; replace hX := hid_as (hX.out.turn (Turn.same k_) (hX.out.sc.same k_)); clear k_; have d0 := hX.out.sc.c0; have d1 := hX.out.sc.c1; have df := hX.out.sc.fr)
        | (go_at_call 51; (with_reducible refine (L.out _).mono ?_); rintro e w' ⟨rfl, hw⟩; subst w'))
      go_roundw
      case rel =>
        refine ⟨j + 1, by omega, hid_as ?_, hid_as ?_⟩
        · have q := hX.out.step
          rw [Int.natCast_add] at q
          exact q
        · intro i hi
          by_cases e : i = j
          · subst e; exact hin.out
          · exact hj0.out i (by omega)
      case measure =>
        have q := hX.out.step.sc
        rw [Int.natCast_add] at q
        rw [q.atOf, hat.out]
        omega
    | false =>
      have L : Hid (∀ V, Calls Tryd.prog 51 #[.int .u8 (chr s (a + j)).toNat] V fun e w' => e = .returned (.bool false) ∧ w' = V) := fun V => by have q := rletter_c (chr s (a + j)) V; rw [hl] at q; exact q
      cases hd : dgt (chr s (a + j)) with
      | true =>
        have DG : Hid (∀ V, Calls Tryd.prog 52 #[.int .u8 (chr s (a + j)).toNat] V fun e w' => e = .returned (.bool true) ∧ w' = V) := fun V => by have q := rdigit_c (chr s (a + j)) V; rw [hd] at q; exact q
        have hin : Hid (inW (chr s (a + j)) = true) := by rw [inW_or, hl, hd]; exact hid_as rfl
        have hlt := inW_lt hin.out
        clear hl hd
        generalize (chr s (a + j)).toNat = cc at *
        go_wp2_with (first
          | (go_at_call 34; (with_reducible refine (C0.out _ hX.out.sc).mono ?_); rintro e w4 ⟨rfl, k_⟩; replace hX := hid_as (hX.out.turn (Turn.same k_) (hX.out.sc.same k_)); clear k_; have d0 := hX.out.sc.c0; have d1 := hX.out.sc.c1; have df := hX.out.sc.fr)
          | (go_at_call 51; (with_reducible refine (L.out _).mono ?_); rintro e w' ⟨rfl, hw⟩; subst w')
          | (go_at_call 52; (with_reducible refine (DG.out _).mono ?_); rintro e w' ⟨rfl, hw⟩; subst w'))
        go_roundw
        case rel =>
          refine ⟨j + 1, by omega, hid_as ?_, hid_as ?_⟩
          · have q := hX.out.step
            rw [Int.natCast_add] at q
            exact q
          · intro i hi
            by_cases e : i = j
            · subst e; exact hin.out
            · exact hj0.out i (by omega)
        case measure =>
          have q := hX.out.step.sc
          rw [Int.natCast_add] at q
          rw [q.atOf, hat.out]
          omega
      | false =>
        have DG : Hid (∀ V, Calls Tryd.prog 52 #[.int .u8 (chr s (a + j)).toNat] V fun e w' => e = .returned (.bool false) ∧ w' = V) := fun V => by have q := rdigit_c (chr s (a + j)) V; rw [hd] at q; exact q
        obtain rfl : j = k := (cz_chr (s := s) (p := inW) (by decide) j a hj0.out (by rw [inW_or, hl, hd]; rfl)).symm.trans hz.out
        have x1 : (0 : Int) ≤ a := by omega
        have x2 : (a : Int) ≤ (a : Int) + j := by omega
        have x3 : (a : Int) + j ≤ s.size := by omega
        have x4 : ((a : Int) + j).toNat = a + j := by omega
        clear hl hd hj0 hz hat
        generalize (chr s (a + j)).toNat = cc at *
        go_wp2_with (first
          | (go_at_call 34; (with_reducible refine (C0.out _ hX.out.sc).mono ?_); rintro e w4 ⟨rfl, k_⟩; replace hX := hid_as (hX.out.turn (Turn.same k_) (hX.out.sc.same k_)); clear k_; have d0 := hX.out.sc.c0; have d1 := hX.out.sc.c1; have df := hX.out.sc.fr; have q4 := hX.out.t.c4)
          | (go_at_call 51; (with_reducible refine (L.out _).mono ?_); rintro e w' ⟨rfl, hw⟩; subst w')
          | (go_at_call 52; (with_reducible refine (DG.out _).mono ?_); rintro e w' ⟨rfl, hw⟩; subst w'))
        go_quiet (fail)
        replace hX := hid_as (hX.out.turn (Turn.same (Same.drewN w4 nq)) (hX.out.sc.same (Same.drewN w4 nq)))
        generalize w4.drewN nq = w5 at *
        clear d0 d1 df q4
        obtain ⟨_, ⟨q0, q1, q2, q3, q4, qf, ql⟩, ⟨r0, r1, r2, r3, r4, rf, rl⟩, _, _, _, _⟩ := hX.out
        have d1 := hX.out.sc.c1
        have df := hX.out.sc.fr
        go_wp2_with (first
          | (go_at_call 34; (with_reducible refine (C0.out _ hX.out.sc).mono ?_); rintro e w4 ⟨rfl, k_⟩; replace hX := hid_as (hX.out.turn (Turn.same k_) (hX.out.sc.same k_)); clear k_; clear q0 q1 q2 q3 q4 qf ql r0 r1 r2 r3 r4 rf rl d1 df; obtain ⟨_, ⟨q0, q1, q2, q3, q4, qf, ql⟩, ⟨r0, r1, r2, r3, r4, rf, rl⟩, _, _, _, _⟩ := hX.out; have d1 := hX.out.sc.c1; have df := hX.out.sc.fr)
          | (go_at_call 12; (with_reducible refine (WD.out _).mono ?_); rintro e w6 ⟨rfl, b_⟩; replace hX := hid_as ((hX.out.put3 (by omega) (s.extract a (a + j))).below b_); clear b_; clear q0 q1 q2 q3 q4 qf ql r0 r1 r2 r3 r4 rf rl d1 df; obtain ⟨_, ⟨q0, q1, q2, q3, q4, qf, ql⟩, ⟨r0, r1, r2, r3, r4, rf, rl⟩, _, _, _, _⟩ := hX.out))
        have hTu := hX.out.tu
        exact bodyPost_ret (v := .tuple #[.agg #[.int .i64 0, .int .i64 0, .int .i64 0, .string (s.extract a (a + j)), .int .i64 a], .int .i64 121]) (by simp [results, Tryd.results35, go_sem, r0, r1, r2, r3, r4]) rfl (rt_none (by first | decide | assumption) (by repeat (first | (with_reducible exact hTu) | refine Turn.far ?_ (by omega) _ _)))
set_option maxHeartbeats 1600000 in
set_option maxRecDepth 100000 in
theorem tokPn_name (s : ByteArray) (g a k : Nat) (w : World) (h : Sc w g s a) (ha : a < s.size) (hs : s.size ≤ 65536) (hk : a + k ≤ s.size) (hl : isL (chr s a) = true) (hz : cz inW (s.data.toList.drop a) = k) (hh : (((chr s (a + k)).toNat : Int) == 35) = false) (hv : ((s.extract a (a + k)).toList == [84, 82, 85, 69]) = false) (hf : ((s.extract a (a + k)).toList == [70, 65, 76, 83, 69]) = false) (hw : wrd (s.extract a (a + k)).data.toList = false) (hb : ¬ 32 < k)  : Calls Tryd.prog 35 #[.pointer (some ⟨g, 0, none⟩)] w fun e w' => RT g s a a (some (⟨2, 0, 0, (s.data.toList.drop a).take k⟩, k)) w e w' := by
  have C0 : Hid (∀ V, Sc V g s a → Calls Tryd.prog 34 #[.pointer (some ⟨g, 0, none⟩), .int .i64 0] V fun e w' => e = .returned (.int .u8 (chr s a).toNat) ∧ Same V w') := fun V q => c_r s g a 0 V q (by omega) (by omega)
  have L : Hid (∀ V, Calls Tryd.prog 51 #[.int .u8 (chr s a).toNat] V fun e w' => e = .returned (.bool true) ∧ w' = V) := fun V => by have q := rletter_c (chr s a) V; rw [hl] at q; exact q
  have hgl := h.lt
  have f0 := h.c0
  have f1 := h.c1
  have ff := h.fr
  have hX := hid_as (ts_token h)
  have WD : Hid (∀ V, Calls Tryd.prog 12 #[.string (s.extract a (a + k))] V fun e w' => e = .returned (.bool false) ∧ Below V.heap.size V w') := fun V => by have q := word_r (s.extract a (a + k)) V; rw [hw] at q; exact q
  clear hw
  have hbs : (s.extract a (a + k)).size = k := by rw [tx_extract, tx_size, List.length_take, List.length_drop, ← Lib.size_eq]; omega
  replace hbs := hid_as hbs
  have hb' : ¬ (32 : Int) < ((s.extract a (a + k)).size : Nat) := by rw [hbs.out]; omega
  have hxt : Hid (tx ((s.data.toList.drop a).take k) = s.extract a (a + k)) := by rw [tx_extract, show a + k - a = k by omega]; exact hid_as rfl
  replace hz := hid_as hz
  clear hl
  generalize (chr s a).toNat = cc at *
  go_enter Tryd.func35, Tryd.ntmps35
  go_wp2_with (first
    | (go_at_call 34; (with_reducible refine (C0.out _ hX.out.sc).mono ?_); rintro e w4 ⟨rfl, k_⟩; replace hX := hid_as (hX.out.turn (Turn.same k_) (hX.out.sc.same k_)); clear k_; have d0 := hX.out.sc.c0; have d1 := hX.out.sc.c1; have df := hX.out.sc.fr)
    | (go_at_call 51; (with_reducible refine (L.out _).mono ?_); rintro e w' ⟨rfl, hw⟩; subst w'))
  have hX0 := hX
  clear hX L C0 d0 d1 df f0 f1 ff
  go_loopw [] (fun wr => ∃ j : Nat, a + j ≤ s.size ∧ Hid (TS w wr g s (w.heap.size + 1) w.heap.size (a + j) 0 0 0 ⟨#[]⟩ (a : Nat)) ∧ Hid (∀ i, i < j → inW (chr s (a + i)) = true)) (fun wr => s.size - atOf g wr)
  case atStart => exact ⟨0, by omega, hX0, hid_as (fun i hi => by omega)⟩
  case round =>
    obtain ⟨j, hj, hX, hj0⟩ := hrel
    have hat := hid_as hX.out.sc.atOf
    have C0 : Hid (∀ V, Sc V g s (a + j) → Calls Tryd.prog 34 #[.pointer (some ⟨g, 0, none⟩), .int .i64 0] V fun e w' => e = .returned (.int .u8 (chr s (a + j)).toNat) ∧ Same V w') := fun V q => c_r s g (a + j) 0 V q (by omega) (by omega)
    cases hl : isL (chr s (a + j)) with
    | true =>
      have L : Hid (∀ V, Calls Tryd.prog 51 #[.int .u8 (chr s (a + j)).toNat] V fun e w' => e = .returned (.bool true) ∧ w' = V) := fun V => by have q := rletter_c (chr s (a + j)) V; rw [hl] at q; exact q
      have hin : Hid (inW (chr s (a + j)) = true) := by rw [inW_or, hl]; exact hid_as rfl
      have hlt := inW_lt hin.out
      clear hl
      generalize (chr s (a + j)).toNat = cc at *
      go_wp2_with (first
        | (go_at_call 34; (with_reducible refine (C0.out _ hX.out.sc).mono ?_); rintro e w4 ⟨rfl, k_⟩; replace hX := hid_as (hX.out.turn (Turn.same k_) (hX.out.sc.same k_)); clear k_; have d0 := hX.out.sc.c0; have d1 := hX.out.sc.c1; have df := hX.out.sc.fr)
        | (go_at_call 51; (with_reducible refine (L.out _).mono ?_); rintro e w' ⟨rfl, hw⟩; subst w'))
      go_roundw
      case rel =>
        refine ⟨j + 1, by omega, hid_as ?_, hid_as ?_⟩
        · have q := hX.out.step
          rw [Int.natCast_add] at q
          exact q
        · intro i hi
          by_cases e : i = j
          · subst e; exact hin.out
          · exact hj0.out i (by omega)
      case measure =>
        have q := hX.out.step.sc
        rw [Int.natCast_add] at q
        rw [q.atOf, hat.out]
        omega
    | false =>
      have L : Hid (∀ V, Calls Tryd.prog 51 #[.int .u8 (chr s (a + j)).toNat] V fun e w' => e = .returned (.bool false) ∧ w' = V) := fun V => by have q := rletter_c (chr s (a + j)) V; rw [hl] at q; exact q
      cases hd : dgt (chr s (a + j)) with
      | true =>
        have DG : Hid (∀ V, Calls Tryd.prog 52 #[.int .u8 (chr s (a + j)).toNat] V fun e w' => e = .returned (.bool true) ∧ w' = V) := fun V => by have q := rdigit_c (chr s (a + j)) V; rw [hd] at q; exact q
        have hin : Hid (inW (chr s (a + j)) = true) := by rw [inW_or, hl, hd]; exact hid_as rfl
        have hlt := inW_lt hin.out
        clear hl hd
        generalize (chr s (a + j)).toNat = cc at *
        go_wp2_with (first
          | (go_at_call 34; (with_reducible refine (C0.out _ hX.out.sc).mono ?_); rintro e w4 ⟨rfl, k_⟩; replace hX := hid_as (hX.out.turn (Turn.same k_) (hX.out.sc.same k_)); clear k_; have d0 := hX.out.sc.c0; have d1 := hX.out.sc.c1; have df := hX.out.sc.fr)
          | (go_at_call 51; (with_reducible refine (L.out _).mono ?_); rintro e w' ⟨rfl, hw⟩; subst w')
          | (go_at_call 52; (with_reducible refine (DG.out _).mono ?_); rintro e w' ⟨rfl, hw⟩; subst w'))
        go_roundw
        case rel =>
          refine ⟨j + 1, by omega, hid_as ?_, hid_as ?_⟩
          · have q := hX.out.step
            rw [Int.natCast_add] at q
            exact q
          · intro i hi
            by_cases e : i = j
            · subst e; exact hin.out
            · exact hj0.out i (by omega)
        case measure =>
          have q := hX.out.step.sc
          rw [Int.natCast_add] at q
          rw [q.atOf, hat.out]
          omega
      | false =>
        have DG : Hid (∀ V, Calls Tryd.prog 52 #[.int .u8 (chr s (a + j)).toNat] V fun e w' => e = .returned (.bool false) ∧ w' = V) := fun V => by have q := rdigit_c (chr s (a + j)) V; rw [hd] at q; exact q
        obtain rfl : j = k := (cz_chr (s := s) (p := inW) (by decide) j a hj0.out (by rw [inW_or, hl, hd]; rfl)).symm.trans hz.out
        have x1 : (0 : Int) ≤ a := by omega
        have x2 : (a : Int) ≤ (a : Int) + j := by omega
        have x3 : (a : Int) + j ≤ s.size := by omega
        have x4 : ((a : Int) + j).toNat = a + j := by omega
        clear hl hd hj0 hz hat
        generalize (chr s (a + j)).toNat = cc at *
        go_wp2_with (first
          | (go_at_call 34; (with_reducible refine (C0.out _ hX.out.sc).mono ?_); rintro e w4 ⟨rfl, k_⟩; replace hX := hid_as (hX.out.turn (Turn.same k_) (hX.out.sc.same k_)); clear k_; have d0 := hX.out.sc.c0; have d1 := hX.out.sc.c1; have df := hX.out.sc.fr; have q4 := hX.out.t.c4)
          | (go_at_call 51; (with_reducible refine (L.out _).mono ?_); rintro e w' ⟨rfl, hw⟩; subst w')
          | (go_at_call 52; (with_reducible refine (DG.out _).mono ?_); rintro e w' ⟨rfl, hw⟩; subst w'))
        go_quiet (fail)
        replace hX := hid_as (hX.out.turn (Turn.same (Same.drewN w4 nq)) (hX.out.sc.same (Same.drewN w4 nq)))
        generalize w4.drewN nq = w5 at *
        clear d0 d1 df q4
        obtain ⟨_, ⟨q0, q1, q2, q3, q4, qf, ql⟩, ⟨r0, r1, r2, r3, r4, rf, rl⟩, _, _, _, _⟩ := hX.out
        have d1 := hX.out.sc.c1
        have df := hX.out.sc.fr
        go_wp2_with (first
          | (go_at_call 34; (with_reducible refine (C0.out _ hX.out.sc).mono ?_); rintro e w4 ⟨rfl, k_⟩; replace hX := hid_as (hX.out.turn (Turn.same k_) (hX.out.sc.same k_)); clear k_; clear q0 q1 q2 q3 q4 qf ql r0 r1 r2 r3 r4 rf rl d1 df; obtain ⟨_, ⟨q0, q1, q2, q3, q4, qf, ql⟩, ⟨r0, r1, r2, r3, r4, rf, rl⟩, _, _, _, _⟩ := hX.out; have d1 := hX.out.sc.c1; have df := hX.out.sc.fr)
          | (go_at_call 12; (with_reducible refine (WD.out _).mono ?_); rintro e w6 ⟨rfl, b_⟩; replace hX := hid_as ((hX.out.put3 (by omega) (s.extract a (a + j))).below b_); clear b_; clear q0 q1 q2 q3 q4 qf ql r0 r1 r2 r3 r4 rf rl d1 df; obtain ⟨_, ⟨q0, q1, q2, q3, q4, qf, ql⟩, ⟨r0, r1, r2, r3, r4, rf, rl⟩, _, _, _, _⟩ := hX.out))
        have hTu := hX.out.tu
        have hSc := hX.out.sc
        exact bodyPost_ret (v := .tuple #[tv ⟨2, 0, 0, (s.data.toList.drop a).take j⟩ a, .int .i64 0]) (by simp [results, Tryd.results35, go_sem, tv, r0, r1, r2, r3, r4, hxt.out]) rfl (rt_some (by repeat (first | (with_reducible exact hTu) | refine Turn.far ?_ (by omega) _ _)) (by repeat (first | (with_reducible exact hSc) | refine Sc.far ?_ (by omega) _ _)))
open Go.RowKit
open Adr Lx
set_option maxHeartbeats 1600000 in
set_option maxRecDepth 100000 in
theorem tokPh_true (s : ByteArray) (g a k : Nat) (w : World) (h : Sc w g s a) (ha : a < s.size) (hs : s.size ≤ 65536) (hk : a + k ≤ s.size) (hl : isL (chr s a) = true) (hz : cz inW (s.data.toList.drop a) = k) (hh : (((chr s (a + k)).toNat : Int) == 35) = true) (hT : ((s.extract a (a + k)).toList == [84]) = false) (hkf : kf (s.extract a (a + k)).data.toList = 0) (hv : ((s.extract a (a + k)).toList == [84, 82, 85, 69]) = true)  : Calls Tryd.prog 35 #[.pointer (some ⟨g, 0, none⟩)] w fun e w' => RT g s a a (some (tru 1, k)) w e w' := by
  have C0 : Hid (∀ V, Sc V g s a → Calls Tryd.prog 34 #[.pointer (some ⟨g, 0, none⟩), .int .i64 0] V fun e w' => e = .returned (.int .u8 (chr s a).toNat) ∧ Same V w') := fun V q => c_r s g a 0 V q (by omega) (by omega)
  have L : Hid (∀ V, Calls Tryd.prog 51 #[.int .u8 (chr s a).toNat] V fun e w' => e = .returned (.bool true) ∧ w' = V) := fun V => by have q := rletter_c (chr s a) V; rw [hl] at q; exact q
  have hgl := h.lt
  have f0 := h.c0
  have f1 := h.c1
  have ff := h.fr
  have hX := hid_as (ts_token h)
  have KD : Hid (∀ V, Calls Tryd.prog 24 #[.string (s.extract a (a + k))] V fun e w' => e = .returned (.int .i64 0) ∧ Below V.heap.size V w') := fun V => by have q := kind_r (s.extract a (a + k)) V; rw [hkf] at q; exact q
  clear hkf
  replace hz := hid_as hz
  clear hl
  generalize (chr s a).toNat = cc at *
  go_enter Tryd.func35, Tryd.ntmps35
  go_wp2_with (first
    | (go_at_call 34; (with_reducible refine (C0.out _ hX.out.sc).mono ?_); rintro e w4 ⟨rfl, k_⟩; replace hX := hid_as (hX.out.turn (Turn.same k_) (hX.out.sc.same k_)); clear k_; have d0 := hX.out.sc.c0; have d1 := hX.out.sc.c1; have df := hX.out.sc.fr)
    | (go_at_call 51; (with_reducible refine (L.out _).mono ?_); rintro e w' ⟨rfl, hw⟩; subst w'))
  have hX0 := hX
  clear hX L C0 d0 d1 df f0 f1 ff
  go_loopw [] (fun wr => ∃ j : Nat, a + j ≤ s.size ∧ Hid (TS w wr g s (w.heap.size + 1) w.heap.size (a + j) 0 0 0 ⟨#[]⟩ (a : Nat)) ∧ Hid (∀ i, i < j → inW (chr s (a + i)) = true)) (fun wr => s.size - atOf g wr)
  case atStart => exact ⟨0, by omega, hX0, hid_as (fun i hi => by omega)⟩
  case round =>
    obtain ⟨j, hj, hX, hj0⟩ := hrel
    have hat := hid_as hX.out.sc.atOf
    have C0 : Hid (∀ V, Sc V g s (a + j) → Calls Tryd.prog 34 #[.pointer (some ⟨g, 0, none⟩), .int .i64 0] V fun e w' => e = .returned (.int .u8 (chr s (a + j)).toNat) ∧ Same V w') := fun V q => c_r s g (a + j) 0 V q (by omega) (by omega)
    cases hl : isL (chr s (a + j)) with
    | true =>
      have L : Hid (∀ V, Calls Tryd.prog 51 #[.int .u8 (chr s (a + j)).toNat] V fun e w' => e = .returned (.bool true) ∧ w' = V) := fun V => by have q := rletter_c (chr s (a + j)) V; rw [hl] at q; exact q
      have hin : Hid (inW (chr s (a + j)) = true) := by rw [inW_or, hl]; exact hid_as rfl
      have hlt := inW_lt hin.out
      clear hl
      generalize (chr s (a + j)).toNat = cc at *
      go_wp2_with (first
        | (go_at_call 34; (with_reducible refine (C0.out _ hX.out.sc).mono ?_); rintro e w4 ⟨rfl, k_⟩; replace hX := hid_as (hX.out.turn (Turn.same k_) (hX.out.sc.same k_)); clear k_; have d0 := hX.out.sc.c0; have d1 := hX.out.sc.c1; have df := hX.out.sc.fr)
        | (go_at_call 51; (with_reducible refine (L.out _).mono ?_); rintro e w' ⟨rfl, hw⟩; subst w'))
      go_roundw
      case rel =>
        refine ⟨j + 1, by omega, hid_as ?_, hid_as ?_⟩
        · have q := hX.out.step
          rw [Int.natCast_add] at q
          exact q
        · intro i hi
          by_cases e : i = j
          · subst e; exact hin.out
          · exact hj0.out i (by omega)
      case measure =>
        have q := hX.out.step.sc
        rw [Int.natCast_add] at q
        rw [q.atOf, hat.out]
        omega
    | false =>
      have L : Hid (∀ V, Calls Tryd.prog 51 #[.int .u8 (chr s (a + j)).toNat] V fun e w' => e = .returned (.bool false) ∧ w' = V) := fun V => by have q := rletter_c (chr s (a + j)) V; rw [hl] at q; exact q
      cases hd : dgt (chr s (a + j)) with
      | true =>
        have DG : Hid (∀ V, Calls Tryd.prog 52 #[.int .u8 (chr s (a + j)).toNat] V fun e w' => e = .returned (.bool true) ∧ w' = V) := fun V => by have q := rdigit_c (chr s (a + j)) V; rw [hd] at q; exact q
        have hin : Hid (inW (chr s (a + j)) = true) := by rw [inW_or, hl, hd]; exact hid_as rfl
        have hlt := inW_lt hin.out
        clear hl hd
        generalize (chr s (a + j)).toNat = cc at *
        go_wp2_with (first
          | (go_at_call 34; (with_reducible refine (C0.out _ hX.out.sc).mono ?_); rintro e w4 ⟨rfl, k_⟩; replace hX := hid_as (hX.out.turn (Turn.same k_) (hX.out.sc.same k_)); clear k_; have d0 := hX.out.sc.c0; have d1 := hX.out.sc.c1; have df := hX.out.sc.fr)
          | (go_at_call 51; (with_reducible refine (L.out _).mono ?_); rintro e w' ⟨rfl, hw⟩; subst w')
          | (go_at_call 52; (with_reducible refine (DG.out _).mono ?_); rintro e w' ⟨rfl, hw⟩; subst w'))
        go_roundw
        case rel =>
          refine ⟨j + 1, by omega, hid_as ?_, hid_as ?_⟩
          · have q := hX.out.step
            rw [Int.natCast_add] at q
            exact q
          · intro i hi
            by_cases e : i = j
            · subst e; exact hin.out
            · exact hj0.out i (by omega)
        case measure =>
          have q := hX.out.step.sc
          rw [Int.natCast_add] at q
          rw [q.atOf, hat.out]
          omega
      | false =>
        have DG : Hid (∀ V, Calls Tryd.prog 52 #[.int .u8 (chr s (a + j)).toNat] V fun e w' => e = .returned (.bool false) ∧ w' = V) := fun V => by have q := rdigit_c (chr s (a + j)) V; rw [hd] at q; exact q
        obtain rfl : j = k := (cz_chr (s := s) (p := inW) (by decide) j a hj0.out (by rw [inW_or, hl, hd]; rfl)).symm.trans hz.out
        have x1 : (0 : Int) ≤ a := by omega
        have x2 : (a : Int) ≤ (a : Int) + j := by omega
        have x3 : (a : Int) + j ≤ s.size := by omega
        have x4 : ((a : Int) + j).toNat = a + j := by omega
        clear hl hd hj0 hz hat
        generalize (chr s (a + j)).toNat = cc at *
        go_wp2_with (first
          | (go_at_call 34; (with_reducible refine (C0.out _ hX.out.sc).mono ?_); rintro e w4 ⟨rfl, k_⟩; replace hX := hid_as (hX.out.turn (Turn.same k_) (hX.out.sc.same k_)); clear k_; have d0 := hX.out.sc.c0; have d1 := hX.out.sc.c1; have df := hX.out.sc.fr; have q4 := hX.out.t.c4)
          | (go_at_call 51; (with_reducible refine (L.out _).mono ?_); rintro e w' ⟨rfl, hw⟩; subst w')
          | (go_at_call 52; (with_reducible refine (DG.out _).mono ?_); rintro e w' ⟨rfl, hw⟩; subst w'))
        go_quiet (fail)
        replace hX := hid_as (hX.out.turn (Turn.same (Same.drewN w4 nq)) (hX.out.sc.same (Same.drewN w4 nq)))
        generalize w4.drewN nq = w5 at *
        clear d0 d1 df q4
        obtain ⟨_, ⟨q0, q1, q2, q3, q4, qf, ql⟩, ⟨r0, r1, r2, r3, r4, rf, rl⟩, _, _, _, _⟩ := hX.out
        have d1 := hX.out.sc.c1
        have df := hX.out.sc.fr
        go_wp2_with (first
          | (go_at_call 34; (with_reducible refine (C0.out _ hX.out.sc).mono ?_); rintro e w4 ⟨rfl, k_⟩; replace hX := hid_as (hX.out.turn (Turn.same k_) (hX.out.sc.same k_)); clear k_; clear q0 q1 q2 q3 q4 qf ql r0 r1 r2 r3 r4 rf rl d1 df; obtain ⟨_, ⟨q0, q1, q2, q3, q4, qf, ql⟩, ⟨r0, r1, r2, r3, r4, rf, rl⟩, _, _, _, _⟩ := hX.out; have d1 := hX.out.sc.c1; have df := hX.out.sc.fr)
          | (go_at_call 24; (with_reducible refine (KD.out _).mono ?_); rintro e w6 ⟨rfl, b_⟩; replace hX := hid_as (hX.out.below b_); clear b_; clear q0 q1 q2 q3 q4 qf ql r0 r1 r2 r3 r4 rf rl d1 df; obtain ⟨_, ⟨q0, q1, q2, q3, q4, qf, ql⟩, ⟨r0, r1, r2, r3, r4, rf, rl⟩, _, _, _, _⟩ := hX.out; have d1 := hX.out.sc.c1; have df := hX.out.sc.fr))
        have hTu := hX.out.tu
        have hSc := hX.out.sc
        exact bodyPost_ret (v := .tuple #[tv ⟨3, 1, 1, []⟩ a, .int .i64 0]) (by simp [results, Tryd.results35, go_sem, tv, r0, r1, r2, r3, r4, tx]) rfl (rt_some (by repeat (first | (with_reducible exact hTu) | refine Turn.far ?_ (by omega) _ _)) (by repeat (first | (with_reducible exact hSc) | refine Sc.far ?_ (by omega) _ _)))
set_option maxHeartbeats 1600000 in
set_option maxRecDepth 100000 in
theorem tokPh_false (s : ByteArray) (g a k : Nat) (w : World) (h : Sc w g s a) (ha : a < s.size) (hs : s.size ≤ 65536) (hk : a + k ≤ s.size) (hl : isL (chr s a) = true) (hz : cz inW (s.data.toList.drop a) = k) (hh : (((chr s (a + k)).toNat : Int) == 35) = true) (hT : ((s.extract a (a + k)).toList == [84]) = false) (hkf : kf (s.extract a (a + k)).data.toList = 0) (hv : ((s.extract a (a + k)).toList == [84, 82, 85, 69]) = false) (hf : ((s.extract a (a + k)).toList == [70, 65, 76, 83, 69]) = true)  : Calls Tryd.prog 35 #[.pointer (some ⟨g, 0, none⟩)] w fun e w' => RT g s a a (some (tru 0, k)) w e w' := by
  have C0 : Hid (∀ V, Sc V g s a → Calls Tryd.prog 34 #[.pointer (some ⟨g, 0, none⟩), .int .i64 0] V fun e w' => e = .returned (.int .u8 (chr s a).toNat) ∧ Same V w') := fun V q => c_r s g a 0 V q (by omega) (by omega)
  have L : Hid (∀ V, Calls Tryd.prog 51 #[.int .u8 (chr s a).toNat] V fun e w' => e = .returned (.bool true) ∧ w' = V) := fun V => by have q := rletter_c (chr s a) V; rw [hl] at q; exact q
  have hgl := h.lt
  have f0 := h.c0
  have f1 := h.c1
  have ff := h.fr
  have hX := hid_as (ts_token h)
  have KD : Hid (∀ V, Calls Tryd.prog 24 #[.string (s.extract a (a + k))] V fun e w' => e = .returned (.int .i64 0) ∧ Below V.heap.size V w') := fun V => by have q := kind_r (s.extract a (a + k)) V; rw [hkf] at q; exact q
  clear hkf
  replace hz := hid_as hz
  clear hl
  generalize (chr s a).toNat = cc at *
  go_enter Tryd.func35, Tryd.ntmps35
  go_wp2_with (first
    | (go_at_call 34; (with_reducible refine (C0.out _ hX.out.sc).mono ?_); rintro e w4 ⟨rfl, k_⟩; replace hX := hid_as (hX.out.turn (Turn.same k_) (hX.out.sc.same k_)); clear k_; have d0 := hX.out.sc.c0; have d1 := hX.out.sc.c1; have df := hX.out.sc.fr)
    | (go_at_call 51; (with_reducible refine (L.out _).mono ?_); rintro e w' ⟨rfl, hw⟩; subst w'))
  have hX0 := hX
  clear hX L C0 d0 d1 df f0 f1 ff
  go_loopw [] (fun wr => ∃ j : Nat, a + j ≤ s.size ∧ Hid (TS w wr g s (w.heap.size + 1) w.heap.size (a + j) 0 0 0 ⟨#[]⟩ (a : Nat)) ∧ Hid (∀ i, i < j → inW (chr s (a + i)) = true)) (fun wr => s.size - atOf g wr)
  case atStart => exact ⟨0, by omega, hX0, hid_as (fun i hi => by omega)⟩
  case round =>
    obtain ⟨j, hj, hX, hj0⟩ := hrel
    have hat := hid_as hX.out.sc.atOf
    have C0 : Hid (∀ V, Sc V g s (a + j) → Calls Tryd.prog 34 #[.pointer (some ⟨g, 0, none⟩), .int .i64 0] V fun e w' => e = .returned (.int .u8 (chr s (a + j)).toNat) ∧ Same V w') := fun V q => c_r s g (a + j) 0 V q (by omega) (by omega)
    cases hl : isL (chr s (a + j)) with
    | true =>
      have L : Hid (∀ V, Calls Tryd.prog 51 #[.int .u8 (chr s (a + j)).toNat] V fun e w' => e = .returned (.bool true) ∧ w' = V) := fun V => by have q := rletter_c (chr s (a + j)) V; rw [hl] at q; exact q
      have hin : Hid (inW (chr s (a + j)) = true) := by rw [inW_or, hl]; exact hid_as rfl
      have hlt := inW_lt hin.out
      clear hl
      generalize (chr s (a + j)).toNat = cc at *
      go_wp2_with (first
        | (go_at_call 34; (with_reducible refine (C0.out _ hX.out.sc).mono ?_); rintro e w4 ⟨rfl, k_⟩; replace hX := hid_as (hX.out.turn (Turn.same k_) (hX.out.sc.same k_)); clear k_; have d0 := hX.out.sc.c0; have d1 := hX.out.sc.c1; have df := hX.out.sc.fr)
        | (go_at_call 51; (with_reducible refine (L.out _).mono ?_); rintro e w' ⟨rfl, hw⟩; subst w'))
      go_roundw
      case rel =>
        refine ⟨j + 1, by omega, hid_as ?_, hid_as ?_⟩
        · have q := hX.out.step
          rw [Int.natCast_add] at q
          exact q
        · intro i hi
          by_cases e : i = j
          · subst e; exact hin.out
          · exact hj0.out i (by omega)
      case measure =>
        have q := hX.out.step.sc
        rw [Int.natCast_add] at q
        rw [q.atOf, hat.out]
        omega
    | false =>
      have L : Hid (∀ V, Calls Tryd.prog 51 #[.int .u8 (chr s (a + j)).toNat] V fun e w' => e = .returned (.bool false) ∧ w' = V) := fun V => by have q := rletter_c (chr s (a + j)) V; rw [hl] at q; exact q
      cases hd : dgt (chr s (a + j)) with
      | true =>
        have DG : Hid (∀ V, Calls Tryd.prog 52 #[.int .u8 (chr s (a + j)).toNat] V fun e w' => e = .returned (.bool true) ∧ w' = V) := fun V => by have q := rdigit_c (chr s (a + j)) V; rw [hd] at q; exact q
        have hin : Hid (inW (chr s (a + j)) = true) := by rw [inW_or, hl, hd]; exact hid_as rfl
        have hlt := inW_lt hin.out
        clear hl hd
        generalize (chr s (a + j)).toNat = cc at *
        go_wp2_with (first
          | (go_at_call 34; (with_reducible refine (C0.out _ hX.out.sc).mono ?_); rintro e w4 ⟨rfl, k_⟩; replace hX := hid_as (hX.out.turn (Turn.same k_) (hX.out.sc.same k_)); clear k_; have d0 := hX.out.sc.c0; have d1 := hX.out.sc.c1; have df := hX.out.sc.fr)
          | (go_at_call 51; (with_reducible refine (L.out _).mono ?_); rintro e w' ⟨rfl, hw⟩; subst w')
          | (go_at_call 52; (with_reducible refine (DG.out _).mono ?_); rintro e w' ⟨rfl, hw⟩; subst w'))
        go_roundw
        case rel =>
          refine ⟨j + 1, by omega, hid_as ?_, hid_as ?_⟩
          · have q := hX.out.step
            rw [Int.natCast_add] at q
            exact q
          · intro i hi
            by_cases e : i = j
            · subst e; exact hin.out
            · exact hj0.out i (by omega)
        case measure =>
          have q := hX.out.step.sc
          rw [Int.natCast_add] at q
          rw [q.atOf, hat.out]
          omega
      | false =>
        have DG : Hid (∀ V, Calls Tryd.prog 52 #[.int .u8 (chr s (a + j)).toNat] V fun e w' => e = .returned (.bool false) ∧ w' = V) := fun V => by have q := rdigit_c (chr s (a + j)) V; rw [hd] at q; exact q
        obtain rfl : j = k := (cz_chr (s := s) (p := inW) (by decide) j a hj0.out (by rw [inW_or, hl, hd]; rfl)).symm.trans hz.out
        have x1 : (0 : Int) ≤ a := by omega
        have x2 : (a : Int) ≤ (a : Int) + j := by omega
        have x3 : (a : Int) + j ≤ s.size := by omega
        have x4 : ((a : Int) + j).toNat = a + j := by omega
        clear hl hd hj0 hz hat
        generalize (chr s (a + j)).toNat = cc at *
        go_wp2_with (first
          | (go_at_call 34; (with_reducible refine (C0.out _ hX.out.sc).mono ?_); rintro e w4 ⟨rfl, k_⟩; replace hX := hid_as (hX.out.turn (Turn.same k_) (hX.out.sc.same k_)); clear k_; have d0 := hX.out.sc.c0; have d1 := hX.out.sc.c1; have df := hX.out.sc.fr; have q4 := hX.out.t.c4)
          | (go_at_call 51; (with_reducible refine (L.out _).mono ?_); rintro e w' ⟨rfl, hw⟩; subst w')
          | (go_at_call 52; (with_reducible refine (DG.out _).mono ?_); rintro e w' ⟨rfl, hw⟩; subst w'))
        go_quiet (fail)
        replace hX := hid_as (hX.out.turn (Turn.same (Same.drewN w4 nq)) (hX.out.sc.same (Same.drewN w4 nq)))
        generalize w4.drewN nq = w5 at *
        clear d0 d1 df q4
        obtain ⟨_, ⟨q0, q1, q2, q3, q4, qf, ql⟩, ⟨r0, r1, r2, r3, r4, rf, rl⟩, _, _, _, _⟩ := hX.out
        have d1 := hX.out.sc.c1
        have df := hX.out.sc.fr
        go_wp2_with (first
          | (go_at_call 34; (with_reducible refine (C0.out _ hX.out.sc).mono ?_); rintro e w4 ⟨rfl, k_⟩; replace hX := hid_as (hX.out.turn (Turn.same k_) (hX.out.sc.same k_)); clear k_; clear q0 q1 q2 q3 q4 qf ql r0 r1 r2 r3 r4 rf rl d1 df; obtain ⟨_, ⟨q0, q1, q2, q3, q4, qf, ql⟩, ⟨r0, r1, r2, r3, r4, rf, rl⟩, _, _, _, _⟩ := hX.out; have d1 := hX.out.sc.c1; have df := hX.out.sc.fr)
          | (go_at_call 24; (with_reducible refine (KD.out _).mono ?_); rintro e w6 ⟨rfl, b_⟩; replace hX := hid_as (hX.out.below b_); clear b_; clear q0 q1 q2 q3 q4 qf ql r0 r1 r2 r3 r4 rf rl d1 df; obtain ⟨_, ⟨q0, q1, q2, q3, q4, qf, ql⟩, ⟨r0, r1, r2, r3, r4, rf, rl⟩, _, _, _, _⟩ := hX.out; have d1 := hX.out.sc.c1; have df := hX.out.sc.fr))
        have hTu := hX.out.tu
        have hSc := hX.out.sc
        exact bodyPost_ret (v := .tuple #[tv ⟨3, 1, 0, []⟩ a, .int .i64 0]) (by simp [results, Tryd.results35, go_sem, tv, r0, r1, r2, r3, r4, tx]) rfl (rt_some (by repeat (first | (with_reducible exact hTu) | refine Turn.far ?_ (by omega) _ _)) (by repeat (first | (with_reducible exact hSc) | refine Sc.far ?_ (by omega) _ _)))
set_option maxHeartbeats 1600000 in
set_option maxRecDepth 100000 in
theorem tokPh_word (s : ByteArray) (g a k : Nat) (w : World) (h : Sc w g s a) (ha : a < s.size) (hs : s.size ≤ 65536) (hk : a + k ≤ s.size) (hl : isL (chr s a) = true) (hz : cz inW (s.data.toList.drop a) = k) (hh : (((chr s (a + k)).toNat : Int) == 35) = true) (hT : ((s.extract a (a + k)).toList == [84]) = false) (hkf : kf (s.extract a (a + k)).data.toList = 0) (hv : ((s.extract a (a + k)).toList == [84, 82, 85, 69]) = false) (hf : ((s.extract a (a + k)).toList == [70, 65, 76, 83, 69]) = false) (hw : wrd (s.extract a (a + k)).data.toList = true)  : Calls Tryd.prog 35 #[.pointer (some ⟨g, 0, none⟩)] w fun e w' => RT g s a a (some (⟨1, 0, 0, (s.data.toList.drop a).take k⟩, k)) w e w' := by
  have C0 : Hid (∀ V, Sc V g s a → Calls Tryd.prog 34 #[.pointer (some ⟨g, 0, none⟩), .int .i64 0] V fun e w' => e = .returned (.int .u8 (chr s a).toNat) ∧ Same V w') := fun V q => c_r s g a 0 V q (by omega) (by omega)
  have L : Hid (∀ V, Calls Tryd.prog 51 #[.int .u8 (chr s a).toNat] V fun e w' => e = .returned (.bool true) ∧ w' = V) := fun V => by have q := rletter_c (chr s a) V; rw [hl] at q; exact q
  have hgl := h.lt
  have f0 := h.c0
  have f1 := h.c1
  have ff := h.fr
  have hX := hid_as (ts_token h)
  have KD : Hid (∀ V, Calls Tryd.prog 24 #[.string (s.extract a (a + k))] V fun e w' => e = .returned (.int .i64 0) ∧ Below V.heap.size V w') := fun V => by have q := kind_r (s.extract a (a + k)) V; rw [hkf] at q; exact q
  clear hkf
  have WD : Hid (∀ V, Calls Tryd.prog 12 #[.string (s.extract a (a + k))] V fun e w' => e = .returned (.bool true) ∧ Below V.heap.size V w') := fun V => by have q := word_r (s.extract a (a + k)) V; rw [hw] at q; exact q
  clear hw
  have hxt : Hid (tx ((s.data.toList.drop a).take k) = s.extract a (a + k)) := by rw [tx_extract, show a + k - a = k by omega]; exact hid_as rfl
  replace hz := hid_as hz
  clear hl
  generalize (chr s a).toNat = cc at *
  go_enter Tryd.func35, Tryd.ntmps35
  go_wp2_with (first
    | (go_at_call 34; (with_reducible refine (C0.out _ hX.out.sc).mono ?_); rintro e w4 ⟨rfl, k_⟩; replace hX := hid_as (hX.out.turn (Turn.same k_) (hX.out.sc.same k_)); clear k_; have d0 := hX.out.sc.c0; have d1 := hX.out.sc.c1; have df := hX.out.sc.fr)
    | (go_at_call 51; (with_reducible refine (L.out _).mono ?_); rintro e w' ⟨rfl, hw⟩; subst w'))
  have hX0 := hX
  clear hX L C0 d0 d1 df f0 f1 ff
  go_loopw [] (fun wr => ∃ j : Nat, a + j ≤ s.size ∧ Hid (TS w wr g s (w.heap.size + 1) w.heap.size (a + j) 0 0 0 ⟨#[]⟩ (a : Nat)) ∧ Hid (∀ i, i < j → inW (chr s (a + i)) = true)) (fun wr => s.size - atOf g wr)
  case atStart => exact ⟨0, by omega, hX0, hid_as (fun i hi => by omega)⟩
  case round =>
    obtain ⟨j, hj, hX, hj0⟩ := hrel
    have hat := hid_as hX.out.sc.atOf
    have C0 : Hid (∀ V, Sc V g s (a + j) → Calls Tryd.prog 34 #[.pointer (some ⟨g, 0, none⟩), .int .i64 0] V fun e w' => e = .returned (.int .u8 (chr s (a + j)).toNat) ∧ Same V w') := fun V q => c_r s g (a + j) 0 V q (by omega) (by omega)
    cases hl : isL (chr s (a + j)) with
    | true =>
      have L : Hid (∀ V, Calls Tryd.prog 51 #[.int .u8 (chr s (a + j)).toNat] V fun e w' => e = .returned (.bool true) ∧ w' = V) := fun V => by have q := rletter_c (chr s (a + j)) V; rw [hl] at q; exact q
      have hin : Hid (inW (chr s (a + j)) = true) := by rw [inW_or, hl]; exact hid_as rfl
      have hlt := inW_lt hin.out
      clear hl
      generalize (chr s (a + j)).toNat = cc at *
      go_wp2_with (first
        | (go_at_call 34; (with_reducible refine (C0.out _ hX.out.sc).mono ?_); rintro e w4 ⟨rfl, k_⟩; replace hX := hid_as (hX.out.turn (Turn.same k_) (hX.out.sc.same k_)); clear k_; have d0 := hX.out.sc.c0; have d1 := hX.out.sc.c1; have df := hX.out.sc.fr)
        | (go_at_call 51; (with_reducible refine (L.out _).mono ?_); rintro e w' ⟨rfl, hw⟩; subst w'))
      go_roundw
      case rel =>
        refine ⟨j + 1, by omega, hid_as ?_, hid_as ?_⟩
        · have q := hX.out.step
          rw [Int.natCast_add] at q
          exact q
        · intro i hi
          by_cases e : i = j
          · subst e; exact hin.out
          · exact hj0.out i (by omega)
      case measure =>
        have q := hX.out.step.sc
        rw [Int.natCast_add] at q
        rw [q.atOf, hat.out]
        omega
    | false =>
      have L : Hid (∀ V, Calls Tryd.prog 51 #[.int .u8 (chr s (a + j)).toNat] V fun e w' => e = .returned (.bool false) ∧ w' = V) := fun V => by have q := rletter_c (chr s (a + j)) V; rw [hl] at q; exact q
      cases hd : dgt (chr s (a + j)) with
      | true =>
        have DG : Hid (∀ V, Calls Tryd.prog 52 #[.int .u8 (chr s (a + j)).toNat] V fun e w' => e = .returned (.bool true) ∧ w' = V) := fun V => by have q := rdigit_c (chr s (a + j)) V; rw [hd] at q; exact q
        have hin : Hid (inW (chr s (a + j)) = true) := by rw [inW_or, hl, hd]; exact hid_as rfl
        have hlt := inW_lt hin.out
        clear hl hd
        generalize (chr s (a + j)).toNat = cc at *
        go_wp2_with (first
          | (go_at_call 34; (with_reducible refine (C0.out _ hX.out.sc).mono ?_); rintro e w4 ⟨rfl, k_⟩; replace hX := hid_as (hX.out.turn (Turn.same k_) (hX.out.sc.same k_)); clear k_; have d0 := hX.out.sc.c0; have d1 := hX.out.sc.c1; have df := hX.out.sc.fr)
          | (go_at_call 51; (with_reducible refine (L.out _).mono ?_); rintro e w' ⟨rfl, hw⟩; subst w')
          | (go_at_call 52; (with_reducible refine (DG.out _).mono ?_); rintro e w' ⟨rfl, hw⟩; subst w'))
        go_roundw
        case rel =>
          refine ⟨j + 1, by omega, hid_as ?_, hid_as ?_⟩
          · have q := hX.out.step
            rw [Int.natCast_add] at q
            exact q
          · intro i hi
            by_cases e : i = j
            · subst e; exact hin.out
            · exact hj0.out i (by omega)
        case measure =>
          have q := hX.out.step.sc
          rw [Int.natCast_add] at q
          rw [q.atOf, hat.out]
          omega
      | false =>
        have DG : Hid (∀ V, Calls Tryd.prog 52 #[.int .u8 (chr s (a + j)).toNat] V fun e w' => e = .returned (.bool false) ∧ w' = V) := fun V => by have q := rdigit_c (chr s (a + j)) V; rw [hd] at q; exact q
        obtain rfl : j = k := (cz_chr (s := s) (p := inW) (by decide) j a hj0.out (by rw [inW_or, hl, hd]; rfl)).symm.trans hz.out
        have x1 : (0 : Int) ≤ a := by omega
        have x2 : (a : Int) ≤ (a : Int) + j := by omega
        have x3 : (a : Int) + j ≤ s.size := by omega
        have x4 : ((a : Int) + j).toNat = a + j := by omega
        clear hl hd hj0 hz hat
        generalize (chr s (a + j)).toNat = cc at *
        go_wp2_with (first
          | (go_at_call 34; (with_reducible refine (C0.out _ hX.out.sc).mono ?_); rintro e w4 ⟨rfl, k_⟩; replace hX := hid_as (hX.out.turn (Turn.same k_) (hX.out.sc.same k_)); clear k_; have d0 := hX.out.sc.c0; have d1 := hX.out.sc.c1; have df := hX.out.sc.fr; have q4 := hX.out.t.c4)
          | (go_at_call 51; (with_reducible refine (L.out _).mono ?_); rintro e w' ⟨rfl, hw⟩; subst w')
          | (go_at_call 52; (with_reducible refine (DG.out _).mono ?_); rintro e w' ⟨rfl, hw⟩; subst w'))
        go_quiet (fail)
        replace hX := hid_as (hX.out.turn (Turn.same (Same.drewN w4 nq)) (hX.out.sc.same (Same.drewN w4 nq)))
        generalize w4.drewN nq = w5 at *
        clear d0 d1 df q4
        obtain ⟨_, ⟨q0, q1, q2, q3, q4, qf, ql⟩, ⟨r0, r1, r2, r3, r4, rf, rl⟩, _, _, _, _⟩ := hX.out
        have d1 := hX.out.sc.c1
        have df := hX.out.sc.fr
        go_wp2_with (first
          | (go_at_call 34; (with_reducible refine (C0.out _ hX.out.sc).mono ?_); rintro e w4 ⟨rfl, k_⟩; replace hX := hid_as (hX.out.turn (Turn.same k_) (hX.out.sc.same k_)); clear k_; clear q0 q1 q2 q3 q4 qf ql r0 r1 r2 r3 r4 rf rl d1 df; obtain ⟨_, ⟨q0, q1, q2, q3, q4, qf, ql⟩, ⟨r0, r1, r2, r3, r4, rf, rl⟩, _, _, _, _⟩ := hX.out; have d1 := hX.out.sc.c1; have df := hX.out.sc.fr)
          | (go_at_call 24; (with_reducible refine (KD.out _).mono ?_); rintro e w6 ⟨rfl, b_⟩; replace hX := hid_as (hX.out.below b_); clear b_; clear q0 q1 q2 q3 q4 qf ql r0 r1 r2 r3 r4 rf rl d1 df; obtain ⟨_, ⟨q0, q1, q2, q3, q4, qf, ql⟩, ⟨r0, r1, r2, r3, r4, rf, rl⟩, _, _, _, _⟩ := hX.out; have d1 := hX.out.sc.c1; have df := hX.out.sc.fr)
          | (go_at_call 12; (with_reducible refine (WD.out _).mono ?_); rintro e w6 ⟨rfl, b_⟩; replace hX := hid_as ((hX.out.put3 (by omega) (s.extract a (a + j))).below b_); clear b_; clear q0 q1 q2 q3 q4 qf ql r0 r1 r2 r3 r4 rf rl d1 df; obtain ⟨_, ⟨q0, q1, q2, q3, q4, qf, ql⟩, ⟨r0, r1, r2, r3, r4, rf, rl⟩, _, _, _, _⟩ := hX.out))
        have hTu := hX.out.tu
        have hSc := hX.out.sc
        exact bodyPost_ret (v := .tuple #[tv ⟨1, 0, 0, (s.data.toList.drop a).take j⟩ a, .int .i64 0]) (by simp [results, Tryd.results35, go_sem, tv, r0, r1, r2, r3, r4, hxt.out]) rfl (rt_some (by repeat (first | (with_reducible exact hTu) | refine Turn.far ?_ (by omega) _ _)) (by repeat (first | (with_reducible exact hSc) | refine Sc.far ?_ (by omega) _ _)))
set_option maxHeartbeats 1600000 in
set_option maxRecDepth 100000 in
theorem tokPh_big (s : ByteArray) (g a k : Nat) (w : World) (h : Sc w g s a) (ha : a < s.size) (hs : s.size ≤ 65536) (hk : a + k ≤ s.size) (hl : isL (chr s a) = true) (hz : cz inW (s.data.toList.drop a) = k) (hh : (((chr s (a + k)).toNat : Int) == 35) = true) (hT : ((s.extract a (a + k)).toList == [84]) = false) (hkf : kf (s.extract a (a + k)).data.toList = 0) (hv : ((s.extract a (a + k)).toList == [84, 82, 85, 69]) = false) (hf : ((s.extract a (a + k)).toList == [70, 65, 76, 83, 69]) = false) (hw : wrd (s.extract a (a + k)).data.toList = false) (hb : 32 < k)  : Calls Tryd.prog 35 #[.pointer (some ⟨g, 0, none⟩)] w fun e w' => RT g s a a (none) w e w' := by
  have C0 : Hid (∀ V, Sc V g s a → Calls Tryd.prog 34 #[.pointer (some ⟨g, 0, none⟩), .int .i64 0] V fun e w' => e = .returned (.int .u8 (chr s a).toNat) ∧ Same V w') := fun V q => c_r s g a 0 V q (by omega) (by omega)
  have L : Hid (∀ V, Calls Tryd.prog 51 #[.int .u8 (chr s a).toNat] V fun e w' => e = .returned (.bool true) ∧ w' = V) := fun V => by have q := rletter_c (chr s a) V; rw [hl] at q; exact q
  have hgl := h.lt
  have f0 := h.c0
  have f1 := h.c1
  have ff := h.fr
  have hX := hid_as (ts_token h)
  have KD : Hid (∀ V, Calls Tryd.prog 24 #[.string (s.extract a (a + k))] V fun e w' => e = .returned (.int .i64 0) ∧ Below V.heap.size V w') := fun V => by have q := kind_r (s.extract a (a + k)) V; rw [hkf] at q; exact q
  clear hkf
  have WD : Hid (∀ V, Calls Tryd.prog 12 #[.string (s.extract a (a + k))] V fun e w' => e = .returned (.bool false) ∧ Below V.heap.size V w') := fun V => by have q := word_r (s.extract a (a + k)) V; rw [hw] at q; exact q
  clear hw
  have hbs : (s.extract a (a + k)).size = k := by rw [tx_extract, tx_size, List.length_take, List.length_drop, ← Lib.size_eq]; omega
  replace hbs := hid_as hbs
  have hb' : (32 : Int) < ((s.extract a (a + k)).size : Nat) := by rw [hbs.out]; omega
  replace hz := hid_as hz
  clear hl
  generalize (chr s a).toNat = cc at *
  go_enter Tryd.func35, Tryd.ntmps35
  go_wp2_with (first
    | (go_at_call 34; (with_reducible refine (C0.out _ hX.out.sc).mono ?_); rintro e w4 ⟨rfl, k_⟩; replace hX := hid_as (hX.out.turn (Turn.same k_) (hX.out.sc.same k_)); clear k_; have d0 := hX.out.sc.c0; have d1 := hX.out.sc.c1; have df := hX.out.sc.fr)
    | (go_at_call 51; (with_reducible refine (L.out _).mono ?_); rintro e w' ⟨rfl, hw⟩; subst w'))
  have hX0 := hX
  clear hX L C0 d0 d1 df f0 f1 ff
  go_loopw [] (fun wr => ∃ j : Nat, a + j ≤ s.size ∧ Hid (TS w wr g s (w.heap.size + 1) w.heap.size (a + j) 0 0 0 ⟨#[]⟩ (a : Nat)) ∧ Hid (∀ i, i < j → inW (chr s (a + i)) = true)) (fun wr => s.size - atOf g wr)
  case atStart => exact ⟨0, by omega, hX0, hid_as (fun i hi => by omega)⟩
  case round =>
    obtain ⟨j, hj, hX, hj0⟩ := hrel
    have hat := hid_as hX.out.sc.atOf
    have C0 : Hid (∀ V, Sc V g s (a + j) → Calls Tryd.prog 34 #[.pointer (some ⟨g, 0, none⟩), .int .i64 0] V fun e w' => e = .returned (.int .u8 (chr s (a + j)).toNat) ∧ Same V w') := fun V q => c_r s g (a + j) 0 V q (by omega) (by omega)
    cases hl : isL (chr s (a + j)) with
    | true =>
      have L : Hid (∀ V, Calls Tryd.prog 51 #[.int .u8 (chr s (a + j)).toNat] V fun e w' => e = .returned (.bool true) ∧ w' = V) := fun V => by have q := rletter_c (chr s (a + j)) V; rw [hl] at q; exact q
      have hin : Hid (inW (chr s (a + j)) = true) := by rw [inW_or, hl]; exact hid_as rfl
      have hlt := inW_lt hin.out
      clear hl
      generalize (chr s (a + j)).toNat = cc at *
      go_wp2_with (first
        | (go_at_call 34; (with_reducible refine (C0.out _ hX.out.sc).mono ?_); rintro e w4 ⟨rfl, k_⟩; replace hX := hid_as (hX.out.turn (Turn.same k_) (hX.out.sc.same k_)); clear k_; have d0 := hX.out.sc.c0; have d1 := hX.out.sc.c1; have df := hX.out.sc.fr)
        | (go_at_call 51; (with_reducible refine (L.out _).mono ?_); rintro e w' ⟨rfl, hw⟩; subst w'))
      go_roundw
      case rel =>
        refine ⟨j + 1, by omega, hid_as ?_, hid_as ?_⟩
        · have q := hX.out.step
          rw [Int.natCast_add] at q
          exact q
        · intro i hi
          by_cases e : i = j
          · subst e; exact hin.out
          · exact hj0.out i (by omega)
      case measure =>
        have q := hX.out.step.sc
        rw [Int.natCast_add] at q
        rw [q.atOf, hat.out]
        omega
    | false =>
      have L : Hid (∀ V, Calls Tryd.prog 51 #[.int .u8 (chr s (a + j)).toNat] V fun e w' => e = .returned (.bool false) ∧ w' = V) := fun V => by have q := rletter_c (chr s (a + j)) V; rw [hl] at q; exact q
      cases hd : dgt (chr s (a + j)) with
      | true =>
        have DG : Hid (∀ V, Calls Tryd.prog 52 #[.int .u8 (chr s (a + j)).toNat] V fun e w' => e = .returned (.bool true) ∧ w' = V) := fun V => by have q := rdigit_c (chr s (a + j)) V; rw [hd] at q; exact q
        have hin : Hid (inW (chr s (a + j)) = true) := by rw [inW_or, hl, hd]; exact hid_as rfl
        have hlt := inW_lt hin.out
        clear hl hd
        generalize (chr s (a + j)).toNat = cc at *
        go_wp2_with (first
          | (go_at_call 34; (with_reducible refine (C0.out _ hX.out.sc).mono ?_); rintro e w4 ⟨rfl, k_⟩; replace hX := hid_as (hX.out.turn (Turn.same k_) (hX.out.sc.same k_)); clear k_; have d0 := hX.out.sc.c0; have d1 := hX.out.sc.c1; have df := hX.out.sc.fr)
          | (go_at_call 51; (with_reducible refine (L.out _).mono ?_); rintro e w' ⟨rfl, hw⟩; subst w')
          | (go_at_call 52; (with_reducible refine (DG.out _).mono ?_); rintro e w' ⟨rfl, hw⟩; subst w'))
        go_roundw
        case rel =>
          refine ⟨j + 1, by omega, hid_as ?_, hid_as ?_⟩
          · have q := hX.out.step
            rw [Int.natCast_add] at q
            exact q
          · intro i hi
            by_cases e : i = j
            · subst e; exact hin.out
            · exact hj0.out i (by omega)
        case measure =>
          have q := hX.out.step.sc
          rw [Int.natCast_add] at q
          rw [q.atOf, hat.out]
          omega
      | false =>
        have DG : Hid (∀ V, Calls Tryd.prog 52 #[.int .u8 (chr s (a + j)).toNat] V fun e w' => e = .returned (.bool false) ∧ w' = V) := fun V => by have q := rdigit_c (chr s (a + j)) V; rw [hd] at q; exact q
        obtain rfl : j = k := (cz_chr (s := s) (p := inW) (by decide) j a hj0.out (by rw [inW_or, hl, hd]; rfl)).symm.trans hz.out
        have x1 : (0 : Int) ≤ a := by omega
        have x2 : (a : Int) ≤ (a : Int) + j := by omega
        have x3 : (a : Int) + j ≤ s.size := by omega
        have x4 : ((a : Int) + j).toNat = a + j := by omega
        clear hl hd hj0 hz hat
        generalize (chr s (a + j)).toNat = cc at *
        go_wp2_with (first
          | (go_at_call 34; (with_reducible refine (C0.out _ hX.out.sc).mono ?_); rintro e w4 ⟨rfl, k_⟩; replace hX := hid_as (hX.out.turn (Turn.same k_) (hX.out.sc.same k_)); clear k_; have d0 := hX.out.sc.c0; have d1 := hX.out.sc.c1; have df := hX.out.sc.fr; have q4 := hX.out.t.c4)
          | (go_at_call 51; (with_reducible refine (L.out _).mono ?_); rintro e w' ⟨rfl, hw⟩; subst w')
          | (go_at_call 52; (with_reducible refine (DG.out _).mono ?_); rintro e w' ⟨rfl, hw⟩; subst w'))
        go_quiet (fail)
        replace hX := hid_as (hX.out.turn (Turn.same (Same.drewN w4 nq)) (hX.out.sc.same (Same.drewN w4 nq)))
        generalize w4.drewN nq = w5 at *
        clear d0 d1 df q4
        obtain ⟨_, ⟨q0, q1, q2, q3, q4, qf, ql⟩, ⟨r0, r1, r2, r3, r4, rf, rl⟩, _, _, _, _⟩ := hX.out
        have d1 := hX.out.sc.c1
        have df := hX.out.sc.fr
        go_wp2_with (first
          | (go_at_call 34; (with_reducible refine (C0.out _ hX.out.sc).mono ?_); rintro e w4 ⟨rfl, k_⟩; replace hX := hid_as (hX.out.turn (Turn.same k_) (hX.out.sc.same k_)); clear k_; clear q0 q1 q2 q3 q4 qf ql r0 r1 r2 r3 r4 rf rl d1 df; obtain ⟨_, ⟨q0, q1, q2, q3, q4, qf, ql⟩, ⟨r0, r1, r2, r3, r4, rf, rl⟩, _, _, _, _⟩ := hX.out; have d1 := hX.out.sc.c1; have df := hX.out.sc.fr)
          | (go_at_call 24; (with_reducible refine (KD.out _).mono ?_); rintro e w6 ⟨rfl, b_⟩; replace hX := hid_as (hX.out.below b_); clear b_; clear q0 q1 q2 q3 q4 qf ql r0 r1 r2 r3 r4 rf rl d1 df; obtain ⟨_, ⟨q0, q1, q2, q3, q4, qf, ql⟩, ⟨r0, r1, r2, r3, r4, rf, rl⟩, _, _, _, _⟩ := hX.out; have d1 := hX.out.sc.c1; have df := hX.out.sc.fr)
          | (go_at_call 12; (with_reducible refine (WD.out _).mono ?_); rintro e w6 ⟨rfl, b_⟩; replace hX := hid_as ((hX.out.put3 (by omega) (s.extract a (a + j))).below b_); clear b_; clear q0 q1 q2 q3 q4 qf ql r0 r1 r2 r3 r4 rf rl d1 df; obtain ⟨_, ⟨q0, q1, q2, q3, q4, qf, ql⟩, ⟨r0, r1, r2, r3, r4, rf, rl⟩, _, _, _, _⟩ := hX.out))
        have hTu := hX.out.tu
        exact bodyPost_ret (v := .tuple #[.agg #[.int .i64 0, .int .i64 0, .int .i64 0, .string (s.extract a (a + j)), .int .i64 a], .int .i64 121]) (by simp [results, Tryd.results35, go_sem, r0, r1, r2, r3, r4]) rfl (rt_none (by first | decide | assumption) (by repeat (first | (with_reducible exact hTu) | refine Turn.far ?_ (by omega) _ _)))
set_option maxHeartbeats 1600000 in
set_option maxRecDepth 100000 in
theorem tokPh_name (s : ByteArray) (g a k : Nat) (w : World) (h : Sc w g s a) (ha : a < s.size) (hs : s.size ≤ 65536) (hk : a + k ≤ s.size) (hl : isL (chr s a) = true) (hz : cz inW (s.data.toList.drop a) = k) (hh : (((chr s (a + k)).toNat : Int) == 35) = true) (hT : ((s.extract a (a + k)).toList == [84]) = false) (hkf : kf (s.extract a (a + k)).data.toList = 0) (hv : ((s.extract a (a + k)).toList == [84, 82, 85, 69]) = false) (hf : ((s.extract a (a + k)).toList == [70, 65, 76, 83, 69]) = false) (hw : wrd (s.extract a (a + k)).data.toList = false) (hb : ¬ 32 < k)  : Calls Tryd.prog 35 #[.pointer (some ⟨g, 0, none⟩)] w fun e w' => RT g s a a (some (⟨2, 0, 0, (s.data.toList.drop a).take k⟩, k)) w e w' := by
  have C0 : Hid (∀ V, Sc V g s a → Calls Tryd.prog 34 #[.pointer (some ⟨g, 0, none⟩), .int .i64 0] V fun e w' => e = .returned (.int .u8 (chr s a).toNat) ∧ Same V w') := fun V q => c_r s g a 0 V q (by omega) (by omega)
  have L : Hid (∀ V, Calls Tryd.prog 51 #[.int .u8 (chr s a).toNat] V fun e w' => e = .returned (.bool true) ∧ w' = V) := fun V => by have q := rletter_c (chr s a) V; rw [hl] at q; exact q
  have hgl := h.lt
  have f0 := h.c0
  have f1 := h.c1
  have ff := h.fr
  have hX := hid_as (ts_token h)
  have KD : Hid (∀ V, Calls Tryd.prog 24 #[.string (s.extract a (a + k))] V fun e w' => e = .returned (.int .i64 0) ∧ Below V.heap.size V w') := fun V => by have q := kind_r (s.extract a (a + k)) V; rw [hkf] at q; exact q
  clear hkf
  have WD : Hid (∀ V, Calls Tryd.prog 12 #[.string (s.extract a (a + k))] V fun e w' => e = .returned (.bool false) ∧ Below V.heap.size V w') := fun V => by have q := word_r (s.extract a (a + k)) V; rw [hw] at q; exact q
  clear hw
  have hbs : (s.extract a (a + k)).size = k := by rw [tx_extract, tx_size, List.length_take, List.length_drop, ← Lib.size_eq]; omega
  replace hbs := hid_as hbs
  have hb' : ¬ (32 : Int) < ((s.extract a (a + k)).size : Nat) := by rw [hbs.out]; omega
  have hxt : Hid (tx ((s.data.toList.drop a).take k) = s.extract a (a + k)) := by rw [tx_extract, show a + k - a = k by omega]; exact hid_as rfl
  replace hz := hid_as hz
  clear hl
  generalize (chr s a).toNat = cc at *
  go_enter Tryd.func35, Tryd.ntmps35
  go_wp2_with (first
    | (go_at_call 34; (with_reducible refine (C0.out _ hX.out.sc).mono ?_); rintro e w4 ⟨rfl, k_⟩; replace hX := hid_as (hX.out.turn (Turn.same k_) (hX.out.sc.same k_)); clear k_; have d0 := hX.out.sc.c0; have d1 := hX.out.sc.c1; have df := hX.out.sc.fr)
    | (go_at_call 51; (with_reducible refine (L.out _).mono ?_); rintro e w' ⟨rfl, hw⟩; subst w'))
  have hX0 := hX
  clear hX L C0 d0 d1 df f0 f1 ff
  go_loopw [] (fun wr => ∃ j : Nat, a + j ≤ s.size ∧ Hid (TS w wr g s (w.heap.size + 1) w.heap.size (a + j) 0 0 0 ⟨#[]⟩ (a : Nat)) ∧ Hid (∀ i, i < j → inW (chr s (a + i)) = true)) (fun wr => s.size - atOf g wr)
  case atStart => exact ⟨0, by omega, hX0, hid_as (fun i hi => by omega)⟩
  case round =>
    obtain ⟨j, hj, hX, hj0⟩ := hrel
    have hat := hid_as hX.out.sc.atOf
    have C0 : Hid (∀ V, Sc V g s (a + j) → Calls Tryd.prog 34 #[.pointer (some ⟨g, 0, none⟩), .int .i64 0] V fun e w' => e = .returned (.int .u8 (chr s (a + j)).toNat) ∧ Same V w') := fun V q => c_r s g (a + j) 0 V q (by omega) (by omega)
    cases hl : isL (chr s (a + j)) with
    | true =>
      have L : Hid (∀ V, Calls Tryd.prog 51 #[.int .u8 (chr s (a + j)).toNat] V fun e w' => e = .returned (.bool true) ∧ w' = V) := fun V => by have q := rletter_c (chr s (a + j)) V; rw [hl] at q; exact q
      have hin : Hid (inW (chr s (a + j)) = true) := by rw [inW_or, hl]; exact hid_as rfl
      have hlt := inW_lt hin.out
      clear hl
      generalize (chr s (a + j)).toNat = cc at *
      go_wp2_with (first
        | (go_at_call 34; (with_reducible refine (C0.out _ hX.out.sc).mono ?_); rintro e w4 ⟨rfl, k_⟩; replace hX := hid_as (hX.out.turn (Turn.same k_) (hX.out.sc.same k_)); clear k_; have d0 := hX.out.sc.c0; have d1 := hX.out.sc.c1; have df := hX.out.sc.fr)
        | (go_at_call 51; (with_reducible refine (L.out _).mono ?_); rintro e w' ⟨rfl, hw⟩; subst w'))
      go_roundw
      case rel =>
        refine ⟨j + 1, by omega, hid_as ?_, hid_as ?_⟩
        · have q := hX.out.step
          rw [Int.natCast_add] at q
          exact q
        · intro i hi
          by_cases e : i = j
          · subst e; exact hin.out
          · exact hj0.out i (by omega)
      case measure =>
        have q := hX.out.step.sc
        rw [Int.natCast_add] at q
        rw [q.atOf, hat.out]
        omega
    | false =>
      have L : Hid (∀ V, Calls Tryd.prog 51 #[.int .u8 (chr s (a + j)).toNat] V fun e w' => e = .returned (.bool false) ∧ w' = V) := fun V => by have q := rletter_c (chr s (a + j)) V; rw [hl] at q; exact q
      cases hd : dgt (chr s (a + j)) with
      | true =>
        have DG : Hid (∀ V, Calls Tryd.prog 52 #[.int .u8 (chr s (a + j)).toNat] V fun e w' => e = .returned (.bool true) ∧ w' = V) := fun V => by have q := rdigit_c (chr s (a + j)) V; rw [hd] at q; exact q
        have hin : Hid (inW (chr s (a + j)) = true) := by rw [inW_or, hl, hd]; exact hid_as rfl
        have hlt := inW_lt hin.out
        clear hl hd
        generalize (chr s (a + j)).toNat = cc at *
        go_wp2_with (first
          | (go_at_call 34; (with_reducible refine (C0.out _ hX.out.sc).mono ?_); rintro e w4 ⟨rfl, k_⟩; replace hX := hid_as (hX.out.turn (Turn.same k_) (hX.out.sc.same k_)); clear k_; have d0 := hX.out.sc.c0; have d1 := hX.out.sc.c1; have df := hX.out.sc.fr)
          | (go_at_call 51; (with_reducible refine (L.out _).mono ?_); rintro e w' ⟨rfl, hw⟩; subst w')
          | (go_at_call 52; (with_reducible refine (DG.out _).mono ?_); rintro e w' ⟨rfl, hw⟩; subst w'))
        go_roundw
        case rel =>
          refine ⟨j + 1, by omega, hid_as ?_, hid_as ?_⟩
          · have q := hX.out.step
            rw [Int.natCast_add] at q
            exact q
          · intro i hi
            by_cases e : i = j
            · subst e; exact hin.out
            · exact hj0.out i (by omega)
        case measure =>
          have q := hX.out.step.sc
          rw [Int.natCast_add] at q
          rw [q.atOf, hat.out]
          omega
      | false =>
        have DG : Hid (∀ V, Calls Tryd.prog 52 #[.int .u8 (chr s (a + j)).toNat] V fun e w' => e = .returned (.bool false) ∧ w' = V) := fun V => by have q := rdigit_c (chr s (a + j)) V; rw [hd] at q; exact q
        obtain rfl : j = k := (cz_chr (s := s) (p := inW) (by decide) j a hj0.out (by rw [inW_or, hl, hd]; rfl)).symm.trans hz.out
        have x1 : (0 : Int) ≤ a := by omega
        have x2 : (a : Int) ≤ (a : Int) + j := by omega
        have x3 : (a : Int) + j ≤ s.size := by omega
        have x4 : ((a : Int) + j).toNat = a + j := by omega
        clear hl hd hj0 hz hat
        generalize (chr s (a + j)).toNat = cc at *
        go_wp2_with (first
          | (go_at_call 34; (with_reducible refine (C0.out _ hX.out.sc).mono ?_); rintro e w4 ⟨rfl, k_⟩; replace hX := hid_as (hX.out.turn (Turn.same k_) (hX.out.sc.same k_)); clear k_; have d0 := hX.out.sc.c0; have d1 := hX.out.sc.c1; have df := hX.out.sc.fr; have q4 := hX.out.t.c4)
          | (go_at_call 51; (with_reducible refine (L.out _).mono ?_); rintro e w' ⟨rfl, hw⟩; subst w')
          | (go_at_call 52; (with_reducible refine (DG.out _).mono ?_); rintro e w' ⟨rfl, hw⟩; subst w'))
        go_quiet (fail)
        replace hX := hid_as (hX.out.turn (Turn.same (Same.drewN w4 nq)) (hX.out.sc.same (Same.drewN w4 nq)))
        generalize w4.drewN nq = w5 at *
        clear d0 d1 df q4
        obtain ⟨_, ⟨q0, q1, q2, q3, q4, qf, ql⟩, ⟨r0, r1, r2, r3, r4, rf, rl⟩, _, _, _, _⟩ := hX.out
        have d1 := hX.out.sc.c1
        have df := hX.out.sc.fr
        go_wp2_with (first
          | (go_at_call 34; (with_reducible refine (C0.out _ hX.out.sc).mono ?_); rintro e w4 ⟨rfl, k_⟩; replace hX := hid_as (hX.out.turn (Turn.same k_) (hX.out.sc.same k_)); clear k_; clear q0 q1 q2 q3 q4 qf ql r0 r1 r2 r3 r4 rf rl d1 df; obtain ⟨_, ⟨q0, q1, q2, q3, q4, qf, ql⟩, ⟨r0, r1, r2, r3, r4, rf, rl⟩, _, _, _, _⟩ := hX.out; have d1 := hX.out.sc.c1; have df := hX.out.sc.fr)
          | (go_at_call 24; (with_reducible refine (KD.out _).mono ?_); rintro e w6 ⟨rfl, b_⟩; replace hX := hid_as (hX.out.below b_); clear b_; clear q0 q1 q2 q3 q4 qf ql r0 r1 r2 r3 r4 rf rl d1 df; obtain ⟨_, ⟨q0, q1, q2, q3, q4, qf, ql⟩, ⟨r0, r1, r2, r3, r4, rf, rl⟩, _, _, _, _⟩ := hX.out; have d1 := hX.out.sc.c1; have df := hX.out.sc.fr)
          | (go_at_call 12; (with_reducible refine (WD.out _).mono ?_); rintro e w6 ⟨rfl, b_⟩; replace hX := hid_as ((hX.out.put3 (by omega) (s.extract a (a + j))).below b_); clear b_; clear q0 q1 q2 q3 q4 qf ql r0 r1 r2 r3 r4 rf rl d1 df; obtain ⟨_, ⟨q0, q1, q2, q3, q4, qf, ql⟩, ⟨r0, r1, r2, r3, r4, rf, rl⟩, _, _, _, _⟩ := hX.out))
        have hTu := hX.out.tu
        have hSc := hX.out.sc
        exact bodyPost_ret (v := .tuple #[tv ⟨2, 0, 0, (s.data.toList.drop a).take j⟩ a, .int .i64 0]) (by simp [results, Tryd.results35, go_sem, tv, r0, r1, r2, r3, r4, hxt.out]) rfl (rt_some (by repeat (first | (with_reducible exact hTu) | refine Turn.far ?_ (by omega) _ _)) (by repeat (first | (with_reducible exact hSc) | refine Sc.far ?_ (by omega) _ _)))
end Go.Proofs.YtnponognncdkcaaDoor
