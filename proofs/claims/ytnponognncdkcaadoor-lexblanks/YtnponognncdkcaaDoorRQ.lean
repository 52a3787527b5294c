/- The reference's token, walked: addresses (stage 12). -/
import Derived.Test.YtnponognncdkcaaDoorJ3
import Derived.Test.YtnponognncdkcaaDoorRN
import Derived.Test.YtnponognncdkcaaDoorRP
namespace Go.Proofs.YtnponognncdkcaaDoor
open Go.RowKit
open Adr Lx
theorem inA_is (c : UInt8) : inA c = ((isL c && !decide (c.toNat = 95)) || dgt c || decide (c.toNat = 46)) := by
  unfold inA inW
  by_cases h : c.toNat = 95
  · have hd : dgt c = false := by unfold dgt; rw [h]; decide
    rw [decide_eq_true h, hd]
    cases isL c <;> rfl
  · rw [decide_eq_false h]
    cases isL c <;> cases dgt c <;> rfl
theorem inA_lt {s : ByteArray} {k : Nat} (h : inA (chr s k) = true) : k < s.size := by
  refine chr_lt fun e => ?_
  rw [show chr s k = 0 from UInt8.toNat_inj.1 e] at h
  exact absurd h (by decide)
theorem TS.putA {w W : World} {g bt br a : Nat} {s u : ByteArray} {x y n v : Int} (h : TS w W g s bt br a x y n u v) (hb : ¬ bt = br) (p : Int) (q : ByteArray) : TS w ((W.setCell ⟨bt, 0, none⟩ (.int .i64 p)).setCell ⟨bt, 3, none⟩ (.string q)).drew g s bt br a p y n q v := by
  have h1 := h.gt
  have h2 := h.ht
  have k : TS w ((W.setCell ⟨bt, 0, none⟩ (.int .i64 p)).setCell ⟨bt, 3, none⟩ (.string q)) g s bt br a p y n q v := ⟨(h.sc.far (by omega) _ _).far (by omega) _ _, (h.t.put0 p).put3 q, (h.r.far hb _ _).far hb _ _, (h.tu.far h.ht _ _).far h.ht _ _, h.gt, h.ht, h.hr⟩
  exact k.turn (Turn.same (Same.drew _)) (k.sc.same (Same.drew _))
set_option maxHeartbeats 1600000 in
set_option maxRecDepth 100000 in
theorem tokA_ok (s : ByteArray) (g a k : Nat) (w : World) (h : Sc w g s a) (ha : a < s.size) (hs : s.size ≤ 2000) (hk : a + 1 + k ≤ s.size) (hc : chr s a = 37) (hz : cz inA (s.data.toList.drop (a + 1)) = k) (hp : pe (s.extract a (a + 1 + k)).data.toList = 0) : Calls Tryd.prog 35 #[.pointer (some ⟨g, 0, none⟩)] w fun e w' => RT g s a a (some (⟨5, 0, 0, (s.data.toList.drop a).take (1 + k)⟩, 1 + k)) w e w' := by
  have hl : isL (chr s a) = false := by rw [hc]; decide
  have hd : dgt (chr s a) = false := by rw [hc]; decide
  have g37 : (((chr s a).toNat : Int) == 37) = true := by rw [hc]; decide
  have C0 : Hid (∀ V, Sc V g s a → Calls Tryd.prog 34 #[.pointer (some ⟨g, 0, none⟩), .int .i64 0] V fun e w' => e = .returned (.int .u8 (chr s a).toNat) ∧ Same V w') := fun V q => c_r s g a 0 V q (by omega) (by omega)
  have L : Hid (∀ V, Calls Tryd.prog 51 #[.int .u8 (chr s a).toNat] V fun e w' => e = .returned (.bool false) ∧ w' = V) := fun V => by have q := rletter_c (chr s a) V; rw [hl] at q; exact q
  have DG : Hid (∀ V, Calls Tryd.prog 52 #[.int .u8 (chr s a).toNat] V fun e w' => e = .returned (.bool false) ∧ w' = V) := fun V => by have q := rdigit_c (chr s a) V; rw [hd] at q; exact q
  have hgl := h.lt
  have f0 := h.c0
  have f1 := h.c1
  have ff := h.fr
  have hX := hid_as (ts_token h)
  have PC := hid_as (rparse_c (s.extract a (a + 1 + k)) (by rw [tx_extract, tx_size, List.length_take, List.length_drop, ← Lib.size_eq]; omega))
  rw [hp] at PC
  have hxt : Hid (tx ((s.data.toList.drop a).take (1 + k)) = s.extract a (a + 1 + k)) := by rw [tx_extract, show a + 1 + k - a = 1 + k by omega]; exact hid_as rfl
  replace hz := hid_as hz
  clear hl hd hc hp
  generalize (chr s a).toNat = cc at *
  go_enter Tryd.func35, Tryd.ntmps35
  go_wp2_with (first
    | (go_at_call 34; (with_reducible refine (C0.out _ hX.out.sc).mono ?_); rintro e w4 ⟨rfl, k_⟩; replace hX := hid_as (hX.out.turn (Turn.same k_) (hX.out.sc.same k_)); clear k_; have d0 := hX.out.sc.c0; have d1 := hX.out.sc.c1; have df := hX.out.sc.fr)
    | (go_at_call 51; (with_reducible refine (L.out _).mono ?_); rintro e w' ⟨rfl, hw⟩; subst w')
    | (go_at_call 52; (with_reducible refine (DG.out _).mono ?_); rintro e w' ⟨rfl, hw⟩; subst w'))
  have hX0 := hid_as hX.out.step
  clear hX L DG C0 d0 d1 df f0 f1 ff g37
  go_loopw [] (fun wr => ∃ j : Nat, a + 1 + j ≤ s.size ∧ Hid (TS w wr g s (w.heap.size + 1) w.heap.size (a + 1 + j) 0 0 0 ⟨#[]⟩ (a : Nat)) ∧ Hid (∀ i, i < j → inA (chr s (a + 1 + i)) = true)) (fun wr => s.size - atOf g wr)
  case atStart => exact ⟨0, by omega, hX0, hid_as (fun i hi => by omega)⟩
  case round =>
    obtain ⟨j, hj, hX, hj0⟩ := hrel
    have hat := hid_as hX.out.sc.atOf
    have C0 : Hid (∀ V, Sc V g s (a + 1 + j) → Calls Tryd.prog 34 #[.pointer (some ⟨g, 0, none⟩), .int .i64 0] V fun e w' => e = .returned (.int .u8 (chr s (a + 1 + j)).toNat) ∧ Same V w') := fun V q => c_r s g (a + 1 + j) 0 V q (by omega) (by omega)
    cases hl : isL (chr s (a + 1 + j)) with
    | true =>
      have L : Hid (∀ V, Calls Tryd.prog 51 #[.int .u8 (chr s (a + 1 + j)).toNat] V fun e w' => e = .returned (.bool true) ∧ w' = V) := fun V => by have q := rletter_c (chr s (a + 1 + j)) V; rw [hl] at q; exact q
      by_cases h5 : (chr s (a + 1 + j)).toNat = 95
      · have g5 : (((chr s (a + 1 + j)).toNat : Int) == 95) = true := by rw [beq_iff_eq]; omega
        have g5n : (((chr s (a + 1 + j)).toNat : Int) != 95) = false := by rw [bne, g5]; rfl
        have hd : dgt (chr s (a + 1 + j)) = false := by unfold dgt; rw [h5]; decide
        have g46 : (((chr s (a + 1 + j)).toNat : Int) == 46) = false := by rw [beq_eq_false_iff_ne]; omega
        have DG : Hid (∀ V, Calls Tryd.prog 52 #[.int .u8 (chr s (a + 1 + j)).toNat] V fun e w' => e = .returned (.bool false) ∧ w' = V) := fun V => by have q := rdigit_c (chr s (a + 1 + j)) V; rw [hd] at q; exact q
        obtain rfl : j = k := (cz_chr (s := s) (p := inA) (by decide) j (a + 1) hj0.out (by rw [inA_is, hl, hd, decide_eq_true h5]; rw [h5]; rfl)).symm.trans hz.out
        have x1 : (0 : Int) ≤ a := by omega
        have x2 : (a : Int) ≤ (a : Int) + 1 + j := by omega
        have x3 : (a : Int) + 1 + j ≤ s.size := by omega
        have x4 : ((a : Int) + 1 + j).toNat = a + 1 + j := by omega
        clear hl hd h5 hj0 hz hat
        generalize (chr s (a + 1 + j)).toNat = cc at *
        go_wp2_with (first
          | (go_at_call 34; (with_reducible refine (C0.out _ hX.out.sc).mono ?_); rintro e w4 ⟨rfl, k_⟩; replace hX := hid_as (hX.out.turn (Turn.same k_) (hX.out.sc.same k_)); clear k_; have d0 := hX.out.sc.c0; have d1 := hX.out.sc.c1; have df := hX.out.sc.fr; have q4 := hX.out.t.c4; have q3 := hX.out.t.c3; have q0 := hX.out.t.c0; have qf := hX.out.t.fr)
          | (go_at_call 51; (with_reducible refine (L.out _).mono ?_); rintro e w' ⟨rfl, hw⟩; subst w')
          | (go_at_call 52; (with_reducible refine (DG.out _).mono ?_); rintro e w' ⟨rfl, hw⟩; subst w'))
        go_region
        replace hX := hid_as (hX.out.putA (by omega) 5 (s.extract a (a + 1 + j)))
        generalize (((w4.setCell ⟨w.heap.size + 1, 0, none⟩ (.int .i64 5)).setCell ⟨w.heap.size + 1, 3, none⟩ (.string (s.extract a (a + 1 + j)))).drew) = w5 at *
        clear d0 d1 df q4 q3 q0 qf
        obtain ⟨_, ⟨q0, q1, q2, q3, q4, qf, ql⟩, ⟨r0, r1, r2, r3, r4, rf, rl⟩, _, _, _, _⟩ := hX.out
        go_wp2_with (go_at_call 55; (with_reducible refine (PC.out _).mono ?_); rintro e w6 ⟨rfl, b_⟩; clear q0 q1 q2 q3 q4 qf ql r0 r1 r2 r3 r4 rf rl; replace hX := hid_as (hX.out.below b_); clear b_; obtain ⟨_, ⟨q0, q1, q2, q3, q4, qf, ql⟩, ⟨r0, r1, r2, r3, r4, rf, rl⟩, _, _, _, _⟩ := hX.out)
        have hTu := hX.out.tu
        have hSc := hX.out.sc
        rw [Nat.add_assoc] at hSc
        exact bodyPost_ret (v := .tuple #[tv ⟨5, 0, 0, (s.data.toList.drop a).take (1 + j)⟩ a, .int .i64 0]) (by simp [results, Tryd.results35, go_sem, tv, r0, r1, r2, r3, r4, hxt.out]) rfl (rt_some (by repeat (first | (with_reducible exact hTu) | refine Turn.far ?_ (by omega) _ _)) (by repeat (first | (with_reducible exact hSc) | refine Sc.far ?_ (by omega) _ _)))
      · have g5 : (((chr s (a + 1 + j)).toNat : Int) == 95) = false := by rw [beq_eq_false_iff_ne]; omega
        have g5n : (((chr s (a + 1 + j)).toNat : Int) != 95) = true := by rw [bne, g5]; rfl
        have hin : Hid (inA (chr s (a + 1 + j)) = true) := by rw [inA_is, hl, decide_eq_false h5]; exact hid_as rfl
        have hlt := inA_lt hin.out
        clear hl h5
        generalize (chr s (a + 1 + j)).toNat = cc at *
        go_wp2_with (first
          | (go_at_call 34; (with_reducible refine (C0.out _ hX.out.sc).mono ?_); rintro e w4 ⟨rfl, k_⟩; replace hX := hid_as (hX.out.turn (Turn.same k_) (hX.out.sc.same k_)); clear k_; have d0 := hX.out.sc.c0; have d1 := hX.out.sc.c1; have df := hX.out.sc.fr)
          | (go_at_call 51; (with_reducible refine (L.out _).mono ?_); rintro e w' ⟨rfl, hw⟩; subst w'))
        go_roundw
        case rel =>
          refine ⟨j + 1, by omega, hid_as ?_, hid_as ?_⟩
          · have q := hX.out.step
            rw [show ((a + 1 + j : Nat) : Int) = (a : Int) + 1 + j by omega] at q
            exact q
          · intro i hi
            by_cases e : i = j
            · subst e; exact hin.out
            · exact hj0.out i (by omega)
        case measure =>
          have q := hX.out.step.sc
          rw [show ((a + 1 + j : Nat) : Int) = (a : Int) + 1 + j by omega] at q
          rw [q.atOf, hat.out]
          omega
    | false =>
      have L : Hid (∀ V, Calls Tryd.prog 51 #[.int .u8 (chr s (a + 1 + j)).toNat] V fun e w' => e = .returned (.bool false) ∧ w' = V) := fun V => by have q := rletter_c (chr s (a + 1 + j)) V; rw [hl] at q; exact q
      cases hd : dgt (chr s (a + 1 + j)) with
      | true =>
        have DG : Hid (∀ V, Calls Tryd.prog 52 #[.int .u8 (chr s (a + 1 + j)).toNat] V fun e w' => e = .returned (.bool true) ∧ w' = V) := fun V => by have q := rdigit_c (chr s (a + 1 + j)) V; rw [hd] at q; exact q
        have hin : Hid (inA (chr s (a + 1 + j)) = true) := by rw [inA_is, hd, Bool.or_true, Bool.true_or]; exact hid_as rfl
        have hlt := inA_lt hin.out
        clear hl hd
        generalize (chr s (a + 1 + j)).toNat = cc at *
        go_wp2_with (first
          | (go_at_call 34; (with_reducible refine (C0.out _ hX.out.sc).mono ?_); rintro e w4 ⟨rfl, k_⟩; replace hX := hid_as (hX.out.turn (Turn.same k_) (hX.out.sc.same k_)); clear k_; have d0 := hX.out.sc.c0; have d1 := hX.out.sc.c1; have df := hX.out.sc.fr)
          | (go_at_call 51; (with_reducible refine (L.out _).mono ?_); rintro e w' ⟨rfl, hw⟩; subst w')
          | (go_at_call 52; (with_reducible refine (DG.out _).mono ?_); rintro e w' ⟨rfl, hw⟩; subst w'))
        go_roundw
        case rel =>
          refine ⟨j + 1, by omega, hid_as ?_, hid_as ?_⟩
          · have q := hX.out.step
            rw [show ((a + 1 + j : Nat) : Int) = (a : Int) + 1 + j by omega] at q
            exact q
          · intro i hi
            by_cases e : i = j
            · subst e; exact hin.out
            · exact hj0.out i (by omega)
        case measure =>
          have q := hX.out.step.sc
          rw [show ((a + 1 + j : Nat) : Int) = (a : Int) + 1 + j by omega] at q
          rw [q.atOf, hat.out]
          omega
      | false =>
        have DG : Hid (∀ V, Calls Tryd.prog 52 #[.int .u8 (chr s (a + 1 + j)).toNat] V fun e w' => e = .returned (.bool false) ∧ w' = V) := fun V => by have q := rdigit_c (chr s (a + 1 + j)) V; rw [hd] at q; exact q
        by_cases h6 : (chr s (a + 1 + j)).toNat = 46
        · have g46 : (((chr s (a + 1 + j)).toNat : Int) == 46) = true := by rw [beq_iff_eq]; omega
          have hin : Hid (inA (chr s (a + 1 + j)) = true) := by rw [inA_is, decide_eq_true h6, Bool.or_true]; exact hid_as rfl
          have hlt := inA_lt hin.out
          clear hl hd h6
          generalize (chr s (a + 1 + j)).toNat = cc at *
          go_wp2_with (first
            | (go_at_call 34; (with_reducible refine (C0.out _ hX.out.sc).mono ?_); rintro e w4 ⟨rfl, k_⟩; replace hX := hid_as (hX.out.turn (Turn.same k_) (hX.out.sc.same k_)); clear k_; have d0 := hX.out.sc.c0; have d1 := hX.out.sc.c1; have df := hX.out.sc.fr)
            | (go_at_call 51; (with_reducible refine (L.out _).mono ?_); rintro e w' ⟨rfl, hw⟩; subst w')
            | (go_at_call 52; (with_reducible refine (DG.out _).mono ?_); rintro e w' ⟨rfl, hw⟩; subst w'))
          go_roundw
          case rel =>
            refine ⟨j + 1, by omega, hid_as ?_, hid_as ?_⟩
            · have q := hX.out.step
              rw [show ((a + 1 + j : Nat) : Int) = (a : Int) + 1 + j by omega] at q
              exact q
            · intro i hi
              by_cases e : i = j
              · subst e; exact hin.out
              · exact hj0.out i (by omega)
          case measure =>
            have q := hX.out.step.sc
            rw [show ((a + 1 + j : Nat) : Int) = (a : Int) + 1 + j by omega] at q
            rw [q.atOf, hat.out]
            omega
        · have g46 : (((chr s (a + 1 + j)).toNat : Int) == 46) = false := by rw [beq_eq_false_iff_ne]; omega
          obtain rfl : j = k := (cz_chr (s := s) (p := inA) (by decide) j (a + 1) hj0.out (by rw [inA_is, hl, hd, decide_eq_false h6]; rfl)).symm.trans hz.out
          have x1 : (0 : Int) ≤ a := by omega
          have x2 : (a : Int) ≤ (a : Int) + 1 + j := by omega
          have x3 : (a : Int) + 1 + j ≤ s.size := by omega
          have x4 : ((a : Int) + 1 + j).toNat = a + 1 + j := by omega
          clear hl hd h6 hj0 hz hat
          generalize (chr s (a + 1 + j)).toNat = cc at *
          go_wp2_with (first
            | (go_at_call 34; (with_reducible refine (C0.out _ hX.out.sc).mono ?_); rintro e w4 ⟨rfl, k_⟩; replace hX := hid_as (hX.out.turn (Turn.same k_) (hX.out.sc.same k_)); clear k_; have d0 := hX.out.sc.c0; have d1 := hX.out.sc.c1; have df := hX.out.sc.fr; have q4 := hX.out.t.c4; have q3 := hX.out.t.c3; have q0 := hX.out.t.c0; have qf := hX.out.t.fr)
            | (go_at_call 51; (with_reducible refine (L.out _).mono ?_); rintro e w' ⟨rfl, hw⟩; subst w')
            | (go_at_call 52; (with_reducible refine (DG.out _).mono ?_); rintro e w' ⟨rfl, hw⟩; subst w'))
          go_region
          replace hX := hid_as (hX.out.putA (by omega) 5 (s.extract a (a + 1 + j)))
          generalize (((w4.setCell ⟨w.heap.size + 1, 0, none⟩ (.int .i64 5)).setCell ⟨w.heap.size + 1, 3, none⟩ (.string (s.extract a (a + 1 + j)))).drew) = w5 at *
          clear d0 d1 df q4 q3 q0 qf
          obtain ⟨_, ⟨q0, q1, q2, q3, q4, qf, ql⟩, ⟨r0, r1, r2, r3, r4, rf, rl⟩, _, _, _, _⟩ := hX.out
          go_wp2_with (go_at_call 55; (with_reducible refine (PC.out _).mono ?_); rintro e w6 ⟨rfl, b_⟩; clear q0 q1 q2 q3 q4 qf ql r0 r1 r2 r3 r4 rf rl; replace hX := hid_as (hX.out.below b_); clear b_; obtain ⟨_, ⟨q0, q1, q2, q3, q4, qf, ql⟩, ⟨r0, r1, r2, r3, r4, rf, rl⟩, _, _, _, _⟩ := hX.out)
          have hTu := hX.out.tu
          have hSc := hX.out.sc
          rw [Nat.add_assoc] at hSc
          exact bodyPost_ret (v := .tuple #[tv ⟨5, 0, 0, (s.data.toList.drop a).take (1 + j)⟩ a, .int .i64 0]) (by simp [results, Tryd.results35, go_sem, tv, r0, r1, r2, r3, r4, hxt.out]) rfl (rt_some (by repeat (first | (with_reducible exact hTu) | refine Turn.far ?_ (by omega) _ _)) (by repeat (first | (with_reducible exact hSc) | refine Sc.far ?_ (by omega) _ _)))

set_option maxHeartbeats 1600000 in
set_option maxRecDepth 100000 in
theorem tokA_no (s : ByteArray) (g a k : Nat) (w : World) (h : Sc w g s a) (ha : a < s.size) (hs : s.size ≤ 2000) (hk : a + 1 + k ≤ s.size) (hc : chr s a = 37) (hz : cz inA (s.data.toList.drop (a + 1)) = k) (E : Nat) (hp : pe (s.extract a (a + 1 + k)).data.toList = E) (hE : ¬ E = 0) : Calls Tryd.prog 35 #[.pointer (some ⟨g, 0, none⟩)] w fun e w' => RT g s a a (none) w e w' := by
  have hl : isL (chr s a) = false := by rw [hc]; decide
  have hd : dgt (chr s a) = false := by rw [hc]; decide
  have g37 : (((chr s a).toNat : Int) == 37) = true := by rw [hc]; decide
  have C0 : Hid (∀ V, Sc V g s a → Calls Tryd.prog 34 #[.pointer (some ⟨g, 0, none⟩), .int .i64 0] V fun e w' => e = .returned (.int .u8 (chr s a).toNat) ∧ Same V w') := fun V q => c_r s g a 0 V q (by omega) (by omega)
  have L : Hid (∀ V, Calls Tryd.prog 51 #[.int .u8 (chr s a).toNat] V fun e w' => e = .returned (.bool false) ∧ w' = V) := fun V => by have q := rletter_c (chr s a) V; rw [hl] at q; exact q
  have DG : Hid (∀ V, Calls Tryd.prog 52 #[.int .u8 (chr s a).toNat] V fun e w' => e = .returned (.bool false) ∧ w' = V) := fun V => by have q := rdigit_c (chr s a) V; rw [hd] at q; exact q
  have hgl := h.lt
  have f0 := h.c0
  have f1 := h.c1
  have ff := h.fr
  have hX := hid_as (ts_token h)
  have PC := hid_as (rparse_c (s.extract a (a + 1 + k)) (by rw [tx_extract, tx_size, List.length_take, List.length_drop, ← Lib.size_eq]; omega))
  rw [hp] at PC
  have hE' : ¬ (E : Int) = 0 := by omega
  have hxt : Hid (tx ((s.data.toList.drop a).take (1 + k)) = s.extract a (a + 1 + k)) := by rw [tx_extract, show a + 1 + k - a = 1 + k by omega]; exact hid_as rfl
  replace hz := hid_as hz
  clear hl hd hc hp
  generalize (chr s a).toNat = cc at *
  go_enter Tryd.func35, Tryd.ntmps35
  go_wp2_with (first
    | (go_at_call 34; (with_reducible refine (C0.out _ hX.out.sc).mono ?_); rintro e w4 ⟨rfl, k_⟩; replace hX := hid_as (hX.out.turn (Turn.same k_) (hX.out.sc.same k_)); clear k_; have d0 := hX.out.sc.c0; have d1 := hX.out.sc.c1; have df := hX.out.sc.fr)
    | (go_at_call 51; (with_reducible refine (L.out _).mono ?_); rintro e w' ⟨rfl, hw⟩; subst w')
    | (go_at_call 52; (with_reducible refine (DG.out _).mono ?_); rintro e w' ⟨rfl, hw⟩; subst w'))
  have hX0 := hid_as hX.out.step
  clear hX L DG C0 d0 d1 df f0 f1 ff g37
  go_loopw [] (fun wr => ∃ j : Nat, a + 1 + j ≤ s.size ∧ Hid (TS w wr g s (w.heap.size + 1) w.heap.size (a + 1 + j) 0 0 0 ⟨#[]⟩ (a : Nat)) ∧ Hid (∀ i, i < j → inA (chr s (a + 1 + i)) = true)) (fun wr => s.size - atOf g wr)
  case atStart => exact ⟨0, by omega, hX0, hid_as (fun i hi => by omega)⟩
  case round =>
    obtain ⟨j, hj, hX, hj0⟩ := hrel
    have hat := hid_as hX.out.sc.atOf
    have C0 : Hid (∀ V, Sc V g s (a + 1 + j) → Calls Tryd.prog 34 #[.pointer (some ⟨g, 0, none⟩), .int .i64 0] V fun e w' => e = .returned (.int .u8 (chr s (a + 1 + j)).toNat) ∧ Same V w') := fun V q => c_r s g (a + 1 + j) 0 V q (by omega) (by omega)
    cases hl : isL (chr s (a + 1 + j)) with
    | true =>
      have L : Hid (∀ V, Calls Tryd.prog 51 #[.int .u8 (chr s (a + 1 + j)).toNat] V fun e w' => e = .returned (.bool true) ∧ w' = V) := fun V => by have q := rletter_c (chr s (a + 1 + j)) V; rw [hl] at q; exact q
      by_cases h5 : (chr s (a + 1 + j)).toNat = 95
      · have g5 : (((chr s (a + 1 + j)).toNat : Int) == 95) = true := by rw [beq_iff_eq]; omega
        have g5n : (((chr s (a + 1 + j)).toNat : Int) != 95) = false := by rw [bne, g5]; rfl
        have hd : dgt (chr s (a + 1 + j)) = false := by unfold dgt; rw [h5]; decide
        have g46 : (((chr s (a + 1 + j)).toNat : Int) == 46) = false := by rw [beq_eq_false_iff_ne]; omega
        have DG : Hid (∀ V, Calls Tryd.prog 52 #[.int .u8 (chr s (a + 1 + j)).toNat] V fun e w' => e = .returned (.bool false) ∧ w' = V) := fun V => by have q := rdigit_c (chr s (a + 1 + j)) V; rw [hd] at q; exact q
        obtain rfl : j = k := (cz_chr (s := s) (p := inA) (by decide) j (a + 1) hj0.out (by rw [inA_is, hl, hd, decide_eq_true h5]; rw [h5]; rfl)).symm.trans hz.out
        have x1 : (0 : Int) ≤ a := by omega
        have x2 : (a : Int) ≤ (a : Int) + 1 + j := by omega
        have x3 : (a : Int) + 1 + j ≤ s.size := by omega
        have x4 : ((a : Int) + 1 + j).toNat = a + 1 + j := by omega
        clear hl hd h5 hj0 hz hat
        generalize (chr s (a + 1 + j)).toNat = cc at *
        go_wp2_with (first
          | (go_at_call 34; (with_reducible refine (C0.out _ hX.out.sc).mono ?_); rintro e w4 ⟨rfl, k_⟩; replace hX := hid_as (hX.out.turn (Turn.same k_) (hX.out.sc.same k_)); clear k_; have d0 := hX.out.sc.c0; have d1 := hX.out.sc.c1; have df := hX.out.sc.fr; have q4 := hX.out.t.c4; have q3 := hX.out.t.c3; have q0 := hX.out.t.c0; have qf := hX.out.t.fr)
          | (go_at_call 51; (with_reducible refine (L.out _).mono ?_); rintro e w' ⟨rfl, hw⟩; subst w')
          | (go_at_call 52; (with_reducible refine (DG.out _).mono ?_); rintro e w' ⟨rfl, hw⟩; subst w'))
        go_region
        replace hX := hid_as (hX.out.putA (by omega) 5 (s.extract a (a + 1 + j)))
        generalize (((w4.setCell ⟨w.heap.size + 1, 0, none⟩ (.int .i64 5)).setCell ⟨w.heap.size + 1, 3, none⟩ (.string (s.extract a (a + 1 + j)))).drew) = w5 at *
        clear d0 d1 df q4 q3 q0 qf
        obtain ⟨_, ⟨q0, q1, q2, q3, q4, qf, ql⟩, ⟨r0, r1, r2, r3, r4, rf, rl⟩, _, _, _, _⟩ := hX.out
        go_wp2_with (go_at_call 55; (with_reducible refine (PC.out _).mono ?_); rintro e w6 ⟨rfl, b_⟩; clear q0 q1 q2 q3 q4 qf ql r0 r1 r2 r3 r4 rf rl; replace hX := hid_as (hX.out.below b_); clear b_; obtain ⟨_, ⟨q0, q1, q2, q3, q4, qf, ql⟩, ⟨r0, r1, r2, r3, r4, rf, rl⟩, _, _, _, _⟩ := hX.out)
        have hTu := hX.out.tu
        exact bodyPost_ret (v := .tuple #[.agg #[.int .i64 5, .int .i64 0, .int .i64 0, .string (s.extract a (a + 1 + j)), .int .i64 a], .int .i64 100]) (by simp [results, Tryd.results35, go_sem, r0, r1, r2, r3, r4]) rfl (rt_none (by first | decide | assumption) (by repeat (first | (with_reducible exact hTu) | refine Turn.far ?_ (by omega) _ _)))
      · have g5 : (((chr s (a + 1 + j)).toNat : Int) == 95) = false := by rw [beq_eq_false_iff_ne]; omega
        have g5n : (((chr s (a + 1 + j)).toNat : Int) != 95) = true := by rw [bne, g5]; rfl
        have hin : Hid (inA (chr s (a + 1 + j)) = true) := by rw [inA_is, hl, decide_eq_false h5]; exact hid_as rfl
        have hlt := inA_lt hin.out
        clear hl h5
        generalize (chr s (a + 1 + j)).toNat = cc at *
        go_wp2_with (first
          | (go_at_call 34; (with_reducible refine (C0.out _ hX.out.sc).mono ?_); rintro e w4 ⟨rfl, k_⟩; replace hX := hid_as (hX.out.turn (Turn.same k_) (hX.out.sc.same k_)); clear k_; have d0 := hX.out.sc.c0; have d1 := hX.out.sc.c1; have df := hX.out.sc.fr)
          | (go_at_call 51; (with_reducible refine (L.out _).mono ?_); rintro e w' ⟨rfl, hw⟩; subst w'))
        go_roundw
        case rel =>
          refine ⟨j + 1, by omega, hid_as ?_, hid_as ?_⟩
          · have q := hX.out.step
            rw [show ((a + 1 + j : Nat) : Int) = (a : Int) + 1 + j by omega] at q
            exact q
          · intro i hi
            by_cases e : i = j
            · subst e; exact hin.out
            · exact hj0.out i (by omega)
        case measure =>
          have q := hX.out.step.sc
          rw [show ((a + 1 + j : Nat) : Int) = (a : Int) + 1 + j by omega] at q
          rw [q.atOf, hat.out]
          omega
    | false =>
      have L : Hid (∀ V, Calls Tryd.prog 51 #[.int .u8 (chr s (a + 1 + j)).toNat] V fun e w' => e = .returned (.bool false) ∧ w' = V) := fun V => by have q := rletter_c (chr s (a + 1 + j)) V; rw [hl] at q; exact q
      cases hd : dgt (chr s (a + 1 + j)) with
      | true =>
        have DG : Hid (∀ V, Calls Tryd.prog 52 #[.int .u8 (chr s (a + 1 + j)).toNat] V fun e w' => e = .returned (.bool true) ∧ w' = V) := fun V => by have q := rdigit_c (chr s (a + 1 + j)) V; rw [hd] at q; exact q
        have hin : Hid (inA (chr s (a + 1 + j)) = true) := by rw [inA_is, hd, Bool.or_true, Bool.true_or]; exact hid_as rfl
        have hlt := inA_lt hin.out
        clear hl hd
        generalize (chr s (a + 1 + j)).toNat = cc at *
        go_wp2_with (first
          | (go_at_call 34; (with_reducible refine (C0.out _ hX.out.sc).mono ?_); rintro e w4 ⟨rfl, k_⟩; replace hX := hid_as (hX.out.turn (Turn.same k_) (hX.out.sc.same k_)); clear k_; have d0 := hX.out.sc.c0; have d1 := hX.out.sc.c1; have df := hX.out.sc.fr)
          | (go_at_call 51; (with_reducible refine (L.out _).mono ?_); rintro e w' ⟨rfl, hw⟩; subst w')
          | (go_at_call 52; (with_reducible refine (DG.out _).mono ?_); rintro e w' ⟨rfl, hw⟩; subst w'))
        go_roundw
        case rel =>
          refine ⟨j + 1, by omega, hid_as ?_, hid_as ?_⟩
          · have q := hX.out.step
            rw [show ((a + 1 + j : Nat) : Int) = (a : Int) + 1 + j by omega] at q
            exact q
          · intro i hi
            by_cases e : i = j
            · subst e; exact hin.out
            · exact hj0.out i (by omega)
        case measure =>
          have q := hX.out.step.sc
          rw [show ((a + 1 + j : Nat) : Int) = (a : Int) + 1 + j by omega] at q
          rw [q.atOf, hat.out]
          omega
      | false =>
        have DG : Hid (∀ V, Calls Tryd.prog 52 #[.int .u8 (chr s (a + 1 + j)).toNat] V fun e w' => e = .returned (.bool false) ∧ w' = V) := fun V => by have q := rdigit_c (chr s (a + 1 + j)) V; rw [hd] at q; exact q
        by_cases h6 : (chr s (a + 1 + j)).toNat = 46
        · have g46 : (((chr s (a + 1 + j)).toNat : Int) == 46) = true := by rw [beq_iff_eq]; omega
          have hin : Hid (inA (chr s (a + 1 + j)) = true) := by rw [inA_is, decide_eq_true h6, Bool.or_true]; exact hid_as rfl
          have hlt := inA_lt hin.out
          clear hl hd h6
          generalize (chr s (a + 1 + j)).toNat = cc at *
          go_wp2_with (first
            | (go_at_call 34; (with_reducible refine (C0.out _ hX.out.sc).mono ?_); rintro e w4 ⟨rfl, k_⟩; replace hX := hid_as (hX.out.turn (Turn.same k_) (hX.out.sc.same k_)); clear k_; have d0 := hX.out.sc.c0; have d1 := hX.out.sc.c1; have df := hX.out.sc.fr)
            | (go_at_call 51; (with_reducible refine (L.out _).mono ?_); rintro e w' ⟨rfl, hw⟩; subst w')
            | (go_at_call 52; (with_reducible refine (DG.out _).mono ?_); rintro e w' ⟨rfl, hw⟩; subst w'))
          go_roundw
          case rel =>
            refine ⟨j + 1, by omega, hid_as ?_, hid_as ?_⟩
            · have q := hX.out.step
              rw [show ((a + 1 + j : Nat) : Int) = (a : Int) + 1 + j by omega] at q
              exact q
            · intro i hi
              by_cases e : i = j
              · subst e; exact hin.out
              · exact hj0.out i (by omega)
          case measure =>
            have q := hX.out.step.sc
            rw [show ((a + 1 + j : Nat) : Int) = (a : Int) + 1 + j by omega] at q
            rw [q.atOf, hat.out]
            omega
        · have g46 : (((chr s (a + 1 + j)).toNat : Int) == 46) = false := by rw [beq_eq_false_iff_ne]; omega
          obtain rfl : j = k := (cz_chr (s := s) (p := inA) (by decide) j (a + 1) hj0.out (by rw [inA_is, hl, hd, decide_eq_false h6]; rfl)).symm.trans hz.out
          have x1 : (0 : Int) ≤ a := by omega
          have x2 : (a : Int) ≤ (a : Int) + 1 + j := by omega
          have x3 : (a : Int) + 1 + j ≤ s.size := by omega
          have x4 : ((a : Int) + 1 + j).toNat = a + 1 + j := by omega
          clear hl hd h6 hj0 hz hat
          generalize (chr s (a + 1 + j)).toNat = cc at *
          go_wp2_with (first
            | (go_at_call 34; (with_reducible refine (C0.out _ hX.out.sc).mono ?_); rintro e w4 ⟨rfl, k_⟩; replace hX := hid_as (hX.out.turn (Turn.same k_) (hX.out.sc.same k_)); clear k_; have d0 := hX.out.sc.c0; have d1 := hX.out.sc.c1; have df := hX.out.sc.fr; have q4 := hX.out.t.c4; have q3 := hX.out.t.c3; have q0 := hX.out.t.c0; have qf := hX.out.t.fr)
            | (go_at_call 51; (with_reducible refine (L.out _).mono ?_); rintro e w' ⟨rfl, hw⟩; subst w')
            | (go_at_call 52; (with_reducible refine (DG.out _).mono ?_); rintro e w' ⟨rfl, hw⟩; subst w'))
          go_region
          replace hX := hid_as (hX.out.putA (by omega) 5 (s.extract a (a + 1 + j)))
          generalize (((w4.setCell ⟨w.heap.size + 1, 0, none⟩ (.int .i64 5)).setCell ⟨w.heap.size + 1, 3, none⟩ (.string (s.extract a (a + 1 + j)))).drew) = w5 at *
          clear d0 d1 df q4 q3 q0 qf
          obtain ⟨_, ⟨q0, q1, q2, q3, q4, qf, ql⟩, ⟨r0, r1, r2, r3, r4, rf, rl⟩, _, _, _, _⟩ := hX.out
          go_wp2_with (go_at_call 55; (with_reducible refine (PC.out _).mono ?_); rintro e w6 ⟨rfl, b_⟩; clear q0 q1 q2 q3 q4 qf ql r0 r1 r2 r3 r4 rf rl; replace hX := hid_as (hX.out.below b_); clear b_; obtain ⟨_, ⟨q0, q1, q2, q3, q4, qf, ql⟩, ⟨r0, r1, r2, r3, r4, rf, rl⟩, _, _, _, _⟩ := hX.out)
          have hTu := hX.out.tu
          exact bodyPost_ret (v := .tuple #[.agg #[.int .i64 5, .int .i64 0, .int .i64 0, .string (s.extract a (a + 1 + j)), .int .i64 a], .int .i64 100]) (by simp [results, Tryd.results35, go_sem, r0, r1, r2, r3, r4]) rfl (rt_none (by first | decide | assumption) (by repeat (first | (with_reducible exact hTu) | refine Turn.far ?_ (by omega) _ _)))

end Go.Proofs.YtnponognncdkcaaDoor
