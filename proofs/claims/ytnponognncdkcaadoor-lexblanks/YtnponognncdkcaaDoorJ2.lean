/- The reference's typed literals, walked: times (stage 12). · The reference's typed literals, walked: numbers (stage 12). · The reference's typed literals, walked: numbers (stage 12). · The reference's typed literals, walked: numbers (stage 12). · The reference's typed literals, walked: numbers (stage 12). · The reference's typed literals, walked: numbers (stage 12). -/
import Derived.Test.YtnponognncdkcaaDoorRJ
namespace Go.Proofs.YtnponognncdkcaaDoor
open Go.RowKit
open Adr Lx
set_option maxHeartbeats 400000 in
theorem timeT_no (s : ByteArray) (g a A : Nat) (W : ByteArray) (w : World) (h : Sc w g s a) (hT : (W.toList == [84]) = true) (N : Int) (Z : Nat)  (TM : Hid (∀ V, Sc V g s a → Calls Tryd.prog 70 #[.pointer (some ⟨g, 0, none⟩)] V fun e w' => e = .returned (.tuple #[.int .i64 N, .bool false]) ∧ Sc w' g s (a + Z) ∧ Turn g V w')) : Calls Tryd.prog 53 #[.pointer (some ⟨g, 0, none⟩), .agg #[.int .i64 0, .int .i64 0, .int .i64 0, .string ⟨#[]⟩, .int .i64 A], .string W] w fun e w' => RT g s A a (none) w e w' := by
  have K := hid_as (kind_r W)
  have hgl := h.lt
  have hX1 := hid_as (ts_typed A h)
  go_enter Tryd.func53, Tryd.ntmps53
  go_wp2_with (first
    | (go_at_call 24; (with_reducible refine (K.out _).mono ?_); rintro e w3 ⟨rfl, b3⟩; have hX3 := hid_as (hX1.out.below b3); clear b3)
    | (go_at_call 70; (with_reducible refine (TM.out _ hX3.out.sc).mono ?_); rintro e w4 ⟨rfl, s4, t4⟩; have hX4 := hid_as (hX3.out.turn t4 s4); clear s4 t4; obtain ⟨_, ⟨q0, q1, q2, q3, q4, qf, ql⟩, ⟨r0, r1, r2, r3, r4, rf, rl⟩, _, _, _, _⟩ := hX4.out))
  have hTu := hX4.out.tu
  exact bodyPost_ret (v := .tuple #[.agg #[.int .i64 0, .int .i64 0, .int .i64 0, .string ⟨#[]⟩, .int .i64 A], .int .i64 120]) (by simp [results, Tryd.results53, go_sem, r0, r1, r2, r3, r4]) rfl (rt_none (by decide) (by repeat (first | (with_reducible exact hTu) | refine Turn.far ?_ (by omega) _ _)))
set_option maxHeartbeats 400000 in
theorem timeT_lo (s : ByteArray) (g a A : Nat) (W : ByteArray) (w : World) (h : Sc w g s a) (hT : (W.toList == [84]) = true) (N : Int) (Z : Nat) (hlo : N < -2147483648) (TM : Hid (∀ V, Sc V g s a → Calls Tryd.prog 70 #[.pointer (some ⟨g, 0, none⟩)] V fun e w' => e = .returned (.tuple #[.int .i64 N, .bool true]) ∧ Sc w' g s (a + Z) ∧ Turn g V w')) : Calls Tryd.prog 53 #[.pointer (some ⟨g, 0, none⟩), .agg #[.int .i64 0, .int .i64 0, .int .i64 0, .string ⟨#[]⟩, .int .i64 A], .string W] w fun e w' => RT g s A a (none) w e w' := by
  have K := hid_as (kind_r W)
  have hgl := h.lt
  have hX1 := hid_as (ts_typed A h)
  go_enter Tryd.func53, Tryd.ntmps53
  go_wp2_with (first
    | (go_at_call 24; (with_reducible refine (K.out _).mono ?_); rintro e w3 ⟨rfl, b3⟩; have hX3 := hid_as (hX1.out.below b3); clear b3)
    | (go_at_call 70; (with_reducible refine (TM.out _ hX3.out.sc).mono ?_); rintro e w4 ⟨rfl, s4, t4⟩; have hX4 := hid_as (hX3.out.turn t4 s4); clear s4 t4; obtain ⟨_, ⟨q0, q1, q2, q3, q4, qf, ql⟩, ⟨r0, r1, r2, r3, r4, rf, rl⟩, _, _, _, _⟩ := hX4.out))
  have hTu := hX4.out.tu
  exact bodyPost_ret (v := .tuple #[.agg #[.int .i64 0, .int .i64 0, .int .i64 0, .string ⟨#[]⟩, .int .i64 A], .int .i64 163]) (by simp [results, Tryd.results53, go_sem, r0, r1, r2, r3, r4]) rfl (rt_none (by decide) (by repeat (first | (with_reducible exact hTu) | refine Turn.far ?_ (by omega) _ _)))
set_option maxHeartbeats 400000 in
theorem timeT_hi (s : ByteArray) (g a A : Nat) (W : ByteArray) (w : World) (h : Sc w g s a) (hT : (W.toList == [84]) = true) (N : Int) (Z : Nat) (hlo : ¬ N < -2147483648) (hhi : 2147483647 < N) (TM : Hid (∀ V, Sc V g s a → Calls Tryd.prog 70 #[.pointer (some ⟨g, 0, none⟩)] V fun e w' => e = .returned (.tuple #[.int .i64 N, .bool true]) ∧ Sc w' g s (a + Z) ∧ Turn g V w')) : Calls Tryd.prog 53 #[.pointer (some ⟨g, 0, none⟩), .agg #[.int .i64 0, .int .i64 0, .int .i64 0, .string ⟨#[]⟩, .int .i64 A], .string W] w fun e w' => RT g s A a (none) w e w' := by
  have K := hid_as (kind_r W)
  have hgl := h.lt
  have hX1 := hid_as (ts_typed A h)
  go_enter Tryd.func53, Tryd.ntmps53
  go_wp2_with (first
    | (go_at_call 24; (with_reducible refine (K.out _).mono ?_); rintro e w3 ⟨rfl, b3⟩; have hX3 := hid_as (hX1.out.below b3); clear b3)
    | (go_at_call 70; (with_reducible refine (TM.out _ hX3.out.sc).mono ?_); rintro e w4 ⟨rfl, s4, t4⟩; have hX4 := hid_as (hX3.out.turn t4 s4); clear s4 t4; obtain ⟨_, ⟨q0, q1, q2, q3, q4, qf, ql⟩, ⟨r0, r1, r2, r3, r4, rf, rl⟩, _, _, _, _⟩ := hX4.out))
  have hTu := hX4.out.tu
  exact bodyPost_ret (v := .tuple #[.agg #[.int .i64 0, .int .i64 0, .int .i64 0, .string ⟨#[]⟩, .int .i64 A], .int .i64 163]) (by simp [results, Tryd.results53, go_sem, r0, r1, r2, r3, r4]) rfl (rt_none (by decide) (by repeat (first | (with_reducible exact hTu) | refine Turn.far ?_ (by omega) _ _)))
set_option maxHeartbeats 400000 in
theorem timeT_ok (s : ByteArray) (g a A : Nat) (W : ByteArray) (w : World) (h : Sc w g s a) (hT : (W.toList == [84]) = true) (N : Int) (Z : Nat) (hlo : ¬ N < -2147483648) (hhi : ¬ 2147483647 < N) (TM : Hid (∀ V, Sc V g s a → Calls Tryd.prog 70 #[.pointer (some ⟨g, 0, none⟩)] V fun e w' => e = .returned (.tuple #[.int .i64 N, .bool true]) ∧ Sc w' g s (a + Z) ∧ Turn g V w')) : Calls Tryd.prog 53 #[.pointer (some ⟨g, 0, none⟩), .agg #[.int .i64 0, .int .i64 0, .int .i64 0, .string ⟨#[]⟩, .int .i64 A], .string W] w fun e w' => RT g s A a (some (⟨4, 11, N, []⟩, Z)) w e w' := by
  have K := hid_as (kind_r W)
  have hgl := h.lt
  have hX1 := hid_as (ts_typed A h)
  go_enter Tryd.func53, Tryd.ntmps53
  go_wp2_with (first
    | (go_at_call 24; (with_reducible refine (K.out _).mono ?_); rintro e w3 ⟨rfl, b3⟩; have hX3 := hid_as (hX1.out.below b3); clear b3)
    | (go_at_call 70; (with_reducible refine (TM.out _ hX3.out.sc).mono ?_); rintro e w4 ⟨rfl, s4, t4⟩; have hX4 := hid_as (hX3.out.turn t4 s4); clear s4 t4; obtain ⟨_, ⟨q0, q1, q2, q3, q4, qf, ql⟩, ⟨r0, r1, r2, r3, r4, rf, rl⟩, _, _, _, _⟩ := hX4.out))
  have hTu := hX4.out.tu
  have hSc := hX4.out.sc
  exact bodyPost_ret (v := .tuple #[tv ⟨4, 11, N, []⟩ A, .int .i64 0]) (by simp [results, Tryd.results53, go_sem, tv, tx, r0, r1, r2, r3, r4]) rfl (rt_some (by repeat (first | (with_reducible exact hTu) | refine Turn.far ?_ (by omega) _ _)) (by repeat (first | (with_reducible exact hSc) | refine Sc.far ?_ (by omega) _ _)))
set_option maxHeartbeats 400000 in
theorem timeN_no (s : ByteArray) (g a A : Nat) (W : ByteArray) (w : World) (h : Sc w g s a) (hT : (W.toList == [84]) = false) (hk : kf W.data.toList = 11) (N : Int) (Z : Nat)  (TM : Hid (∀ V, Sc V g s a → Calls Tryd.prog 70 #[.pointer (some ⟨g, 0, none⟩)] V fun e w' => e = .returned (.tuple #[.int .i64 N, .bool false]) ∧ Sc w' g s (a + Z) ∧ Turn g V w')) : Calls Tryd.prog 53 #[.pointer (some ⟨g, 0, none⟩), .agg #[.int .i64 0, .int .i64 0, .int .i64 0, .string ⟨#[]⟩, .int .i64 A], .string W] w fun e w' => RT g s A a (none) w e w' := by
  have K : Hid (∀ V, Calls Tryd.prog 24 #[.string W] V fun e w' => e = .returned (.int .i64 11) ∧ Below V.heap.size V w') := fun V => by have q := kind_r W V; rw [hk] at q; exact q
  clear hk
  have hgl := h.lt
  have hX1 := hid_as (ts_typed A h)
  go_enter Tryd.func53, Tryd.ntmps53
  go_wp2_with (first
    | (go_at_call 24; (with_reducible refine (K.out _).mono ?_); rintro e w3 ⟨rfl, b3⟩; have hX3 := hid_as (hX1.out.below b3); clear b3)
    | (go_at_call 70; (with_reducible refine (TM.out _ hX3.out.sc).mono ?_); rintro e w4 ⟨rfl, s4, t4⟩; have hX4 := hid_as (hX3.out.turn t4 s4); clear s4 t4; obtain ⟨_, ⟨q0, q1, q2, q3, q4, qf, ql⟩, ⟨r0, r1, r2, r3, r4, rf, rl⟩, _, _, _, _⟩ := hX4.out))
  have hTu := hX4.out.tu
  exact bodyPost_ret (v := .tuple #[.agg #[.int .i64 0, .int .i64 0, .int .i64 0, .string ⟨#[]⟩, .int .i64 A], .int .i64 120]) (by simp [results, Tryd.results53, go_sem, r0, r1, r2, r3, r4]) rfl (rt_none (by decide) (by repeat (first | (with_reducible exact hTu) | refine Turn.far ?_ (by omega) _ _)))
set_option maxHeartbeats 400000 in
theorem timeN_lo (s : ByteArray) (g a A : Nat) (W : ByteArray) (w : World) (h : Sc w g s a) (hT : (W.toList == [84]) = false) (hk : kf W.data.toList = 11) (N : Int) (Z : Nat) (hlo : N < -2147483648) (TM : Hid (∀ V, Sc V g s a → Calls Tryd.prog 70 #[.pointer (some ⟨g, 0, none⟩)] V fun e w' => e = .returned (.tuple #[.int .i64 N, .bool true]) ∧ Sc w' g s (a + Z) ∧ Turn g V w')) : Calls Tryd.prog 53 #[.pointer (some ⟨g, 0, none⟩), .agg #[.int .i64 0, .int .i64 0, .int .i64 0, .string ⟨#[]⟩, .int .i64 A], .string W] w fun e w' => RT g s A a (none) w e w' := by
  have K : Hid (∀ V, Calls Tryd.prog 24 #[.string W] V fun e w' => e = .returned (.int .i64 11) ∧ Below V.heap.size V w') := fun V => by have q := kind_r W V; rw [hk] at q; exact q
  clear hk
  have hgl := h.lt
  have hX1 := hid_as (ts_typed A h)
  go_enter Tryd.func53, Tryd.ntmps53
  go_wp2_with (first
    | (go_at_call 24; (with_reducible refine (K.out _).mono ?_); rintro e w3 ⟨rfl, b3⟩; have hX3 := hid_as (hX1.out.below b3); clear b3)
    | (go_at_call 70; (with_reducible refine (TM.out _ hX3.out.sc).mono ?_); rintro e w4 ⟨rfl, s4, t4⟩; have hX4 := hid_as (hX3.out.turn t4 s4); clear s4 t4; obtain ⟨_, ⟨q0, q1, q2, q3, q4, qf, ql⟩, ⟨r0, r1, r2, r3, r4, rf, rl⟩, _, _, _, _⟩ := hX4.out))
  have hTu := hX4.out.tu
  exact bodyPost_ret (v := .tuple #[.agg #[.int .i64 0, .int .i64 0, .int .i64 0, .string ⟨#[]⟩, .int .i64 A], .int .i64 163]) (by simp [results, Tryd.results53, go_sem, r0, r1, r2, r3, r4]) rfl (rt_none (by decide) (by repeat (first | (with_reducible exact hTu) | refine Turn.far ?_ (by omega) _ _)))
set_option maxHeartbeats 400000 in
theorem timeN_hi (s : ByteArray) (g a A : Nat) (W : ByteArray) (w : World) (h : Sc w g s a) (hT : (W.toList == [84]) = false) (hk : kf W.data.toList = 11) (N : Int) (Z : Nat) (hlo : ¬ N < -2147483648) (hhi : 2147483647 < N) (TM : Hid (∀ V, Sc V g s a → Calls Tryd.prog 70 #[.pointer (some ⟨g, 0, none⟩)] V fun e w' => e = .returned (.tuple #[.int .i64 N, .bool true]) ∧ Sc w' g s (a + Z) ∧ Turn g V w')) : Calls Tryd.prog 53 #[.pointer (some ⟨g, 0, none⟩), .agg #[.int .i64 0, .int .i64 0, .int .i64 0, .string ⟨#[]⟩, .int .i64 A], .string W] w fun e w' => RT g s A a (none) w e w' := by
  have K : Hid (∀ V, Calls Tryd.prog 24 #[.string W] V fun e w' => e = .returned (.int .i64 11) ∧ Below V.heap.size V w') := fun V => by have q := kind_r W V; rw [hk] at q; exact q
  clear hk
  have hgl := h.lt
  have hX1 := hid_as (ts_typed A h)
  go_enter Tryd.func53, Tryd.ntmps53
  go_wp2_with (first
    | (go_at_call 24; (with_reducible refine (K.out _).mono ?_); rintro e w3 ⟨rfl, b3⟩; have hX3 := hid_as (hX1.out.below b3); clear b3)
    | (go_at_call 70; (with_reducible refine (TM.out _ hX3.out.sc).mono ?_); rintro e w4 ⟨rfl, s4, t4⟩; have hX4 := hid_as (hX3.out.turn t4 s4); clear s4 t4; obtain ⟨_, ⟨q0, q1, q2, q3, q4, qf, ql⟩, ⟨r0, r1, r2, r3, r4, rf, rl⟩, _, _, _, _⟩ := hX4.out))
  have hTu := hX4.out.tu
  exact bodyPost_ret (v := .tuple #[.agg #[.int .i64 0, .int .i64 0, .int .i64 0, .string ⟨#[]⟩, .int .i64 A], .int .i64 163]) (by simp [results, Tryd.results53, go_sem, r0, r1, r2, r3, r4]) rfl (rt_none (by decide) (by repeat (first | (with_reducible exact hTu) | refine Turn.far ?_ (by omega) _ _)))
set_option maxHeartbeats 400000 in
theorem timeN_ok (s : ByteArray) (g a A : Nat) (W : ByteArray) (w : World) (h : Sc w g s a) (hT : (W.toList == [84]) = false) (hk : kf W.data.toList = 11) (N : Int) (Z : Nat) (hlo : ¬ N < -2147483648) (hhi : ¬ 2147483647 < N) (TM : Hid (∀ V, Sc V g s a → Calls Tryd.prog 70 #[.pointer (some ⟨g, 0, none⟩)] V fun e w' => e = .returned (.tuple #[.int .i64 N, .bool true]) ∧ Sc w' g s (a + Z) ∧ Turn g V w')) : Calls Tryd.prog 53 #[.pointer (some ⟨g, 0, none⟩), .agg #[.int .i64 0, .int .i64 0, .int .i64 0, .string ⟨#[]⟩, .int .i64 A], .string W] w fun e w' => RT g s A a (some (⟨4, 11, N, []⟩, Z)) w e w' := by
  have K : Hid (∀ V, Calls Tryd.prog 24 #[.string W] V fun e w' => e = .returned (.int .i64 11) ∧ Below V.heap.size V w') := fun V => by have q := kind_r W V; rw [hk] at q; exact q
  clear hk
  have hgl := h.lt
  have hX1 := hid_as (ts_typed A h)
  go_enter Tryd.func53, Tryd.ntmps53
  go_wp2_with (first
    | (go_at_call 24; (with_reducible refine (K.out _).mono ?_); rintro e w3 ⟨rfl, b3⟩; have hX3 := hid_as (hX1.out.below b3); clear b3)
    | (go_at_call 70; (with_reducible refine (TM.out _ hX3.out.sc).mono ?_); rintro e w4 ⟨rfl, s4, t4⟩; have hX4 := hid_as (hX3.out.turn t4 s4); clear s4 t4; obtain ⟨_, ⟨q0, q1, q2, q3, q4, qf, ql⟩, ⟨r0, r1, r2, r3, r4, rf, rl⟩, _, _, _, _⟩ := hX4.out))
  have hTu := hX4.out.tu
  have hSc := hX4.out.sc
  exact bodyPost_ret (v := .tuple #[tv ⟨4, 11, N, []⟩ A, .int .i64 0]) (by simp [results, Tryd.results53, go_sem, tv, tx, r0, r1, r2, r3, r4]) rfl (rt_some (by repeat (first | (with_reducible exact hTu) | refine Turn.far ?_ (by omega) _ _)) (by repeat (first | (with_reducible exact hSc) | refine Sc.far ?_ (by omega) _ _)))
open Go.RowKit
open Adr Lx
set_option maxHeartbeats 400000 in
theorem numBn_none (s : ByteArray) (g a A : Nat) (W : ByteArray) (w : World) (h : Sc w g s a) (hs : s.size ≤ 65536) (ha : a ≤ s.size) (hT : (W.toList == [84]) = false) (hk : kf W.data.toList = 1) (hl : isL (chr s a) = false) (hm : (((chr s a).toNat : Int) == 45) = false) (N Z : Nat) (NM : Hid (∀ V, Sc V g s a → Calls Tryd.prog 54 #[.pointer (some ⟨g, 0, none⟩)] V fun e w' => e = .returned (.tuple #[.int .i64 (N : Nat), .int .i64 0]) ∧ Sc w' g s (a + Z) ∧ Turn g V w')) : Calls Tryd.prog 53 #[.pointer (some ⟨g, 0, none⟩), .agg #[.int .i64 0, .int .i64 0, .int .i64 0, .string ⟨#[]⟩, .int .i64 A], .string W] w fun e w' => RT g s A a (none) w e w' := by
  have K : Hid (∀ V, Calls Tryd.prog 24 #[.string W] V fun e w' => e = .returned (.int .i64 1) ∧ Below V.heap.size V w') := fun V => by have q := kind_r W V; rw [hk] at q; exact q
  have C0 : Hid (∀ V, Sc V g s a → Calls Tryd.prog 34 #[.pointer (some ⟨g, 0, none⟩), .int .i64 0] V fun e w' => e = .returned (.int .u8 (chr s a).toNat) ∧ Same V w') := fun V q => c_r s g a 0 V q (by omega) (by omega)
  have L : Hid (∀ V, Calls Tryd.prog 51 #[.int .u8 (chr s a).toNat] V fun e w' => e = .returned (.bool false) ∧ w' = V) := fun V => by have q := rletter_c (chr s a) V; rw [hl] at q; exact q
  have hgl := h.lt
  have hX1 := hid_as (ts_typed A h)
  clear hk hl
  generalize (chr s a).toNat = cc at *
  go_enter Tryd.func53, Tryd.ntmps53
  go_wp2_with (first
    | (go_at_call 24; (with_reducible refine (K.out _).mono ?_); rintro e w3 ⟨rfl, b3⟩; have hX3 := hid_as (hX1.out.below b3); clear b3; have hX3p := hid_as (hX3.out.put01 (by omega) 3 1); obtain ⟨_, ⟨q0, q1, q2, q3, q4, qf, ql⟩, ⟨r0, r1, r2, r3, r4, rf, rl⟩, _, _, _, _⟩ := hX3.out)
    | (go_at_call 34; (first | ((with_reducible refine (C0.out _ hXc.out.sc).mono ?_); rintro e w4 ⟨rfl, k_⟩; replace hXc := hid_as (hXc.out.turn (Turn.same k_) (hXc.out.sc.same k_))) | ((with_reducible refine (C0.out _ hX3p.out.sc).mono ?_); rintro e w4 ⟨rfl, k_⟩; have hXc := hid_as (hX3p.out.turn (Turn.same k_) (hX3p.out.sc.same k_)))); clear k_; have d1 := hXc.out.sc.c1; have df := hXc.out.sc.fr)
    | (go_at_call 51; (with_reducible refine (L.out _).mono ?_); rintro e w' ⟨rfl, hw⟩; subst w')
    | (go_at_call 54; (with_reducible refine (NM.out _ hXc.out.sc).mono ?_); rintro e w5 ⟨rfl, s5, t5⟩; have hX5 := hid_as (hXc.out.turn t5 s5); clear s5 t5 d1 df; clear q0 q1 q2 q3 q4 qf ql r0 r1 r2 r3 r4 rf rl; obtain ⟨_, ⟨q0, q1, q2, q3, q4, qf, ql⟩, ⟨r0, r1, r2, r3, r4, rf, rl⟩, _, _, _, _⟩ := hX5.out))
  have hTu := hX5.out.tu
  exact bodyPost_ret (v := .tuple #[.agg #[.int .i64 3, .int .i64 1, .int .i64 0, .string ⟨#[]⟩, .int .i64 A], .int .i64 120]) (by simp [results, Tryd.results53, go_sem, r0, r1, r2, r3, r4]) rfl (rt_none (by decide) (by repeat (first | (with_reducible exact hTu) | refine Turn.far ?_ (by omega) _ _)))
set_option maxHeartbeats 400000 in
theorem numBn_hi (s : ByteArray) (g a A : Nat) (W : ByteArray) (w : World) (h : Sc w g s a) (hs : s.size ≤ 65536) (ha : a ≤ s.size) (hT : (W.toList == [84]) = false) (hk : kf W.data.toList = 1) (hl : isL (chr s a) = false) (hm : (((chr s a).toNat : Int) == 45) = false) (N Z : Nat) (H : Nat) (hH : ¬ H = 0) (hlo : ¬ (N : Int) < klo 1) (hhi : khi 1 < (N : Int)) (NM : Hid (∀ V, Sc V g s a → Calls Tryd.prog 54 #[.pointer (some ⟨g, 0, none⟩)] V fun e w' => e = .returned (.tuple #[.int .i64 (N : Nat), .int .i64 (H : Nat)]) ∧ Sc w' g s (a + Z) ∧ Turn g V w')) : Calls Tryd.prog 53 #[.pointer (some ⟨g, 0, none⟩), .agg #[.int .i64 0, .int .i64 0, .int .i64 0, .string ⟨#[]⟩, .int .i64 A], .string W] w fun e w' => RT g s A a (none) w e w' := by
  have K : Hid (∀ V, Calls Tryd.prog 24 #[.string W] V fun e w' => e = .returned (.int .i64 1) ∧ Below V.heap.size V w') := fun V => by have q := kind_r W V; rw [hk] at q; exact q
  have C0 : Hid (∀ V, Sc V g s a → Calls Tryd.prog 34 #[.pointer (some ⟨g, 0, none⟩), .int .i64 0] V fun e w' => e = .returned (.int .u8 (chr s a).toNat) ∧ Same V w') := fun V q => c_r s g a 0 V q (by omega) (by omega)
  have L : Hid (∀ V, Calls Tryd.prog 51 #[.int .u8 (chr s a).toNat] V fun e w' => e = .returned (.bool false) ∧ w' = V) := fun V => by have q := rletter_c (chr s a) V; rw [hl] at q; exact q
  have RG : Hid (∀ V, Calls Tryd.prog 73 #[.int .i64 1] V fun e w' => e = .returned (.tuple #[.int .i64 (klo 1), .int .i64 (khi 1)]) ∧ Below V.heap.size V w') := fun V => range_r 1 (by omega) (by omega) V
  rw [show klo 1 = 0 from rfl] at RG hlo
  rw [show khi 1 = 1 from rfl] at RG hhi
  have hH' : ¬ (H : Int) = 0 := by omega
  have hgl := h.lt
  have hX1 := hid_as (ts_typed A h)
  clear hk hl
  generalize (chr s a).toNat = cc at *
  go_enter Tryd.func53, Tryd.ntmps53
  go_wp2_with (first
    | (go_at_call 24; (with_reducible refine (K.out _).mono ?_); rintro e w3 ⟨rfl, b3⟩; have hX3 := hid_as (hX1.out.below b3); clear b3; have hX3p := hid_as (hX3.out.put01 (by omega) 3 1); obtain ⟨_, ⟨q0, q1, q2, q3, q4, qf, ql⟩, ⟨r0, r1, r2, r3, r4, rf, rl⟩, _, _, _, _⟩ := hX3.out)
    | (go_at_call 34; (first | ((with_reducible refine (C0.out _ hXc.out.sc).mono ?_); rintro e w4 ⟨rfl, k_⟩; replace hXc := hid_as (hXc.out.turn (Turn.same k_) (hXc.out.sc.same k_))) | ((with_reducible refine (C0.out _ hX3p.out.sc).mono ?_); rintro e w4 ⟨rfl, k_⟩; have hXc := hid_as (hX3p.out.turn (Turn.same k_) (hX3p.out.sc.same k_)))); clear k_; have d1 := hXc.out.sc.c1; have df := hXc.out.sc.fr)
    | (go_at_call 51; (with_reducible refine (L.out _).mono ?_); rintro e w' ⟨rfl, hw⟩; subst w')
    | (go_at_call 54; (with_reducible refine (NM.out _ hXc.out.sc).mono ?_); rintro e w5 ⟨rfl, s5, t5⟩; have hX5 := hid_as (hXc.out.turn t5 s5); clear s5 t5 d1 df)
    | (go_at_call 73; (with_reducible refine (RG.out _).mono ?_); rintro e w6 ⟨rfl, b6⟩; have hX6 := hid_as (hX5.out.below b6); clear b6; clear q0 q1 q2 q3 q4 qf ql r0 r1 r2 r3 r4 rf rl; obtain ⟨_, ⟨q0, q1, q2, q3, q4, qf, ql⟩, ⟨r0, r1, r2, r3, r4, rf, rl⟩, _, _, _, _⟩ := hX6.out))
  have hTu := hX6.out.tu
  exact bodyPost_ret (v := .tuple #[.agg #[.int .i64 3, .int .i64 1, .int .i64 0, .string ⟨#[]⟩, .int .i64 A], .int .i64 163]) (by simp [results, Tryd.results53, go_sem, r0, r1, r2, r3, r4]) rfl (rt_none (by decide) (by repeat (first | (with_reducible exact hTu) | refine Turn.far ?_ (by omega) _ _)))
set_option maxHeartbeats 400000 in
theorem numBn_ok (s : ByteArray) (g a A : Nat) (W : ByteArray) (w : World) (h : Sc w g s a) (hs : s.size ≤ 65536) (ha : a ≤ s.size) (hT : (W.toList == [84]) = false) (hk : kf W.data.toList = 1) (hl : isL (chr s a) = false) (hm : (((chr s a).toNat : Int) == 45) = false) (N Z : Nat) (H : Nat) (hH : ¬ H = 0) (hlo : ¬ (N : Int) < klo 1) (hhi : ¬ khi 1 < (N : Int)) (NM : Hid (∀ V, Sc V g s a → Calls Tryd.prog 54 #[.pointer (some ⟨g, 0, none⟩)] V fun e w' => e = .returned (.tuple #[.int .i64 (N : Nat), .int .i64 (H : Nat)]) ∧ Sc w' g s (a + Z) ∧ Turn g V w')) : Calls Tryd.prog 53 #[.pointer (some ⟨g, 0, none⟩), .agg #[.int .i64 0, .int .i64 0, .int .i64 0, .string ⟨#[]⟩, .int .i64 A], .string W] w fun e w' => RT g s A a (some (⟨3, 1, (N : Int), []⟩, Z)) w e w' := by
  have K : Hid (∀ V, Calls Tryd.prog 24 #[.string W] V fun e w' => e = .returned (.int .i64 1) ∧ Below V.heap.size V w') := fun V => by have q := kind_r W V; rw [hk] at q; exact q
  have C0 : Hid (∀ V, Sc V g s a → Calls Tryd.prog 34 #[.pointer (some ⟨g, 0, none⟩), .int .i64 0] V fun e w' => e = .returned (.int .u8 (chr s a).toNat) ∧ Same V w') := fun V q => c_r s g a 0 V q (by omega) (by omega)
  have L : Hid (∀ V, Calls Tryd.prog 51 #[.int .u8 (chr s a).toNat] V fun e w' => e = .returned (.bool false) ∧ w' = V) := fun V => by have q := rletter_c (chr s a) V; rw [hl] at q; exact q
  have RG : Hid (∀ V, Calls Tryd.prog 73 #[.int .i64 1] V fun e w' => e = .returned (.tuple #[.int .i64 (klo 1), .int .i64 (khi 1)]) ∧ Below V.heap.size V w') := fun V => range_r 1 (by omega) (by omega) V
  rw [show klo 1 = 0 from rfl] at RG hlo
  rw [show khi 1 = 1 from rfl] at RG hhi
  have hH' : ¬ (H : Int) = 0 := by omega
  have hgl := h.lt
  have hX1 := hid_as (ts_typed A h)
  clear hk hl
  generalize (chr s a).toNat = cc at *
  go_enter Tryd.func53, Tryd.ntmps53
  go_wp2_with (first
    | (go_at_call 24; (with_reducible refine (K.out _).mono ?_); rintro e w3 ⟨rfl, b3⟩; have hX3 := hid_as (hX1.out.below b3); clear b3; have hX3p := hid_as (hX3.out.put01 (by omega) 3 1); obtain ⟨_, ⟨q0, q1, q2, q3, q4, qf, ql⟩, ⟨r0, r1, r2, r3, r4, rf, rl⟩, _, _, _, _⟩ := hX3.out)
    | (go_at_call 34; (first | ((with_reducible refine (C0.out _ hXc.out.sc).mono ?_); rintro e w4 ⟨rfl, k_⟩; replace hXc := hid_as (hXc.out.turn (Turn.same k_) (hXc.out.sc.same k_))) | ((with_reducible refine (C0.out _ hX3p.out.sc).mono ?_); rintro e w4 ⟨rfl, k_⟩; have hXc := hid_as (hX3p.out.turn (Turn.same k_) (hX3p.out.sc.same k_)))); clear k_; have d1 := hXc.out.sc.c1; have df := hXc.out.sc.fr)
    | (go_at_call 51; (with_reducible refine (L.out _).mono ?_); rintro e w' ⟨rfl, hw⟩; subst w')
    | (go_at_call 54; (with_reducible refine (NM.out _ hXc.out.sc).mono ?_); rintro e w5 ⟨rfl, s5, t5⟩; have hX5 := hid_as (hXc.out.turn t5 s5); clear s5 t5 d1 df)
    | (go_at_call 73; (with_reducible refine (RG.out _).mono ?_); rintro e w6 ⟨rfl, b6⟩; have hX6 := hid_as (hX5.out.below b6); clear b6; clear q0 q1 q2 q3 q4 qf ql r0 r1 r2 r3 r4 rf rl; obtain ⟨_, ⟨q0, q1, q2, q3, q4, qf, ql⟩, ⟨r0, r1, r2, r3, r4, rf, rl⟩, _, _, _, _⟩ := hX6.out))
  have hTu := hX6.out.tu
  have hSc := hX6.out.sc
  exact bodyPost_ret (v := .tuple #[tv ⟨3, 1, (N : Int), []⟩ A, .int .i64 0]) (by simp [results, Tryd.results53, go_sem, tv, tx, r0, r1, r2, r3, r4]) rfl (rt_some (by repeat (first | (with_reducible exact hTu) | refine Turn.far ?_ (by omega) _ _)) (by repeat (first | (with_reducible exact hSc) | refine Sc.far ?_ (by omega) _ _)))
open Go.RowKit
open Adr Lx
set_option maxHeartbeats 400000 in
theorem numBu_none (s : ByteArray) (g a A : Nat) (W : ByteArray) (w : World) (h : Sc w g s a) (hs : s.size ≤ 65536) (ha : a ≤ s.size) (hT : (W.toList == [84]) = false) (hk : kf W.data.toList = 1) (hl : isL (chr s a) = false) (hm : (((chr s a).toNat : Int) == 45) = true) (N Z : Nat) (NM : Hid (∀ V, Sc V g s a → Calls Tryd.prog 54 #[.pointer (some ⟨g, 0, none⟩)] V fun e w' => e = .returned (.tuple #[.int .i64 (N : Nat), .int .i64 0]) ∧ Sc w' g s (a + Z) ∧ Turn g V w')) : Calls Tryd.prog 53 #[.pointer (some ⟨g, 0, none⟩), .agg #[.int .i64 0, .int .i64 0, .int .i64 0, .string ⟨#[]⟩, .int .i64 A], .string W] w fun e w' => RT g s A a (none) w e w' := by
  have K : Hid (∀ V, Calls Tryd.prog 24 #[.string W] V fun e w' => e = .returned (.int .i64 1) ∧ Below V.heap.size V w') := fun V => by have q := kind_r W V; rw [hk] at q; exact q
  have C0 : Hid (∀ V, Sc V g s a → Calls Tryd.prog 34 #[.pointer (some ⟨g, 0, none⟩), .int .i64 0] V fun e w' => e = .returned (.int .u8 (chr s a).toNat) ∧ Same V w') := fun V q => c_r s g a 0 V q (by omega) (by omega)
  have L : Hid (∀ V, Calls Tryd.prog 51 #[.int .u8 (chr s a).toNat] V fun e w' => e = .returned (.bool false) ∧ w' = V) := fun V => by have q := rletter_c (chr s a) V; rw [hl] at q; exact q
  have SG : Hid (∀ V, Calls Tryd.prog 71 #[.int .i64 1] V fun e w' => e = .returned (.bool false) ∧ w' = V) := fun V => by have q := signed_r 1 (by omega) (by omega) V; rw [decide_eq_false (by decide)] at q; exact q
  have hgl := h.lt
  have hX1 := hid_as (ts_typed A h)
  clear hk hl
  generalize (chr s a).toNat = cc at *
  go_enter Tryd.func53, Tryd.ntmps53
  go_wp2_with (first
    | (go_at_call 24; (with_reducible refine (K.out _).mono ?_); rintro e w3 ⟨rfl, b3⟩; have hX3 := hid_as (hX1.out.below b3); clear b3; have hX3p := hid_as (hX3.out.put01 (by omega) 3 1); obtain ⟨_, ⟨q0, q1, q2, q3, q4, qf, ql⟩, ⟨r0, r1, r2, r3, r4, rf, rl⟩, _, _, _, _⟩ := hX3.out)
    | (go_at_call 34; (first | ((with_reducible refine (C0.out _ hXc.out.sc).mono ?_); rintro e w4 ⟨rfl, k_⟩; replace hXc := hid_as (hXc.out.turn (Turn.same k_) (hXc.out.sc.same k_))) | ((with_reducible refine (C0.out _ hX3p.out.sc).mono ?_); rintro e w4 ⟨rfl, k_⟩; have hXc := hid_as (hX3p.out.turn (Turn.same k_) (hX3p.out.sc.same k_)))); clear k_; have d1 := hXc.out.sc.c1; have df := hXc.out.sc.fr)
    | (go_at_call 51; (with_reducible refine (L.out _).mono ?_); rintro e w' ⟨rfl, hw⟩; subst w')
    | (go_at_call 71; (with_reducible refine (SG.out _).mono ?_); rintro e w' ⟨rfl, hw⟩; subst w')
    | (go_at_call 54; (with_reducible refine (NM.out _ hXc.out.sc).mono ?_); rintro e w5 ⟨rfl, s5, t5⟩; have hX5 := hid_as (hXc.out.turn t5 s5); clear s5 t5 d1 df; clear q0 q1 q2 q3 q4 qf ql r0 r1 r2 r3 r4 rf rl; obtain ⟨_, ⟨q0, q1, q2, q3, q4, qf, ql⟩, ⟨r0, r1, r2, r3, r4, rf, rl⟩, _, _, _, _⟩ := hX5.out))
  have hTu := hX5.out.tu
  exact bodyPost_ret (v := .tuple #[.agg #[.int .i64 3, .int .i64 1, .int .i64 0, .string ⟨#[]⟩, .int .i64 A], .int .i64 120]) (by simp [results, Tryd.results53, go_sem, r0, r1, r2, r3, r4]) rfl (rt_none (by decide) (by repeat (first | (with_reducible exact hTu) | refine Turn.far ?_ (by omega) _ _)))
set_option maxHeartbeats 400000 in
theorem numBu_hi (s : ByteArray) (g a A : Nat) (W : ByteArray) (w : World) (h : Sc w g s a) (hs : s.size ≤ 65536) (ha : a ≤ s.size) (hT : (W.toList == [84]) = false) (hk : kf W.data.toList = 1) (hl : isL (chr s a) = false) (hm : (((chr s a).toNat : Int) == 45) = true) (N Z : Nat) (H : Nat) (hH : ¬ H = 0) (hlo : ¬ (N : Int) < klo 1) (hhi : khi 1 < (N : Int)) (NM : Hid (∀ V, Sc V g s a → Calls Tryd.prog 54 #[.pointer (some ⟨g, 0, none⟩)] V fun e w' => e = .returned (.tuple #[.int .i64 (N : Nat), .int .i64 (H : Nat)]) ∧ Sc w' g s (a + Z) ∧ Turn g V w')) : Calls Tryd.prog 53 #[.pointer (some ⟨g, 0, none⟩), .agg #[.int .i64 0, .int .i64 0, .int .i64 0, .string ⟨#[]⟩, .int .i64 A], .string W] w fun e w' => RT g s A a (none) w e w' := by
  have K : Hid (∀ V, Calls Tryd.prog 24 #[.string W] V fun e w' => e = .returned (.int .i64 1) ∧ Below V.heap.size V w') := fun V => by have q := kind_r W V; rw [hk] at q; exact q
  have C0 : Hid (∀ V, Sc V g s a → Calls Tryd.prog 34 #[.pointer (some ⟨g, 0, none⟩), .int .i64 0] V fun e w' => e = .returned (.int .u8 (chr s a).toNat) ∧ Same V w') := fun V q => c_r s g a 0 V q (by omega) (by omega)
  have L : Hid (∀ V, Calls Tryd.prog 51 #[.int .u8 (chr s a).toNat] V fun e w' => e = .returned (.bool false) ∧ w' = V) := fun V => by have q := rletter_c (chr s a) V; rw [hl] at q; exact q
  have SG : Hid (∀ V, Calls Tryd.prog 71 #[.int .i64 1] V fun e w' => e = .returned (.bool false) ∧ w' = V) := fun V => by have q := signed_r 1 (by omega) (by omega) V; rw [decide_eq_false (by decide)] at q; exact q
  have RG : Hid (∀ V, Calls Tryd.prog 73 #[.int .i64 1] V fun e w' => e = .returned (.tuple #[.int .i64 (klo 1), .int .i64 (khi 1)]) ∧ Below V.heap.size V w') := fun V => range_r 1 (by omega) (by omega) V
  rw [show klo 1 = 0 from rfl] at RG hlo
  rw [show khi 1 = 1 from rfl] at RG hhi
  have hH' : ¬ (H : Int) = 0 := by omega
  have hgl := h.lt
  have hX1 := hid_as (ts_typed A h)
  clear hk hl
  generalize (chr s a).toNat = cc at *
  go_enter Tryd.func53, Tryd.ntmps53
  go_wp2_with (first
    | (go_at_call 24; (with_reducible refine (K.out _).mono ?_); rintro e w3 ⟨rfl, b3⟩; have hX3 := hid_as (hX1.out.below b3); clear b3; have hX3p := hid_as (hX3.out.put01 (by omega) 3 1); obtain ⟨_, ⟨q0, q1, q2, q3, q4, qf, ql⟩, ⟨r0, r1, r2, r3, r4, rf, rl⟩, _, _, _, _⟩ := hX3.out)
    | (go_at_call 34; (first | ((with_reducible refine (C0.out _ hXc.out.sc).mono ?_); rintro e w4 ⟨rfl, k_⟩; replace hXc := hid_as (hXc.out.turn (Turn.same k_) (hXc.out.sc.same k_))) | ((with_reducible refine (C0.out _ hX3p.out.sc).mono ?_); rintro e w4 ⟨rfl, k_⟩; have hXc := hid_as (hX3p.out.turn (Turn.same k_) (hX3p.out.sc.same k_)))); clear k_; have d1 := hXc.out.sc.c1; have df := hXc.out.sc.fr)
    | (go_at_call 51; (with_reducible refine (L.out _).mono ?_); rintro e w' ⟨rfl, hw⟩; subst w')
    | (go_at_call 71; (with_reducible refine (SG.out _).mono ?_); rintro e w' ⟨rfl, hw⟩; subst w')
    | (go_at_call 54; (with_reducible refine (NM.out _ hXc.out.sc).mono ?_); rintro e w5 ⟨rfl, s5, t5⟩; have hX5 := hid_as (hXc.out.turn t5 s5); clear s5 t5 d1 df)
    | (go_at_call 73; (with_reducible refine (RG.out _).mono ?_); rintro e w6 ⟨rfl, b6⟩; have hX6 := hid_as (hX5.out.below b6); clear b6; clear q0 q1 q2 q3 q4 qf ql r0 r1 r2 r3 r4 rf rl; obtain ⟨_, ⟨q0, q1, q2, q3, q4, qf, ql⟩, ⟨r0, r1, r2, r3, r4, rf, rl⟩, _, _, _, _⟩ := hX6.out))
  have hTu := hX6.out.tu
  exact bodyPost_ret (v := .tuple #[.agg #[.int .i64 3, .int .i64 1, .int .i64 0, .string ⟨#[]⟩, .int .i64 A], .int .i64 163]) (by simp [results, Tryd.results53, go_sem, r0, r1, r2, r3, r4]) rfl (rt_none (by decide) (by repeat (first | (with_reducible exact hTu) | refine Turn.far ?_ (by omega) _ _)))
set_option maxHeartbeats 400000 in
theorem numBu_ok (s : ByteArray) (g a A : Nat) (W : ByteArray) (w : World) (h : Sc w g s a) (hs : s.size ≤ 65536) (ha : a ≤ s.size) (hT : (W.toList == [84]) = false) (hk : kf W.data.toList = 1) (hl : isL (chr s a) = false) (hm : (((chr s a).toNat : Int) == 45) = true) (N Z : Nat) (H : Nat) (hH : ¬ H = 0) (hlo : ¬ (N : Int) < klo 1) (hhi : ¬ khi 1 < (N : Int)) (NM : Hid (∀ V, Sc V g s a → Calls Tryd.prog 54 #[.pointer (some ⟨g, 0, none⟩)] V fun e w' => e = .returned (.tuple #[.int .i64 (N : Nat), .int .i64 (H : Nat)]) ∧ Sc w' g s (a + Z) ∧ Turn g V w')) : Calls Tryd.prog 53 #[.pointer (some ⟨g, 0, none⟩), .agg #[.int .i64 0, .int .i64 0, .int .i64 0, .string ⟨#[]⟩, .int .i64 A], .string W] w fun e w' => RT g s A a (some (⟨3, 1, (N : Int), []⟩, Z)) w e w' := by
  have K : Hid (∀ V, Calls Tryd.prog 24 #[.string W] V fun e w' => e = .returned (.int .i64 1) ∧ Below V.heap.size V w') := fun V => by have q := kind_r W V; rw [hk] at q; exact q
  have C0 : Hid (∀ V, Sc V g s a → Calls Tryd.prog 34 #[.pointer (some ⟨g, 0, none⟩), .int .i64 0] V fun e w' => e = .returned (.int .u8 (chr s a).toNat) ∧ Same V w') := fun V q => c_r s g a 0 V q (by omega) (by omega)
  have L : Hid (∀ V, Calls Tryd.prog 51 #[.int .u8 (chr s a).toNat] V fun e w' => e = .returned (.bool false) ∧ w' = V) := fun V => by have q := rletter_c (chr s a) V; rw [hl] at q; exact q
  have SG : Hid (∀ V, Calls Tryd.prog 71 #[.int .i64 1] V fun e w' => e = .returned (.bool false) ∧ w' = V) := fun V => by have q := signed_r 1 (by omega) (by omega) V; rw [decide_eq_false (by decide)] at q; exact q
  have RG : Hid (∀ V, Calls Tryd.prog 73 #[.int .i64 1] V fun e w' => e = .returned (.tuple #[.int .i64 (klo 1), .int .i64 (khi 1)]) ∧ Below V.heap.size V w') := fun V => range_r 1 (by omega) (by omega) V
  rw [show klo 1 = 0 from rfl] at RG hlo
  rw [show khi 1 = 1 from rfl] at RG hhi
  have hH' : ¬ (H : Int) = 0 := by omega
  have hgl := h.lt
  have hX1 := hid_as (ts_typed A h)
  clear hk hl
  generalize (chr s a).toNat = cc at *
  go_enter Tryd.func53, Tryd.ntmps53
  go_wp2_with (first
    | (go_at_call 24; (with_reducible refine (K.out _).mono ?_); rintro e w3 ⟨rfl, b3⟩; have hX3 := hid_as (hX1.out.below b3); clear b3; have hX3p := hid_as (hX3.out.put01 (by omega) 3 1); obtain ⟨_, ⟨q0, q1, q2, q3, q4, qf, ql⟩, ⟨r0, r1, r2, r3, r4, rf, rl⟩, _, _, _, _⟩ := hX3.out)
    | (go_at_call 34; (first | ((with_reducible refine (C0.out _ hXc.out.sc).mono ?_); rintro e w4 ⟨rfl, k_⟩; replace hXc := hid_as (hXc.out.turn (Turn.same k_) (hXc.out.sc.same k_))) | ((with_reducible refine (C0.out _ hX3p.out.sc).mono ?_); rintro e w4 ⟨rfl, k_⟩; have hXc := hid_as (hX3p.out.turn (Turn.same k_) (hX3p.out.sc.same k_)))); clear k_; have d1 := hXc.out.sc.c1; have df := hXc.out.sc.fr)
    | (go_at_call 51; (with_reducible refine (L.out _).mono ?_); rintro e w' ⟨rfl, hw⟩; subst w')
    | (go_at_call 71; (with_reducible refine (SG.out _).mono ?_); rintro e w' ⟨rfl, hw⟩; subst w')
    | (go_at_call 54; (with_reducible refine (NM.out _ hXc.out.sc).mono ?_); rintro e w5 ⟨rfl, s5, t5⟩; have hX5 := hid_as (hXc.out.turn t5 s5); clear s5 t5 d1 df)
    | (go_at_call 73; (with_reducible refine (RG.out _).mono ?_); rintro e w6 ⟨rfl, b6⟩; have hX6 := hid_as (hX5.out.below b6); clear b6; clear q0 q1 q2 q3 q4 qf ql r0 r1 r2 r3 r4 rf rl; obtain ⟨_, ⟨q0, q1, q2, q3, q4, qf, ql⟩, ⟨r0, r1, r2, r3, r4, rf, rl⟩, _, _, _, _⟩ := hX6.out))
  have hTu := hX6.out.tu
  have hSc := hX6.out.sc
  exact bodyPost_ret (v := .tuple #[tv ⟨3, 1, (N : Int), []⟩ A, .int .i64 0]) (by simp [results, Tryd.results53, go_sem, tv, tx, r0, r1, r2, r3, r4]) rfl (rt_some (by repeat (first | (with_reducible exact hTu) | refine Turn.far ?_ (by omega) _ _)) (by repeat (first | (with_reducible exact hSc) | refine Sc.far ?_ (by omega) _ _)))
open Go.RowKit
open Adr Lx
set_option maxHeartbeats 400000 in
theorem numKn_none (s : ByteArray) (g a A : Nat) (k : Nat) (hk0 : 1 ≤ k) (hk9 : k ≤ 10) (hk1 : ¬ k = 1) (W : ByteArray) (w : World) (h : Sc w g s a) (hs : s.size ≤ 65536) (ha : a ≤ s.size) (hT : (W.toList == [84]) = false) (hk : kf W.data.toList = k) (hm : (((chr s a).toNat : Int) == 45) = false) (N Z : Nat) (NM : Hid (∀ V, Sc V g s a → Calls Tryd.prog 54 #[.pointer (some ⟨g, 0, none⟩)] V fun e w' => e = .returned (.tuple #[.int .i64 (N : Nat), .int .i64 0]) ∧ Sc w' g s (a + Z) ∧ Turn g V w')) : Calls Tryd.prog 53 #[.pointer (some ⟨g, 0, none⟩), .agg #[.int .i64 0, .int .i64 0, .int .i64 0, .string ⟨#[]⟩, .int .i64 A], .string W] w fun e w' => RT g s A a (none) w e w' := by
  have K : Hid (∀ V, Calls Tryd.prog 24 #[.string W] V fun e w' => e = .returned (.int .i64 (k : Nat)) ∧ Below V.heap.size V w') := fun V => by have q := kind_r W V; rw [hk] at q; exact q
  have C0 : Hid (∀ V, Sc V g s a → Calls Tryd.prog 34 #[.pointer (some ⟨g, 0, none⟩), .int .i64 0] V fun e w' => e = .returned (.int .u8 (chr s a).toNat) ∧ Same V w') := fun V q => c_r s g a 0 V q (by omega) (by omega)
  have hk1' : ¬ (k : Int) = 1 := by omega
  have hk11' : ¬ (k : Int) = 11 := by omega
  have hgl := h.lt
  have hX1 := hid_as (ts_typed A h)
  clear hk
  generalize (chr s a).toNat = cc at *
  go_enter Tryd.func53, Tryd.ntmps53
  go_wp2_with (first
    | (go_at_call 24; (with_reducible refine (K.out _).mono ?_); rintro e w3 ⟨rfl, b3⟩; have hX3 := hid_as (hX1.out.below b3); clear b3; have hX3p := hid_as (hX3.out.put01 (by omega) 3 (k : Nat)); obtain ⟨_, ⟨q0, q1, q2, q3, q4, qf, ql⟩, ⟨r0, r1, r2, r3, r4, rf, rl⟩, _, _, _, _⟩ := hX3.out)
    | (go_at_call 34; (first | ((with_reducible refine (C0.out _ hXc.out.sc).mono ?_); rintro e w4 ⟨rfl, k_⟩; replace hXc := hid_as (hXc.out.turn (Turn.same k_) (hXc.out.sc.same k_))) | ((with_reducible refine (C0.out _ hX3p.out.sc).mono ?_); rintro e w4 ⟨rfl, k_⟩; have hXc := hid_as (hX3p.out.turn (Turn.same k_) (hX3p.out.sc.same k_)))); clear k_; have d1 := hXc.out.sc.c1; have df := hXc.out.sc.fr)
    | (go_at_call 54; (with_reducible refine (NM.out _ hXc.out.sc).mono ?_); rintro e w5 ⟨rfl, s5, t5⟩; have hX5 := hid_as (hXc.out.turn t5 s5); clear s5 t5 d1 df; clear q0 q1 q2 q3 q4 qf ql r0 r1 r2 r3 r4 rf rl; obtain ⟨_, ⟨q0, q1, q2, q3, q4, qf, ql⟩, ⟨r0, r1, r2, r3, r4, rf, rl⟩, _, _, _, _⟩ := hX5.out))
  have hTu := hX5.out.tu
  exact bodyPost_ret (v := .tuple #[.agg #[.int .i64 3, .int .i64 (k : Nat), .int .i64 0, .string ⟨#[]⟩, .int .i64 A], .int .i64 120]) (by simp [results, Tryd.results53, go_sem, r0, r1, r2, r3, r4]) rfl (rt_none (by decide) (by repeat (first | (with_reducible exact hTu) | refine Turn.far ?_ (by omega) _ _)))
set_option maxHeartbeats 400000 in
theorem numKn_hi (s : ByteArray) (g a A : Nat) (k : Nat) (hk0 : 1 ≤ k) (hk9 : k ≤ 10) (hk1 : ¬ k = 1) (W : ByteArray) (w : World) (h : Sc w g s a) (hs : s.size ≤ 65536) (ha : a ≤ s.size) (hT : (W.toList == [84]) = false) (hk : kf W.data.toList = k) (hm : (((chr s a).toNat : Int) == 45) = false) (N Z : Nat) (H : Nat) (hH : ¬ H = 0) (hlo : ¬ (N : Int) < klo k) (hhi : khi k < (N : Int)) (NM : Hid (∀ V, Sc V g s a → Calls Tryd.prog 54 #[.pointer (some ⟨g, 0, none⟩)] V fun e w' => e = .returned (.tuple #[.int .i64 (N : Nat), .int .i64 (H : Nat)]) ∧ Sc w' g s (a + Z) ∧ Turn g V w')) : Calls Tryd.prog 53 #[.pointer (some ⟨g, 0, none⟩), .agg #[.int .i64 0, .int .i64 0, .int .i64 0, .string ⟨#[]⟩, .int .i64 A], .string W] w fun e w' => RT g s A a (none) w e w' := by
  have K : Hid (∀ V, Calls Tryd.prog 24 #[.string W] V fun e w' => e = .returned (.int .i64 (k : Nat)) ∧ Below V.heap.size V w') := fun V => by have q := kind_r W V; rw [hk] at q; exact q
  have C0 : Hid (∀ V, Sc V g s a → Calls Tryd.prog 34 #[.pointer (some ⟨g, 0, none⟩), .int .i64 0] V fun e w' => e = .returned (.int .u8 (chr s a).toNat) ∧ Same V w') := fun V q => c_r s g a 0 V q (by omega) (by omega)
  have RG : Hid (∀ V, Calls Tryd.prog 73 #[.int .i64 (k : Nat)] V fun e w' => e = .returned (.tuple #[.int .i64 (klo k), .int .i64 (khi k)]) ∧ Below V.heap.size V w') := fun V => range_r k (by omega) (by omega) V
  generalize klo k = lo at *
  generalize khi k = hi at *
  have hk1' : ¬ (k : Int) = 1 := by omega
  have hk11' : ¬ (k : Int) = 11 := by omega
  have hH' : ¬ (H : Int) = 0 := by omega
  have hgl := h.lt
  have hX1 := hid_as (ts_typed A h)
  clear hk
  generalize (chr s a).toNat = cc at *
  go_enter Tryd.func53, Tryd.ntmps53
  go_wp2_with (first
    | (go_at_call 24; (with_reducible refine (K.out _).mono ?_); rintro e w3 ⟨rfl, b3⟩; have hX3 := hid_as (hX1.out.below b3); clear b3; have hX3p := hid_as (hX3.out.put01 (by omega) 3 (k : Nat)); obtain ⟨_, ⟨q0, q1, q2, q3, q4, qf, ql⟩, ⟨r0, r1, r2, r3, r4, rf, rl⟩, _, _, _, _⟩ := hX3.out)
    | (go_at_call 34; (first | ((with_reducible refine (C0.out _ hXc.out.sc).mono ?_); rintro e w4 ⟨rfl, k_⟩; replace hXc := hid_as (hXc.out.turn (Turn.same k_) (hXc.out.sc.same k_))) | ((with_reducible refine (C0.out _ hX3p.out.sc).mono ?_); rintro e w4 ⟨rfl, k_⟩; have hXc := hid_as (hX3p.out.turn (Turn.same k_) (hX3p.out.sc.same k_)))); clear k_; have d1 := hXc.out.sc.c1; have df := hXc.out.sc.fr)
    | (go_at_call 54; (with_reducible refine (NM.out _ hXc.out.sc).mono ?_); rintro e w5 ⟨rfl, s5, t5⟩; have hX5 := hid_as (hXc.out.turn t5 s5); clear s5 t5 d1 df)
    | (go_at_call 73; (with_reducible refine (RG.out _).mono ?_); rintro e w6 ⟨rfl, b6⟩; have hX6 := hid_as (hX5.out.below b6); clear b6; clear q0 q1 q2 q3 q4 qf ql r0 r1 r2 r3 r4 rf rl; obtain ⟨_, ⟨q0, q1, q2, q3, q4, qf, ql⟩, ⟨r0, r1, r2, r3, r4, rf, rl⟩, _, _, _, _⟩ := hX6.out))
  have hTu := hX6.out.tu
  exact bodyPost_ret (v := .tuple #[.agg #[.int .i64 3, .int .i64 (k : Nat), .int .i64 0, .string ⟨#[]⟩, .int .i64 A], .int .i64 163]) (by simp [results, Tryd.results53, go_sem, r0, r1, r2, r3, r4]) rfl (rt_none (by decide) (by repeat (first | (with_reducible exact hTu) | refine Turn.far ?_ (by omega) _ _)))
set_option maxHeartbeats 400000 in
theorem numKn_ok (s : ByteArray) (g a A : Nat) (k : Nat) (hk0 : 1 ≤ k) (hk9 : k ≤ 10) (hk1 : ¬ k = 1) (W : ByteArray) (w : World) (h : Sc w g s a) (hs : s.size ≤ 65536) (ha : a ≤ s.size) (hT : (W.toList == [84]) = false) (hk : kf W.data.toList = k) (hm : (((chr s a).toNat : Int) == 45) = false) (N Z : Nat) (H : Nat) (hH : ¬ H = 0) (hlo : ¬ (N : Int) < klo k) (hhi : ¬ khi k < (N : Int)) (NM : Hid (∀ V, Sc V g s a → Calls Tryd.prog 54 #[.pointer (some ⟨g, 0, none⟩)] V fun e w' => e = .returned (.tuple #[.int .i64 (N : Nat), .int .i64 (H : Nat)]) ∧ Sc w' g s (a + Z) ∧ Turn g V w')) : Calls Tryd.prog 53 #[.pointer (some ⟨g, 0, none⟩), .agg #[.int .i64 0, .int .i64 0, .int .i64 0, .string ⟨#[]⟩, .int .i64 A], .string W] w fun e w' => RT g s A a (some (⟨3, k, (N : Int), []⟩, Z)) w e w' := by
  have K : Hid (∀ V, Calls Tryd.prog 24 #[.string W] V fun e w' => e = .returned (.int .i64 (k : Nat)) ∧ Below V.heap.size V w') := fun V => by have q := kind_r W V; rw [hk] at q; exact q
  have C0 : Hid (∀ V, Sc V g s a → Calls Tryd.prog 34 #[.pointer (some ⟨g, 0, none⟩), .int .i64 0] V fun e w' => e = .returned (.int .u8 (chr s a).toNat) ∧ Same V w') := fun V q => c_r s g a 0 V q (by omega) (by omega)
  have RG : Hid (∀ V, Calls Tryd.prog 73 #[.int .i64 (k : Nat)] V fun e w' => e = .returned (.tuple #[.int .i64 (klo k), .int .i64 (khi k)]) ∧ Below V.heap.size V w') := fun V => range_r k (by omega) (by omega) V
  generalize klo k = lo at *
  generalize khi k = hi at *
  have hk1' : ¬ (k : Int) = 1 := by omega
  have hk11' : ¬ (k : Int) = 11 := by omega
  have hH' : ¬ (H : Int) = 0 := by omega
  have hgl := h.lt
  have hX1 := hid_as (ts_typed A h)
  clear hk
  generalize (chr s a).toNat = cc at *
  go_enter Tryd.func53, Tryd.ntmps53
  go_wp2_with (first
    | (go_at_call 24; (with_reducible refine (K.out _).mono ?_); rintro e w3 ⟨rfl, b3⟩; have hX3 := hid_as (hX1.out.below b3); clear b3; have hX3p := hid_as (hX3.out.put01 (by omega) 3 (k : Nat)); obtain ⟨_, ⟨q0, q1, q2, q3, q4, qf, ql⟩, ⟨r0, r1, r2, r3, r4, rf, rl⟩, _, _, _, _⟩ := hX3.out)
    | (go_at_call 34; (first | ((with_reducible refine (C0.out _ hXc.out.sc).mono ?_); rintro e w4 ⟨rfl, k_⟩; replace hXc := hid_as (hXc.out.turn (Turn.same k_) (hXc.out.sc.same k_))) | ((with_reducible refine (C0.out _ hX3p.out.sc).mono ?_); rintro e w4 ⟨rfl, k_⟩; have hXc := hid_as (hX3p.out.turn (Turn.same k_) (hX3p.out.sc.same k_)))); clear k_; have d1 := hXc.out.sc.c1; have df := hXc.out.sc.fr)
    | (go_at_call 54; (with_reducible refine (NM.out _ hXc.out.sc).mono ?_); rintro e w5 ⟨rfl, s5, t5⟩; have hX5 := hid_as (hXc.out.turn t5 s5); clear s5 t5 d1 df)
    | (go_at_call 73; (with_reducible refine (RG.out _).mono ?_); rintro e w6 ⟨rfl, b6⟩; have hX6 := hid_as (hX5.out.below b6); clear b6; clear q0 q1 q2 q3 q4 qf ql r0 r1 r2 r3 r4 rf rl; obtain ⟨_, ⟨q0, q1, q2, q3, q4, qf, ql⟩, ⟨r0, r1, r2, r3, r4, rf, rl⟩, _, _, _, _⟩ := hX6.out))
  have hTu := hX6.out.tu
  have hSc := hX6.out.sc
  exact bodyPost_ret (v := .tuple #[tv ⟨3, k, (N : Int), []⟩ A, .int .i64 0]) (by simp [results, Tryd.results53, go_sem, tv, tx, r0, r1, r2, r3, r4]) rfl (rt_some (by repeat (first | (with_reducible exact hTu) | refine Turn.far ?_ (by omega) _ _)) (by repeat (first | (with_reducible exact hSc) | refine Sc.far ?_ (by omega) _ _)))
open Go.RowKit
open Adr Lx
set_option maxHeartbeats 400000 in
theorem numKu_none (s : ByteArray) (g a A : Nat) (k : Nat) (hk0 : 1 ≤ k) (hk9 : k ≤ 10) (hk1 : ¬ k = 1) (W : ByteArray) (w : World) (h : Sc w g s a) (hs : s.size ≤ 65536) (ha : a ≤ s.size) (hT : (W.toList == [84]) = false) (hk : kf W.data.toList = k) (hm : (((chr s a).toNat : Int) == 45) = true) (hsg : ¬ klo k < 0) (N Z : Nat) (NM : Hid (∀ V, Sc V g s a → Calls Tryd.prog 54 #[.pointer (some ⟨g, 0, none⟩)] V fun e w' => e = .returned (.tuple #[.int .i64 (N : Nat), .int .i64 0]) ∧ Sc w' g s (a + Z) ∧ Turn g V w')) : Calls Tryd.prog 53 #[.pointer (some ⟨g, 0, none⟩), .agg #[.int .i64 0, .int .i64 0, .int .i64 0, .string ⟨#[]⟩, .int .i64 A], .string W] w fun e w' => RT g s A a (none) w e w' := by
  have K : Hid (∀ V, Calls Tryd.prog 24 #[.string W] V fun e w' => e = .returned (.int .i64 (k : Nat)) ∧ Below V.heap.size V w') := fun V => by have q := kind_r W V; rw [hk] at q; exact q
  have C0 : Hid (∀ V, Sc V g s a → Calls Tryd.prog 34 #[.pointer (some ⟨g, 0, none⟩), .int .i64 0] V fun e w' => e = .returned (.int .u8 (chr s a).toNat) ∧ Same V w') := fun V q => c_r s g a 0 V q (by omega) (by omega)
  have SG : Hid (∀ V, Calls Tryd.prog 71 #[.int .i64 (k : Nat)] V fun e w' => e = .returned (.bool false) ∧ w' = V) := fun V => by have q := signed_r k (by omega) (by omega) V; rw [decide_eq_false (hsg)] at q; exact q
  have hk1' : ¬ (k : Int) = 1 := by omega
  have hk11' : ¬ (k : Int) = 11 := by omega
  have hgl := h.lt
  have hX1 := hid_as (ts_typed A h)
  clear hk
  generalize (chr s a).toNat = cc at *
  go_enter Tryd.func53, Tryd.ntmps53
  go_wp2_with (first
    | (go_at_call 24; (with_reducible refine (K.out _).mono ?_); rintro e w3 ⟨rfl, b3⟩; have hX3 := hid_as (hX1.out.below b3); clear b3; have hX3p := hid_as (hX3.out.put01 (by omega) 3 (k : Nat)); obtain ⟨_, ⟨q0, q1, q2, q3, q4, qf, ql⟩, ⟨r0, r1, r2, r3, r4, rf, rl⟩, _, _, _, _⟩ := hX3.out)
    | (go_at_call 34; (first | ((with_reducible refine (C0.out _ hXc.out.sc).mono ?_); rintro e w4 ⟨rfl, k_⟩; replace hXc := hid_as (hXc.out.turn (Turn.same k_) (hXc.out.sc.same k_))) | ((with_reducible refine (C0.out _ hX3p.out.sc).mono ?_); rintro e w4 ⟨rfl, k_⟩; have hXc := hid_as (hX3p.out.turn (Turn.same k_) (hX3p.out.sc.same k_)))); clear k_; have d1 := hXc.out.sc.c1; have df := hXc.out.sc.fr)
    | (go_at_call 71; (with_reducible refine (SG.out _).mono ?_); rintro e w' ⟨rfl, hw⟩; subst w')
    | (go_at_call 54; (with_reducible refine (NM.out _ hXc.out.sc).mono ?_); rintro e w5 ⟨rfl, s5, t5⟩; have hX5 := hid_as (hXc.out.turn t5 s5); clear s5 t5 d1 df; clear q0 q1 q2 q3 q4 qf ql r0 r1 r2 r3 r4 rf rl; obtain ⟨_, ⟨q0, q1, q2, q3, q4, qf, ql⟩, ⟨r0, r1, r2, r3, r4, rf, rl⟩, _, _, _, _⟩ := hX5.out))
  have hTu := hX5.out.tu
  exact bodyPost_ret (v := .tuple #[.agg #[.int .i64 3, .int .i64 (k : Nat), .int .i64 0, .string ⟨#[]⟩, .int .i64 A], .int .i64 120]) (by simp [results, Tryd.results53, go_sem, r0, r1, r2, r3, r4]) rfl (rt_none (by decide) (by repeat (first | (with_reducible exact hTu) | refine Turn.far ?_ (by omega) _ _)))
set_option maxHeartbeats 400000 in
theorem numKu_hi (s : ByteArray) (g a A : Nat) (k : Nat) (hk0 : 1 ≤ k) (hk9 : k ≤ 10) (hk1 : ¬ k = 1) (W : ByteArray) (w : World) (h : Sc w g s a) (hs : s.size ≤ 65536) (ha : a ≤ s.size) (hT : (W.toList == [84]) = false) (hk : kf W.data.toList = k) (hm : (((chr s a).toNat : Int) == 45) = true) (hsg : ¬ klo k < 0) (N Z : Nat) (H : Nat) (hH : ¬ H = 0) (hlo : ¬ (N : Int) < klo k) (hhi : khi k < (N : Int)) (NM : Hid (∀ V, Sc V g s a → Calls Tryd.prog 54 #[.pointer (some ⟨g, 0, none⟩)] V fun e w' => e = .returned (.tuple #[.int .i64 (N : Nat), .int .i64 (H : Nat)]) ∧ Sc w' g s (a + Z) ∧ Turn g V w')) : Calls Tryd.prog 53 #[.pointer (some ⟨g, 0, none⟩), .agg #[.int .i64 0, .int .i64 0, .int .i64 0, .string ⟨#[]⟩, .int .i64 A], .string W] w fun e w' => RT g s A a (none) w e w' := by
  have K : Hid (∀ V, Calls Tryd.prog 24 #[.string W] V fun e w' => e = .returned (.int .i64 (k : Nat)) ∧ Below V.heap.size V w') := fun V => by have q := kind_r W V; rw [hk] at q; exact q
  have C0 : Hid (∀ V, Sc V g s a → Calls Tryd.prog 34 #[.pointer (some ⟨g, 0, none⟩), .int .i64 0] V fun e w' => e = .returned (.int .u8 (chr s a).toNat) ∧ Same V w') := fun V q => c_r s g a 0 V q (by omega) (by omega)
  have SG : Hid (∀ V, Calls Tryd.prog 71 #[.int .i64 (k : Nat)] V fun e w' => e = .returned (.bool false) ∧ w' = V) := fun V => by have q := signed_r k (by omega) (by omega) V; rw [decide_eq_false (hsg)] at q; exact q
  have RG : Hid (∀ V, Calls Tryd.prog 73 #[.int .i64 (k : Nat)] V fun e w' => e = .returned (.tuple #[.int .i64 (klo k), .int .i64 (khi k)]) ∧ Below V.heap.size V w') := fun V => range_r k (by omega) (by omega) V
  clear hsg
  generalize klo k = lo at *
  generalize khi k = hi at *
  have hk1' : ¬ (k : Int) = 1 := by omega
  have hk11' : ¬ (k : Int) = 11 := by omega
  have hH' : ¬ (H : Int) = 0 := by omega
  have hgl := h.lt
  have hX1 := hid_as (ts_typed A h)
  clear hk
  generalize (chr s a).toNat = cc at *
  go_enter Tryd.func53, Tryd.ntmps53
  go_wp2_with (first
    | (go_at_call 24; (with_reducible refine (K.out _).mono ?_); rintro e w3 ⟨rfl, b3⟩; have hX3 := hid_as (hX1.out.below b3); clear b3; have hX3p := hid_as (hX3.out.put01 (by omega) 3 (k : Nat)); obtain ⟨_, ⟨q0, q1, q2, q3, q4, qf, ql⟩, ⟨r0, r1, r2, r3, r4, rf, rl⟩, _, _, _, _⟩ := hX3.out)
    | (go_at_call 34; (first | ((with_reducible refine (C0.out _ hXc.out.sc).mono ?_); rintro e w4 ⟨rfl, k_⟩; replace hXc := hid_as (hXc.out.turn (Turn.same k_) (hXc.out.sc.same k_))) | ((with_reducible refine (C0.out _ hX3p.out.sc).mono ?_); rintro e w4 ⟨rfl, k_⟩; have hXc := hid_as (hX3p.out.turn (Turn.same k_) (hX3p.out.sc.same k_)))); clear k_; have d1 := hXc.out.sc.c1; have df := hXc.out.sc.fr)
    | (go_at_call 71; (with_reducible refine (SG.out _).mono ?_); rintro e w' ⟨rfl, hw⟩; subst w')
    | (go_at_call 54; (with_reducible refine (NM.out _ hXc.out.sc).mono ?_); rintro e w5 ⟨rfl, s5, t5⟩; have hX5 := hid_as (hXc.out.turn t5 s5); clear s5 t5 d1 df)
    | (go_at_call 73; (with_reducible refine (RG.out _).mono ?_); rintro e w6 ⟨rfl, b6⟩; have hX6 := hid_as (hX5.out.below b6); clear b6; clear q0 q1 q2 q3 q4 qf ql r0 r1 r2 r3 r4 rf rl; obtain ⟨_, ⟨q0, q1, q2, q3, q4, qf, ql⟩, ⟨r0, r1, r2, r3, r4, rf, rl⟩, _, _, _, _⟩ := hX6.out))
  have hTu := hX6.out.tu
  exact bodyPost_ret (v := .tuple #[.agg #[.int .i64 3, .int .i64 (k : Nat), .int .i64 0, .string ⟨#[]⟩, .int .i64 A], .int .i64 163]) (by simp [results, Tryd.results53, go_sem, r0, r1, r2, r3, r4]) rfl (rt_none (by decide) (by repeat (first | (with_reducible exact hTu) | refine Turn.far ?_ (by omega) _ _)))
set_option maxHeartbeats 400000 in
theorem numKu_ok (s : ByteArray) (g a A : Nat) (k : Nat) (hk0 : 1 ≤ k) (hk9 : k ≤ 10) (hk1 : ¬ k = 1) (W : ByteArray) (w : World) (h : Sc w g s a) (hs : s.size ≤ 65536) (ha : a ≤ s.size) (hT : (W.toList == [84]) = false) (hk : kf W.data.toList = k) (hm : (((chr s a).toNat : Int) == 45) = true) (hsg : ¬ klo k < 0) (N Z : Nat) (H : Nat) (hH : ¬ H = 0) (hlo : ¬ (N : Int) < klo k) (hhi : ¬ khi k < (N : Int)) (NM : Hid (∀ V, Sc V g s a → Calls Tryd.prog 54 #[.pointer (some ⟨g, 0, none⟩)] V fun e w' => e = .returned (.tuple #[.int .i64 (N : Nat), .int .i64 (H : Nat)]) ∧ Sc w' g s (a + Z) ∧ Turn g V w')) : Calls Tryd.prog 53 #[.pointer (some ⟨g, 0, none⟩), .agg #[.int .i64 0, .int .i64 0, .int .i64 0, .string ⟨#[]⟩, .int .i64 A], .string W] w fun e w' => RT g s A a (some (⟨3, k, (N : Int), []⟩, Z)) w e w' := by
  have K : Hid (∀ V, Calls Tryd.prog 24 #[.string W] V fun e w' => e = .returned (.int .i64 (k : Nat)) ∧ Below V.heap.size V w') := fun V => by have q := kind_r W V; rw [hk] at q; exact q
  have C0 : Hid (∀ V, Sc V g s a → Calls Tryd.prog 34 #[.pointer (some ⟨g, 0, none⟩), .int .i64 0] V fun e w' => e = .returned (.int .u8 (chr s a).toNat) ∧ Same V w') := fun V q => c_r s g a 0 V q (by omega) (by omega)
  have SG : Hid (∀ V, Calls Tryd.prog 71 #[.int .i64 (k : Nat)] V fun e w' => e = .returned (.bool false) ∧ w' = V) := fun V => by have q := signed_r k (by omega) (by omega) V; rw [decide_eq_false (hsg)] at q; exact q
  have RG : Hid (∀ V, Calls Tryd.prog 73 #[.int .i64 (k : Nat)] V fun e w' => e = .returned (.tuple #[.int .i64 (klo k), .int .i64 (khi k)]) ∧ Below V.heap.size V w') := fun V => range_r k (by omega) (by omega) V
  clear hsg
  generalize klo k = lo at *
  generalize khi k = hi at *
  have hk1' : ¬ (k : Int) = 1 := by omega
  have hk11' : ¬ (k : Int) = 11 := by omega
  have hH' : ¬ (H : Int) = 0 := by omega
  have hgl := h.lt
  have hX1 := hid_as (ts_typed A h)
  clear hk
  generalize (chr s a).toNat = cc at *
  go_enter Tryd.func53, Tryd.ntmps53
  go_wp2_with (first
    | (go_at_call 24; (with_reducible refine (K.out _).mono ?_); rintro e w3 ⟨rfl, b3⟩; have hX3 := hid_as (hX1.out.below b3); clear b3; have hX3p := hid_as (hX3.out.put01 (by omega) 3 (k : Nat)); obtain ⟨_, ⟨q0, q1, q2, q3, q4, qf, ql⟩, ⟨r0, r1, r2, r3, r4, rf, rl⟩, _, _, _, _⟩ := hX3.out)
    | (go_at_call 34; (first | ((with_reducible refine (C0.out _ hXc.out.sc).mono ?_); rintro e w4 ⟨rfl, k_⟩; replace hXc := hid_as (hXc.out.turn (Turn.same k_) (hXc.out.sc.same k_))) | ((with_reducible refine (C0.out _ hX3p.out.sc).mono ?_); rintro e w4 ⟨rfl, k_⟩; have hXc := hid_as (hX3p.out.turn (Turn.same k_) (hX3p.out.sc.same k_)))); clear k_; have d1 := hXc.out.sc.c1; have df := hXc.out.sc.fr)
    | (go_at_call 71; (with_reducible refine (SG.out _).mono ?_); rintro e w' ⟨rfl, hw⟩; subst w')
    | (go_at_call 54; (with_reducible refine (NM.out _ hXc.out.sc).mono ?_); rintro e w5 ⟨rfl, s5, t5⟩; have hX5 := hid_as (hXc.out.turn t5 s5); clear s5 t5 d1 df)
    | (go_at_call 73; (with_reducible refine (RG.out _).mono ?_); rintro e w6 ⟨rfl, b6⟩; have hX6 := hid_as (hX5.out.below b6); clear b6; clear q0 q1 q2 q3 q4 qf ql r0 r1 r2 r3 r4 rf rl; obtain ⟨_, ⟨q0, q1, q2, q3, q4, qf, ql⟩, ⟨r0, r1, r2, r3, r4, rf, rl⟩, _, _, _, _⟩ := hX6.out))
  have hTu := hX6.out.tu
  have hSc := hX6.out.sc
  exact bodyPost_ret (v := .tuple #[tv ⟨3, k, (N : Int), []⟩ A, .int .i64 0]) (by simp [results, Tryd.results53, go_sem, tv, tx, r0, r1, r2, r3, r4]) rfl (rt_some (by repeat (first | (with_reducible exact hTu) | refine Turn.far ?_ (by omega) _ _)) (by repeat (first | (with_reducible exact hSc) | refine Sc.far ?_ (by omega) _ _)))
open Go.RowKit
open Adr Lx
set_option maxHeartbeats 400000 in
theorem numKs_none (s : ByteArray) (g a A : Nat) (k : Nat) (hk0 : 1 ≤ k) (hk9 : k ≤ 10) (hk1 : ¬ k = 1) (W : ByteArray) (w : World) (h : Sc w g s a) (hs : s.size ≤ 65536) (ha : a ≤ s.size) (hT : (W.toList == [84]) = false) (hk : kf W.data.toList = k) (hm : (((chr s a).toNat : Int) == 45) = true) (hsg : klo k < 0) (N Z : Nat) (hN : N ≤ 1099511627776) (NM : Hid (∀ V, Sc V g s (a + 1) → Calls Tryd.prog 72 #[.pointer (some ⟨g, 0, none⟩), .int .i64 10] V fun e w' => e = .returned (.tuple #[.int .i64 (N : Nat), .bool false]) ∧ Sc w' g s (a + 1 + Z) ∧ Turn g V w')) : Calls Tryd.prog 53 #[.pointer (some ⟨g, 0, none⟩), .agg #[.int .i64 0, .int .i64 0, .int .i64 0, .string ⟨#[]⟩, .int .i64 A], .string W] w fun e w' => RT g s A a (none) w e w' := by
  have K : Hid (∀ V, Calls Tryd.prog 24 #[.string W] V fun e w' => e = .returned (.int .i64 (k : Nat)) ∧ Below V.heap.size V w') := fun V => by have q := kind_r W V; rw [hk] at q; exact q
  have C0 : Hid (∀ V, Sc V g s a → Calls Tryd.prog 34 #[.pointer (some ⟨g, 0, none⟩), .int .i64 0] V fun e w' => e = .returned (.int .u8 (chr s a).toNat) ∧ Same V w') := fun V q => c_r s g a 0 V q (by omega) (by omega)
  have SG : Hid (∀ V, Calls Tryd.prog 71 #[.int .i64 (k : Nat)] V fun e w' => e = .returned (.bool true) ∧ w' = V) := fun V => by have q := signed_r k (by omega) (by omega) V; rw [decide_eq_true (hsg)] at q; exact q
  have hk1' : ¬ (k : Int) = 1 := by omega
  have hk11' : ¬ (k : Int) = 11 := by omega
  have hgl := h.lt
  have hX1 := hid_as (ts_typed A h)
  clear hk
  generalize (chr s a).toNat = cc at *
  go_enter Tryd.func53, Tryd.ntmps53
  go_wp2_with (first
    | (go_at_call 24; (with_reducible refine (K.out _).mono ?_); rintro e w3 ⟨rfl, b3⟩; have hX3 := hid_as (hX1.out.below b3); clear b3; have hX3p := hid_as (hX3.out.put01 (by omega) 3 (k : Nat)); obtain ⟨_, ⟨q0, q1, q2, q3, q4, qf, ql⟩, ⟨r0, r1, r2, r3, r4, rf, rl⟩, _, _, _, _⟩ := hX3.out)
    | (go_at_call 34; (first | ((with_reducible refine (C0.out _ hXc.out.sc).mono ?_); rintro e w4 ⟨rfl, k_⟩; replace hXc := hid_as (hXc.out.turn (Turn.same k_) (hXc.out.sc.same k_))) | ((with_reducible refine (C0.out _ hX3p.out.sc).mono ?_); rintro e w4 ⟨rfl, k_⟩; have hXc := hid_as (hX3p.out.turn (Turn.same k_) (hX3p.out.sc.same k_)))); clear k_; have d1 := hXc.out.sc.c1; have df := hXc.out.sc.fr)
    | (go_at_call 71; (with_reducible refine (SG.out _).mono ?_); rintro e w' ⟨rfl, hw⟩; subst w')
    | (go_at_call 72; (with_reducible refine (NM.out _ hXc.out.step.sc).mono ?_); rintro e w5 ⟨rfl, s5, t5⟩; have hX5 := hid_as (hXc.out.step.turn t5 s5); clear s5 t5 d1 df; clear q0 q1 q2 q3 q4 qf ql r0 r1 r2 r3 r4 rf rl; obtain ⟨_, ⟨q0, q1, q2, q3, q4, qf, ql⟩, ⟨r0, r1, r2, r3, r4, rf, rl⟩, _, _, _, _⟩ := hX5.out))
  have hTu := hX5.out.tu
  exact bodyPost_ret (v := .tuple #[.agg #[.int .i64 3, .int .i64 (k : Nat), .int .i64 0, .string ⟨#[]⟩, .int .i64 A], .int .i64 120]) (by simp [results, Tryd.results53, go_sem, r0, r1, r2, r3, r4]) rfl (rt_none (by decide) (by repeat (first | (with_reducible exact hTu) | refine Turn.far ?_ (by omega) _ _)))
set_option maxHeartbeats 400000 in
theorem numKs_lo (s : ByteArray) (g a A : Nat) (k : Nat) (hk0 : 1 ≤ k) (hk9 : k ≤ 10) (hk1 : ¬ k = 1) (W : ByteArray) (w : World) (h : Sc w g s a) (hs : s.size ≤ 65536) (ha : a ≤ s.size) (hT : (W.toList == [84]) = false) (hk : kf W.data.toList = k) (hm : (((chr s a).toNat : Int) == 45) = true) (hsg : klo k < 0) (N Z : Nat) (hN : N ≤ 1099511627776) (hlo : -(N : Int) < klo k) (NM : Hid (∀ V, Sc V g s (a + 1) → Calls Tryd.prog 72 #[.pointer (some ⟨g, 0, none⟩), .int .i64 10] V fun e w' => e = .returned (.tuple #[.int .i64 (N : Nat), .bool true]) ∧ Sc w' g s (a + 1 + Z) ∧ Turn g V w')) : Calls Tryd.prog 53 #[.pointer (some ⟨g, 0, none⟩), .agg #[.int .i64 0, .int .i64 0, .int .i64 0, .string ⟨#[]⟩, .int .i64 A], .string W] w fun e w' => RT g s A a (none) w e w' := by
  have K : Hid (∀ V, Calls Tryd.prog 24 #[.string W] V fun e w' => e = .returned (.int .i64 (k : Nat)) ∧ Below V.heap.size V w') := fun V => by have q := kind_r W V; rw [hk] at q; exact q
  have C0 : Hid (∀ V, Sc V g s a → Calls Tryd.prog 34 #[.pointer (some ⟨g, 0, none⟩), .int .i64 0] V fun e w' => e = .returned (.int .u8 (chr s a).toNat) ∧ Same V w') := fun V q => c_r s g a 0 V q (by omega) (by omega)
  have SG : Hid (∀ V, Calls Tryd.prog 71 #[.int .i64 (k : Nat)] V fun e w' => e = .returned (.bool true) ∧ w' = V) := fun V => by have q := signed_r k (by omega) (by omega) V; rw [decide_eq_true (hsg)] at q; exact q
  have RG : Hid (∀ V, Calls Tryd.prog 73 #[.int .i64 (k : Nat)] V fun e w' => e = .returned (.tuple #[.int .i64 (klo k), .int .i64 (khi k)]) ∧ Below V.heap.size V w') := fun V => range_r k (by omega) (by omega) V
  clear hsg
  generalize klo k = lo at *
  generalize khi k = hi at *
  have hk1' : ¬ (k : Int) = 1 := by omega
  have hk11' : ¬ (k : Int) = 11 := by omega
  have hgl := h.lt
  have hX1 := hid_as (ts_typed A h)
  clear hk
  generalize (chr s a).toNat = cc at *
  go_enter Tryd.func53, Tryd.ntmps53
  go_wp2_with (first
    | (go_at_call 24; (with_reducible refine (K.out _).mono ?_); rintro e w3 ⟨rfl, b3⟩; have hX3 := hid_as (hX1.out.below b3); clear b3; have hX3p := hid_as (hX3.out.put01 (by omega) 3 (k : Nat)); obtain ⟨_, ⟨q0, q1, q2, q3, q4, qf, ql⟩, ⟨r0, r1, r2, r3, r4, rf, rl⟩, _, _, _, _⟩ := hX3.out)
    | (go_at_call 34; (first | ((with_reducible refine (C0.out _ hXc.out.sc).mono ?_); rintro e w4 ⟨rfl, k_⟩; replace hXc := hid_as (hXc.out.turn (Turn.same k_) (hXc.out.sc.same k_))) | ((with_reducible refine (C0.out _ hX3p.out.sc).mono ?_); rintro e w4 ⟨rfl, k_⟩; have hXc := hid_as (hX3p.out.turn (Turn.same k_) (hX3p.out.sc.same k_)))); clear k_; have d1 := hXc.out.sc.c1; have df := hXc.out.sc.fr)
    | (go_at_call 71; (with_reducible refine (SG.out _).mono ?_); rintro e w' ⟨rfl, hw⟩; subst w')
    | (go_at_call 72; (with_reducible refine (NM.out _ hXc.out.step.sc).mono ?_); rintro e w5 ⟨rfl, s5, t5⟩; have hX5 := hid_as (hXc.out.step.turn t5 s5); clear s5 t5 d1 df)
    | (go_at_call 73; (with_reducible refine (RG.out _).mono ?_); rintro e w6 ⟨rfl, b6⟩; have hX6 := hid_as (hX5.out.below b6); clear b6; clear q0 q1 q2 q3 q4 qf ql r0 r1 r2 r3 r4 rf rl; obtain ⟨_, ⟨q0, q1, q2, q3, q4, qf, ql⟩, ⟨r0, r1, r2, r3, r4, rf, rl⟩, _, _, _, _⟩ := hX6.out))
  have hTu := hX6.out.tu
  exact bodyPost_ret (v := .tuple #[.agg #[.int .i64 3, .int .i64 (k : Nat), .int .i64 0, .string ⟨#[]⟩, .int .i64 A], .int .i64 163]) (by simp [results, Tryd.results53, go_sem, r0, r1, r2, r3, r4]) rfl (rt_none (by decide) (by repeat (first | (with_reducible exact hTu) | refine Turn.far ?_ (by omega) _ _)))
set_option maxHeartbeats 400000 in
theorem numKs_ok (s : ByteArray) (g a A : Nat) (k : Nat) (hk0 : 1 ≤ k) (hk9 : k ≤ 10) (hk1 : ¬ k = 1) (W : ByteArray) (w : World) (h : Sc w g s a) (hs : s.size ≤ 65536) (ha : a ≤ s.size) (hT : (W.toList == [84]) = false) (hk : kf W.data.toList = k) (hm : (((chr s a).toNat : Int) == 45) = true) (hsg : klo k < 0) (N Z : Nat) (hN : N ≤ 1099511627776) (hlo : ¬ -(N : Int) < klo k) (hhi : ¬ khi k < -(N : Int)) (NM : Hid (∀ V, Sc V g s (a + 1) → Calls Tryd.prog 72 #[.pointer (some ⟨g, 0, none⟩), .int .i64 10] V fun e w' => e = .returned (.tuple #[.int .i64 (N : Nat), .bool true]) ∧ Sc w' g s (a + 1 + Z) ∧ Turn g V w')) : Calls Tryd.prog 53 #[.pointer (some ⟨g, 0, none⟩), .agg #[.int .i64 0, .int .i64 0, .int .i64 0, .string ⟨#[]⟩, .int .i64 A], .string W] w fun e w' => RT g s A a (some (⟨3, k, -(N : Int), []⟩, 1 + Z)) w e w' := by
  have K : Hid (∀ V, Calls Tryd.prog 24 #[.string W] V fun e w' => e = .returned (.int .i64 (k : Nat)) ∧ Below V.heap.size V w') := fun V => by have q := kind_r W V; rw [hk] at q; exact q
  have C0 : Hid (∀ V, Sc V g s a → Calls Tryd.prog 34 #[.pointer (some ⟨g, 0, none⟩), .int .i64 0] V fun e w' => e = .returned (.int .u8 (chr s a).toNat) ∧ Same V w') := fun V q => c_r s g a 0 V q (by omega) (by omega)
  have SG : Hid (∀ V, Calls Tryd.prog 71 #[.int .i64 (k : Nat)] V fun e w' => e = .returned (.bool true) ∧ w' = V) := fun V => by have q := signed_r k (by omega) (by omega) V; rw [decide_eq_true (hsg)] at q; exact q
  have RG : Hid (∀ V, Calls Tryd.prog 73 #[.int .i64 (k : Nat)] V fun e w' => e = .returned (.tuple #[.int .i64 (klo k), .int .i64 (khi k)]) ∧ Below V.heap.size V w') := fun V => range_r k (by omega) (by omega) V
  clear hsg
  generalize klo k = lo at *
  generalize khi k = hi at *
  have hk1' : ¬ (k : Int) = 1 := by omega
  have hk11' : ¬ (k : Int) = 11 := by omega
  have hgl := h.lt
  have hX1 := hid_as (ts_typed A h)
  clear hk
  generalize (chr s a).toNat = cc at *
  go_enter Tryd.func53, Tryd.ntmps53
  go_wp2_with (first
    | (go_at_call 24; (with_reducible refine (K.out _).mono ?_); rintro e w3 ⟨rfl, b3⟩; have hX3 := hid_as (hX1.out.below b3); clear b3; have hX3p := hid_as (hX3.out.put01 (by omega) 3 (k : Nat)); obtain ⟨_, ⟨q0, q1, q2, q3, q4, qf, ql⟩, ⟨r0, r1, r2, r3, r4, rf, rl⟩, _, _, _, _⟩ := hX3.out)
    | (go_at_call 34; (first | ((with_reducible refine (C0.out _ hXc.out.sc).mono ?_); rintro e w4 ⟨rfl, k_⟩; replace hXc := hid_as (hXc.out.turn (Turn.same k_) (hXc.out.sc.same k_))) | ((with_reducible refine (C0.out _ hX3p.out.sc).mono ?_); rintro e w4 ⟨rfl, k_⟩; have hXc := hid_as (hX3p.out.turn (Turn.same k_) (hX3p.out.sc.same k_)))); clear k_; have d1 := hXc.out.sc.c1; have df := hXc.out.sc.fr)
    | (go_at_call 71; (with_reducible refine (SG.out _).mono ?_); rintro e w' ⟨rfl, hw⟩; subst w')
    | (go_at_call 72; (with_reducible refine (NM.out _ hXc.out.step.sc).mono ?_); rintro e w5 ⟨rfl, s5, t5⟩; have hX5 := hid_as (hXc.out.step.turn t5 s5); clear s5 t5 d1 df)
    | (go_at_call 73; (with_reducible refine (RG.out _).mono ?_); rintro e w6 ⟨rfl, b6⟩; have hX6 := hid_as (hX5.out.below b6); clear b6; clear q0 q1 q2 q3 q4 qf ql r0 r1 r2 r3 r4 rf rl; obtain ⟨_, ⟨q0, q1, q2, q3, q4, qf, ql⟩, ⟨r0, r1, r2, r3, r4, rf, rl⟩, _, _, _, _⟩ := hX6.out))
  have hTu := hX6.out.tu
  have hSc := hX6.out.sc
  rw [Nat.add_assoc] at hSc
  exact bodyPost_ret (v := .tuple #[tv ⟨3, k, -(N : Int), []⟩ A, .int .i64 0]) (by simp [results, Tryd.results53, go_sem, tv, tx, r0, r1, r2, r3, r4]) rfl (rt_some (by repeat (first | (with_reducible exact hTu) | refine Turn.far ?_ (by omega) _ _)) (by repeat (first | (with_reducible exact hSc) | refine Sc.far ?_ (by omega) _ _)))
end Go.Proofs.YtnponognncdkcaaDoor
