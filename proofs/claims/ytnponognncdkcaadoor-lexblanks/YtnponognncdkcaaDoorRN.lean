/- The reference's token, walked: numbers (stage 12). -/
import Derived.Test.YtnponognncdkcaaDoorJ3
namespace Go.Proofs.YtnponognncdkcaaDoor
open Go.RowKit
open Adr Lx
theorem ts_token {w : World} {g : Nat} {s : ByteArray} {a : Nat} (h : Sc w g s a) : TS w ((w.alloc (.cells #[.int .i64 0, .int .i64 0, .int .i64 0, .string ⟨#[]⟩, .int .i64 0] 31)).alloc (.cells #[.int .i64 0, .int .i64 0, .int .i64 0, .string ⟨#[]⟩, .int .i64 (a : Nat)] 31)) g s (w.heap.size + 1) w.heap.size a 0 0 0 ⟨#[]⟩ (a : Nat) := by
  have k1 := below_new1 w (.cells #[.int .i64 0, .int .i64 0, .int .i64 0, .string ⟨#[]⟩, .int .i64 0] 31)
  have t1 := tb_new w 0 0 0 0 ⟨#[]⟩
  have s1 := h.below k1
  have hz : (w.alloc (.cells #[.int .i64 0, .int .i64 0, .int .i64 0, .string ⟨#[]⟩, .int .i64 0] 31)).heap.size = w.heap.size + 1 := by simp
  generalize w.alloc (.cells #[.int .i64 0, .int .i64 0, .int .i64 0, .string ⟨#[]⟩, .int .i64 0] 31) = W1 at *
  have k2 := below_new1 W1 (.cells #[.int .i64 0, .int .i64 0, .int .i64 0, .string ⟨#[]⟩, .int .i64 (a : Nat)] 31)
  have t2 := tb_new W1 0 0 0 (a : Nat) ⟨#[]⟩
  rw [hz] at t2
  have hg := h.lt
  exact ⟨s1.below k2, t2, t1.turn (Turn.ofBelow (g := g) k2) (by omega), (Turn.ofBelow (g := g) k1).trans (Turn.ofBelow k2), hg, Nat.le_succ _, Nat.le_refl _⟩
set_option maxHeartbeats 800000 in
set_option maxRecDepth 100000 in
theorem tokD_none (s : ByteArray) (g a : Nat) (w : World) (h : Sc w g s a) (ha : a < s.size) (hs : s.size ≤ 65536) (hl : isL (chr s a) = false) (hd : dgt (chr s a) = true) (N Z : Nat) (NM : Hid (∀ V, Sc V g s a → Calls Tryd.prog 54 #[.pointer (some ⟨g, 0, none⟩)] V fun e w' => e = .returned (.tuple #[.int .i64 (N : Nat), .int .i64 0]) ∧ Sc w' g s (a + Z) ∧ Turn g V w')) : Calls Tryd.prog 35 #[.pointer (some ⟨g, 0, none⟩)] w fun e w' => RT g s a a (none) w e w' := by
  have C0 : Hid (∀ V, Sc V g s a → Calls Tryd.prog 34 #[.pointer (some ⟨g, 0, none⟩), .int .i64 0] V fun e w' => e = .returned (.int .u8 (chr s a).toNat) ∧ Same V w') := fun V q => c_r s g a 0 V q (by omega) (by omega)
  have L : Hid (∀ V, Calls Tryd.prog 51 #[.int .u8 (chr s a).toNat] V fun e w' => e = .returned (.bool false) ∧ w' = V) := fun V => by have q := rletter_c (chr s a) V; rw [hl] at q; exact q
  have DG : Hid (∀ V, Calls Tryd.prog 52 #[.int .u8 (chr s a).toNat] V fun e w' => e = .returned (.bool true) ∧ w' = V) := fun V => by have q := rdigit_c (chr s a) V; rw [hd] at q; exact q
  have hgl := h.lt
  have f0 := h.c0
  have f1 := h.c1
  have ff := h.fr
  have hX := hid_as (ts_token h)
  clear hl hd
  generalize (chr s a).toNat = cc at *
  go_enter Tryd.func35, Tryd.ntmps35
  go_wp2_with (first
    | (go_at_call 34; (with_reducible refine (C0.out _ hX.out.sc).mono ?_); rintro e w4 ⟨rfl, k_⟩; replace hX := hid_as (hX.out.turn (Turn.same k_) (hX.out.sc.same k_)); clear k_; have d0 := hX.out.sc.c0; have d1 := hX.out.sc.c1; have df := hX.out.sc.fr)
    | (go_at_call 51; (with_reducible refine (L.out _).mono ?_); rintro e w' ⟨rfl, hw⟩; subst w')
    | (go_at_call 52; (with_reducible refine (DG.out _).mono ?_); rintro e w' ⟨rfl, hw⟩; subst w')
    | (go_at_call 54; (with_reducible refine (NM.out _ hX.out.sc).mono ?_); rintro e w5 ⟨rfl, s5, t5⟩; have hX5 := hid_as (hX.out.turn t5 s5); clear s5 t5 d0 d1 df; obtain ⟨_, ⟨q0, q1, q2, q3, q4, qf, ql⟩, ⟨r0, r1, r2, r3, r4, rf, rl⟩, _, _, _, _⟩ := hX5.out))
  have hTu := hX5.out.tu
  exact bodyPost_ret (v := .tuple #[.agg #[.int .i64 0, .int .i64 0, .int .i64 0, .string ⟨#[]⟩, .int .i64 a], .int .i64 120]) (by simp [results, Tryd.results35, go_sem, r0, r1, r2, r3, r4]) rfl (rt_none (by first | decide | assumption) (by repeat (first | (with_reducible exact hTu) | refine Turn.far ?_ (by omega) _ _)))
set_option maxHeartbeats 800000 in
set_option maxRecDepth 100000 in
theorem tokD_big (s : ByteArray) (g a : Nat) (w : World) (h : Sc w g s a) (ha : a < s.size) (hs : s.size ≤ 65536) (hl : isL (chr s a) = false) (hd : dgt (chr s a) = true) (N Z : Nat) (H : Nat) (hH : ¬ H = 0) (hb : 4294967295 < N) (NM : Hid (∀ V, Sc V g s a → Calls Tryd.prog 54 #[.pointer (some ⟨g, 0, none⟩)] V fun e w' => e = .returned (.tuple #[.int .i64 (N : Nat), .int .i64 (H : Nat)]) ∧ Sc w' g s (a + Z) ∧ Turn g V w')) : Calls Tryd.prog 35 #[.pointer (some ⟨g, 0, none⟩)] w fun e w' => RT g s a a (none) w e w' := by
  have C0 : Hid (∀ V, Sc V g s a → Calls Tryd.prog 34 #[.pointer (some ⟨g, 0, none⟩), .int .i64 0] V fun e w' => e = .returned (.int .u8 (chr s a).toNat) ∧ Same V w') := fun V q => c_r s g a 0 V q (by omega) (by omega)
  have L : Hid (∀ V, Calls Tryd.prog 51 #[.int .u8 (chr s a).toNat] V fun e w' => e = .returned (.bool false) ∧ w' = V) := fun V => by have q := rletter_c (chr s a) V; rw [hl] at q; exact q
  have DG : Hid (∀ V, Calls Tryd.prog 52 #[.int .u8 (chr s a).toNat] V fun e w' => e = .returned (.bool true) ∧ w' = V) := fun V => by have q := rdigit_c (chr s a) V; rw [hd] at q; exact q
  have hgl := h.lt
  have f0 := h.c0
  have f1 := h.c1
  have ff := h.fr
  have hX := hid_as (ts_token h)
  have hH' : ¬ (H : Int) = 0 := by omega
  have hb' : (4294967295 : Int) < N := by omega
  clear hl hd
  generalize (chr s a).toNat = cc at *
  go_enter Tryd.func35, Tryd.ntmps35
  go_wp2_with (first
    | (go_at_call 34; (with_reducible refine (C0.out _ hX.out.sc).mono ?_); rintro e w4 ⟨rfl, k_⟩; replace hX := hid_as (hX.out.turn (Turn.same k_) (hX.out.sc.same k_)); clear k_; have d0 := hX.out.sc.c0; have d1 := hX.out.sc.c1; have df := hX.out.sc.fr)
    | (go_at_call 51; (with_reducible refine (L.out _).mono ?_); rintro e w' ⟨rfl, hw⟩; subst w')
    | (go_at_call 52; (with_reducible refine (DG.out _).mono ?_); rintro e w' ⟨rfl, hw⟩; subst w')
    | (go_at_call 54; (with_reducible refine (NM.out _ hX.out.sc).mono ?_); rintro e w5 ⟨rfl, s5, t5⟩; have hX5 := hid_as (hX.out.turn t5 s5); clear s5 t5 d0 d1 df; obtain ⟨_, ⟨q0, q1, q2, q3, q4, qf, ql⟩, ⟨r0, r1, r2, r3, r4, rf, rl⟩, _, _, _, _⟩ := hX5.out))
  have hTu := hX5.out.tu
  exact bodyPost_ret (v := .tuple #[.agg #[.int .i64 0, .int .i64 0, .int .i64 0, .string ⟨#[]⟩, .int .i64 a], .int .i64 121]) (by simp [results, Tryd.results35, go_sem, r0, r1, r2, r3, r4]) rfl (rt_none (by first | decide | assumption) (by repeat (first | (with_reducible exact hTu) | refine Turn.far ?_ (by omega) _ _)))
set_option maxHeartbeats 800000 in
set_option maxRecDepth 100000 in
theorem tokD_ok (s : ByteArray) (g a : Nat) (w : World) (h : Sc w g s a) (ha : a < s.size) (hs : s.size ≤ 65536) (hl : isL (chr s a) = false) (hd : dgt (chr s a) = true) (N Z : Nat) (H : Nat) (hH : ¬ H = 0) (hb : ¬ 4294967295 < N) (NM : Hid (∀ V, Sc V g s a → Calls Tryd.prog 54 #[.pointer (some ⟨g, 0, none⟩)] V fun e w' => e = .returned (.tuple #[.int .i64 (N : Nat), .int .i64 (H : Nat)]) ∧ Sc w' g s (a + Z) ∧ Turn g V w')) : Calls Tryd.prog 35 #[.pointer (some ⟨g, 0, none⟩)] w fun e w' => RT g s a a (some (⟨3, 0, (N : Nat), []⟩, Z)) w e w' := by
  have C0 : Hid (∀ V, Sc V g s a → Calls Tryd.prog 34 #[.pointer (some ⟨g, 0, none⟩), .int .i64 0] V fun e w' => e = .returned (.int .u8 (chr s a).toNat) ∧ Same V w') := fun V q => c_r s g a 0 V q (by omega) (by omega)
  have L : Hid (∀ V, Calls Tryd.prog 51 #[.int .u8 (chr s a).toNat] V fun e w' => e = .returned (.bool false) ∧ w' = V) := fun V => by have q := rletter_c (chr s a) V; rw [hl] at q; exact q
  have DG : Hid (∀ V, Calls Tryd.prog 52 #[.int .u8 (chr s a).toNat] V fun e w' => e = .returned (.bool true) ∧ w' = V) := fun V => by have q := rdigit_c (chr s a) V; rw [hd] at q; exact q
  have hgl := h.lt
  have f0 := h.c0
  have f1 := h.c1
  have ff := h.fr
  have hX := hid_as (ts_token h)
  have hH' : ¬ (H : Int) = 0 := by omega
  have hb' : ¬ (4294967295 : Int) < N := by omega
  clear hl hd
  generalize (chr s a).toNat = cc at *
  go_enter Tryd.func35, Tryd.ntmps35
  go_wp2_with (first
    | (go_at_call 34; (with_reducible refine (C0.out _ hX.out.sc).mono ?_); rintro e w4 ⟨rfl, k_⟩; replace hX := hid_as (hX.out.turn (Turn.same k_) (hX.out.sc.same k_)); clear k_; have d0 := hX.out.sc.c0; have d1 := hX.out.sc.c1; have df := hX.out.sc.fr)
    | (go_at_call 51; (with_reducible refine (L.out _).mono ?_); rintro e w' ⟨rfl, hw⟩; subst w')
    | (go_at_call 52; (with_reducible refine (DG.out _).mono ?_); rintro e w' ⟨rfl, hw⟩; subst w')
    | (go_at_call 54; (with_reducible refine (NM.out _ hX.out.sc).mono ?_); rintro e w5 ⟨rfl, s5, t5⟩; have hX5 := hid_as (hX.out.turn t5 s5); clear s5 t5 d0 d1 df; obtain ⟨_, ⟨q0, q1, q2, q3, q4, qf, ql⟩, ⟨r0, r1, r2, r3, r4, rf, rl⟩, _, _, _, _⟩ := hX5.out))
  have hTu := hX5.out.tu
  have hSc := hX5.out.sc
  exact bodyPost_ret (v := .tuple #[tv ⟨3, 0, (N : Nat), []⟩ a, .int .i64 0]) (by simp [results, Tryd.results35, go_sem, tv, r0, r1, r2, r3, r4, tx]) rfl (rt_some (by repeat (first | (with_reducible exact hTu) | refine Turn.far ?_ (by omega) _ _)) (by repeat (first | (with_reducible exact hSc) | refine Sc.far ?_ (by omega) _ _)))
end Go.Proofs.YtnponognncdkcaaDoor
