/- The reference's typed literals, walked: BOOL with letters; all ways (stage 12). · The reference's typed literals, whole (stage 12). -/
import Derived.Test.YtnponognncdkcaaDoorJ2
namespace Go.Proofs.YtnponognncdkcaaDoor
open Go.RowKit
open Adr Lx
theorem inW_lt {s : ByteArray} {k : Nat} (h : inW (chr s k) = true) : k < s.size := by
  refine chr_lt fun e => ?_
  rw [show chr s k = 0 from UInt8.toNat_inj.1 e] at h
  exact absurd h (by decide)
theorem cz_chr {s : ByteArray} {p : UInt8 → Bool} (h0 : p 0 = false) : ∀ (k a : Nat), (∀ j, j < k → p (chr s (a + j)) = true) → p (chr s (a + k)) = false → cz p (s.data.toList.drop a) = k
  | 0, a, _, hk => by
    by_cases h : a < s.size
    · rw [chr_drop h, cz_cons, show p (chr s a) = false from hk]; rfl
    · rw [(chr_end (s := s) (k := a) (by omega)).2]; rfl
  | k + 1, a, hj, hk => by
    have h1 : p (chr s a) = true := hj 0 (by omega)
    have h : a < s.size := by
      refine chr_lt fun e => ?_
      rw [show chr s a = 0 from UInt8.toNat_inj.1 e, h0] at h1
      cases h1
    rw [chr_drop h, cz_cons, h1, if_pos rfl, cz_chr h0 k (a + 1) (fun j q => by rw [show a + 1 + j = a + (j + 1) by omega]; exact hj (j + 1) (by omega)) (by rw [show a + 1 + k = a + (k + 1) by omega]; exact hk)]
theorem ext_take {s : ByteArray} {a k : Nat} : (s.extract a (a + k)).toList = (s.data.toList.drop a).take k := by
  rw [Lib.toList_data, tx_extract, tx_list, show a + k - a = k by omega]
theorem inW_or {c : UInt8} : inW c = (isL c || dgt c) := rfl
set_option maxHeartbeats 800000 in
theorem bool_true (s : ByteArray) (g a A : Nat) (W : ByteArray) (w : World) (h : Sc w g s a) (hs : s.size ≤ 65536) (ha : a ≤ s.size) (hT : (W.toList == [84]) = false) (hk : kf W.data.toList = 1) (hl : isL (chr s a) = true) (hw : (((s.data.toList.drop a).take (cz inW (s.data.toList.drop a)) == [84, 82, 85, 69]) = true)) : Calls Tryd.prog 53 #[.pointer (some ⟨g, 0, none⟩), .agg #[.int .i64 0, .int .i64 0, .int .i64 0, .string ⟨#[]⟩, .int .i64 A], .string W] w fun e w' => RT g s A a (some (tru 1, 4)) w e w' := by
  have K : Hid (∀ V, Calls Tryd.prog 24 #[.string W] V fun e w' => e = .returned (.int .i64 1) ∧ Below V.heap.size V w') := fun V => by have q := kind_r W V; rw [hk] at q; exact q
  have C0 : Hid (∀ V, Sc V g s a → Calls Tryd.prog 34 #[.pointer (some ⟨g, 0, none⟩), .int .i64 0] V fun e w' => e = .returned (.int .u8 (chr s a).toNat) ∧ Same V w') := fun V q => c_r s g a 0 V q (by omega) (by omega)
  have L : Hid (∀ V, Calls Tryd.prog 51 #[.int .u8 (chr s a).toNat] V fun e w' => e = .returned (.bool true) ∧ w' = V) := fun V => by have q := rletter_c (chr s a) V; rw [hl] at q; exact q
  have hgl := h.lt
  have hX1 := hid_as (ts_typed A h)
  replace hw := hid_as hw
  clear hk hl
  generalize (chr s a).toNat = cc at *
  go_enter Tryd.func53, Tryd.ntmps53
  go_wp2_with (first
    | (go_at_call 24; (with_reducible refine (K.out _).mono ?_); rintro e w3 ⟨rfl, b3⟩; have hX3 := hid_as (hX1.out.below b3); clear b3; have hX := hid_as (hX3.out.put01 (by omega) 3 1); obtain ⟨_, ⟨q0, q1, q2, q3, q4, qf, ql⟩, ⟨r0, r1, r2, r3, r4, rf, rl⟩, _, _, _, _⟩ := hX3.out)
    | (go_at_call 34; (with_reducible refine (C0.out _ hX.out.sc).mono ?_); rintro e w4 ⟨rfl, k_⟩; replace hX := hid_as (hX.out.turn (Turn.same k_) (hX.out.sc.same k_)); clear k_; have d0 := hX.out.sc.c0; have d1 := hX.out.sc.c1; have df := hX.out.sc.fr)
    | (go_at_call 51; (with_reducible refine (L.out _).mono ?_); rintro e w' ⟨rfl, hw⟩; subst w'))
  have hX0 := hX
  clear hX L C0 d0 d1 df q0 q1 q2 q3 q4 qf ql r0 r1 r2 r3 r4 rf rl
  go_loopw [] (fun wr => ∃ k : Nat, a + k ≤ s.size ∧ Hid (TS w wr g s w.heap.size (w.heap.size + 1) (a + k) 3 1 0 ⟨#[]⟩ (A : Nat)) ∧ Hid (∀ j, j < k → inW (chr s (a + j)) = true)) (fun wr => s.size - atOf g wr)
  case atStart => exact ⟨0, by omega, hX0, hid_as (fun j hj => by omega)⟩
  case round =>
    obtain ⟨k, hk, hX, hj0⟩ := hrel
    have hat := hid_as hX.out.sc.atOf
    have C0 : Hid (∀ V, Sc V g s (a + k) → Calls Tryd.prog 34 #[.pointer (some ⟨g, 0, none⟩), .int .i64 0] V fun e w' => e = .returned (.int .u8 (chr s (a + k)).toNat) ∧ Same V w') := fun V q => c_r s g (a + k) 0 V q (by omega) (by omega)
    cases hl : isL (chr s (a + k)) with
    | true =>
      have L : Hid (∀ V, Calls Tryd.prog 51 #[.int .u8 (chr s (a + k)).toNat] V fun e w' => e = .returned (.bool true) ∧ w' = V) := fun V => by have q := rletter_c (chr s (a + k)) V; rw [hl] at q; exact q
      have hin : Hid (inW (chr s (a + k)) = true) := by rw [inW_or, hl]; exact hid_as rfl
      have hlt := inW_lt hin.out
      clear hl
      generalize (chr s (a + k)).toNat = cc at *
      go_wp2_with (first
        | (go_at_call 34; (with_reducible refine (C0.out _ hX.out.sc).mono ?_); rintro e w4 ⟨rfl, k_⟩; replace hX := hid_as (hX.out.turn (Turn.same k_) (hX.out.sc.same k_)); clear k_; have d0 := hX.out.sc.c0; have d1 := hX.out.sc.c1; have df := hX.out.sc.fr)
        | (go_at_call 51; (with_reducible refine (L.out _).mono ?_); rintro e w' ⟨rfl, hw⟩; subst w'))
      go_roundw
      case rel =>
        refine ⟨k + 1, by omega, hid_as ?_, hid_as ?_⟩
        · have q := hX.out.step
          rw [Int.natCast_add] at q
          exact q
        · intro j hj
          by_cases e : j = k
          · subst e; exact hin.out
          · exact hj0.out j (by omega)
      case measure =>
        have q := hX.out.step.sc
        rw [Int.natCast_add] at q
        rw [q.atOf, hat.out]
        omega
    | false =>
      have L : Hid (∀ V, Calls Tryd.prog 51 #[.int .u8 (chr s (a + k)).toNat] V fun e w' => e = .returned (.bool false) ∧ w' = V) := fun V => by have q := rletter_c (chr s (a + k)) V; rw [hl] at q; exact q
      cases hd : dgt (chr s (a + k)) with
      | true =>
        have DG : Hid (∀ V, Calls Tryd.prog 52 #[.int .u8 (chr s (a + k)).toNat] V fun e w' => e = .returned (.bool true) ∧ w' = V) := fun V => by have q := rdigit_c (chr s (a + k)) V; rw [hd] at q; exact q
        have hin : Hid (inW (chr s (a + k)) = true) := by rw [inW_or, hl, hd]; exact hid_as rfl
        have hlt := inW_lt hin.out
        clear hl hd
        generalize (chr s (a + k)).toNat = cc at *
        go_wp2_with (first
          | (go_at_call 34; (with_reducible refine (C0.out _ hX.out.sc).mono ?_); rintro e w4 ⟨rfl, k_⟩; replace hX := hid_as (hX.out.turn (Turn.same k_) (hX.out.sc.same k_)); clear k_; have d0 := hX.out.sc.c0; have d1 := hX.out.sc.c1; have df := hX.out.sc.fr)
          | (go_at_call 51; (with_reducible refine (L.out _).mono ?_); rintro e w' ⟨rfl, hw⟩; subst w')
          | (go_at_call 52; (with_reducible refine (DG.out _).mono ?_); rintro e w' ⟨rfl, hw⟩; subst w'))
        go_roundw
        case rel =>
          refine ⟨k + 1, by omega, hid_as ?_, hid_as ?_⟩
          · have q := hX.out.step
            rw [Int.natCast_add] at q
            exact q
          · intro j hj
            by_cases e : j = k
            · subst e; exact hin.out
            · exact hj0.out j (by omega)
        case measure =>
          have q := hX.out.step.sc
          rw [Int.natCast_add] at q
          rw [q.atOf, hat.out]
          omega
      | false =>
        have DG : Hid (∀ V, Calls Tryd.prog 52 #[.int .u8 (chr s (a + k)).toNat] V fun e w' => e = .returned (.bool false) ∧ w' = V) := fun V => by have q := rdigit_c (chr s (a + k)) V; rw [hd] at q; exact q
        have hcz := cz_chr (s := s) (p := inW) (by decide) k a hj0.out (by rw [inW_or, hl, hd]; rfl)
        have hw2 := hw.out
        rw [hcz, ← ext_take] at hw2
        have hk4 : k = 4 := by
          have q := congrArg List.length (beq_iff_eq.1 hw2)
          rw [ext_take, List.length_take, List.length_drop, ← Lib.size_eq] at q
          have q : min k (s.size - a) = 4 := q
          omega
        replace hk4 := hid_as hk4
        have x1 : (0 : Int) ≤ a := by omega
        have x2 : (a : Int) ≤ (a : Int) + k := by omega
        have x3 : (a : Int) + k ≤ s.size := by omega
        have x4 : ((a : Int) + k).toNat = a + k := by omega
        clear hl hd hcz
        generalize (chr s (a + k)).toNat = cc at *
        go_wp2_with (first
          | (go_at_call 34; (with_reducible refine (C0.out _ hX.out.sc).mono ?_); rintro e w4 ⟨rfl, k_⟩; replace hX := hid_as (hX.out.turn (Turn.same k_) (hX.out.sc.same k_)); clear k_; have d0 := hX.out.sc.c0; have d1 := hX.out.sc.c1; have df := hX.out.sc.fr)
          | (go_at_call 51; (with_reducible refine (L.out _).mono ?_); rintro e w' ⟨rfl, hw⟩; subst w')
          | (go_at_call 52; (with_reducible refine (DG.out _).mono ?_); rintro e w' ⟨rfl, hw⟩; subst w'))
        go_quiet (fail)
        have hX5 := hid_as (hX.out.turn (Turn.same (Same.drewN w4 nq)) (hX.out.sc.same (Same.drewN w4 nq)))
        generalize w4.drewN nq = w5 at *
        obtain ⟨_, ⟨q0, q1, q2, q3, q4, qf, ql⟩, ⟨r0, r1, r2, r3, r4, rf, rl⟩, _, _, _, _⟩ := hX5.out
        go_wp2
        have hTu := hX5.out.tu
        have hSc := hX5.out.sc
        rw [hk4.out] at hSc
        exact bodyPost_ret (v := .tuple #[tv ⟨3, 1, 1, []⟩ A, .int .i64 0]) (by simp [results, Tryd.results53, go_sem, tv, tx, r0, r1, r2, r3, r4]) rfl (rt_some (by repeat (first | (with_reducible exact hTu) | refine Turn.far ?_ (by omega) _ _)) (by repeat (first | (with_reducible exact hSc) | refine Sc.far ?_ (by omega) _ _)))
set_option maxHeartbeats 800000 in
theorem bool_false (s : ByteArray) (g a A : Nat) (W : ByteArray) (w : World) (h : Sc w g s a) (hs : s.size ≤ 65536) (ha : a ≤ s.size) (hT : (W.toList == [84]) = false) (hk : kf W.data.toList = 1) (hl : isL (chr s a) = true) (hv : (((s.data.toList.drop a).take (cz inW (s.data.toList.drop a)) == [84, 82, 85, 69]) = false)) (hw : (((s.data.toList.drop a).take (cz inW (s.data.toList.drop a)) == [70, 65, 76, 83, 69]) = true)) : Calls Tryd.prog 53 #[.pointer (some ⟨g, 0, none⟩), .agg #[.int .i64 0, .int .i64 0, .int .i64 0, .string ⟨#[]⟩, .int .i64 A], .string W] w fun e w' => RT g s A a (some (tru 0, 5)) w e w' := by
  have K : Hid (∀ V, Calls Tryd.prog 24 #[.string W] V fun e w' => e = .returned (.int .i64 1) ∧ Below V.heap.size V w') := fun V => by have q := kind_r W V; rw [hk] at q; exact q
  have C0 : Hid (∀ V, Sc V g s a → Calls Tryd.prog 34 #[.pointer (some ⟨g, 0, none⟩), .int .i64 0] V fun e w' => e = .returned (.int .u8 (chr s a).toNat) ∧ Same V w') := fun V q => c_r s g a 0 V q (by omega) (by omega)
  have L : Hid (∀ V, Calls Tryd.prog 51 #[.int .u8 (chr s a).toNat] V fun e w' => e = .returned (.bool true) ∧ w' = V) := fun V => by have q := rletter_c (chr s a) V; rw [hl] at q; exact q
  have hgl := h.lt
  have hX1 := hid_as (ts_typed A h)
  replace hw := hid_as hw
  replace hv := hid_as hv
  clear hk hl
  generalize (chr s a).toNat = cc at *
  go_enter Tryd.func53, Tryd.ntmps53
  go_wp2_with (first
    | (go_at_call 24; (with_reducible refine (K.out _).mono ?_); rintro e w3 ⟨rfl, b3⟩; have hX3 := hid_as (hX1.out.below b3); clear b3; have hX := hid_as (hX3.out.put01 (by omega) 3 1); obtain ⟨_, ⟨q0, q1, q2, q3, q4, qf, ql⟩, ⟨r0, r1, r2, r3, r4, rf, rl⟩, _, _, _, _⟩ := hX3.out)
    | (go_at_call 34; (with_reducible refine (C0.out _ hX.out.sc).mono ?_); rintro e w4 ⟨rfl, k_⟩; replace hX := hid_as (hX.out.turn (Turn.same k_) (hX.out.sc.same k_)); clear k_; have d0 := hX.out.sc.c0; have d1 := hX.out.sc.c1; have df := hX.out.sc.fr)
    | (go_at_call 51; (with_reducible refine (L.out _).mono ?_); rintro e w' ⟨rfl, hw⟩; subst w'))
  have hX0 := hX
  clear hX L C0 d0 d1 df q0 q1 q2 q3 q4 qf ql r0 r1 r2 r3 r4 rf rl
  go_loopw [] (fun wr => ∃ k : Nat, a + k ≤ s.size ∧ Hid (TS w wr g s w.heap.size (w.heap.size + 1) (a + k) 3 1 0 ⟨#[]⟩ (A : Nat)) ∧ Hid (∀ j, j < k → inW (chr s (a + j)) = true)) (fun wr => s.size - atOf g wr)
  case atStart => exact ⟨0, by omega, hX0, hid_as (fun j hj => by omega)⟩
  case round =>
    obtain ⟨k, hk, hX, hj0⟩ := hrel
    have hat := hid_as hX.out.sc.atOf
    have C0 : Hid (∀ V, Sc V g s (a + k) → Calls Tryd.prog 34 #[.pointer (some ⟨g, 0, none⟩), .int .i64 0] V fun e w' => e = .returned (.int .u8 (chr s (a + k)).toNat) ∧ Same V w') := fun V q => c_r s g (a + k) 0 V q (by omega) (by omega)
    cases hl : isL (chr s (a + k)) with
    | true =>
      have L : Hid (∀ V, Calls Tryd.prog 51 #[.int .u8 (chr s (a + k)).toNat] V fun e w' => e = .returned (.bool true) ∧ w' = V) := fun V => by have q := rletter_c (chr s (a + k)) V; rw [hl] at q; exact q
      have hin : Hid (inW (chr s (a + k)) = true) := by rw [inW_or, hl]; exact hid_as rfl
      have hlt := inW_lt hin.out
      clear hl
      generalize (chr s (a + k)).toNat = cc at *
      go_wp2_with (first
        | (go_at_call 34; (with_reducible refine (C0.out _ hX.out.sc).mono ?_); rintro e w4 ⟨rfl, k_⟩; replace hX := hid_as (hX.out.turn (Turn.same k_) (hX.out.sc.same k_)); clear k_; have d0 := hX.out.sc.c0; have d1 := hX.out.sc.c1; have df := hX.out.sc.fr)
        | (go_at_call 51; (with_reducible refine (L.out _).mono ?_); rintro e w' ⟨rfl, hw⟩; subst w'))
      go_roundw
      case rel =>
        refine ⟨k + 1, by omega, hid_as ?_, hid_as ?_⟩
        · have q := hX.out.step
          rw [Int.natCast_add] at q
          exact q
        · intro j hj
          by_cases e : j = k
          · subst e; exact hin.out
          · exact hj0.out j (by omega)
      case measure =>
        have q := hX.out.step.sc
        rw [Int.natCast_add] at q
        rw [q.atOf, hat.out]
        omega
    | false =>
      have L : Hid (∀ V, Calls Tryd.prog 51 #[.int .u8 (chr s (a + k)).toNat] V fun e w' => e = .returned (.bool false) ∧ w' = V) := fun V => by have q := rletter_c (chr s (a + k)) V; rw [hl] at q; exact q
      cases hd : dgt (chr s (a + k)) with
      | true =>
        have DG : Hid (∀ V, Calls Tryd.prog 52 #[.int .u8 (chr s (a + k)).toNat] V fun e w' => e = .returned (.bool true) ∧ w' = V) := fun V => by have q := rdigit_c (chr s (a + k)) V; rw [hd] at q; exact q
        have hin : Hid (inW (chr s (a + k)) = true) := by rw [inW_or, hl, hd]; exact hid_as rfl
        have hlt := inW_lt hin.out
        clear hl hd
        generalize (chr s (a + k)).toNat = cc at *
        go_wp2_with (first
          | (go_at_call 34; (with_reducible refine (C0.out _ hX.out.sc).mono ?_); rintro e w4 ⟨rfl, k_⟩; replace hX := hid_as (hX.out.turn (Turn.same k_) (hX.out.sc.same k_)); clear k_; have d0 := hX.out.sc.c0; have d1 := hX.out.sc.c1; have df := hX.out.sc.fr)
          | (go_at_call 51; (with_reducible refine (L.out _).mono ?_); rintro e w' ⟨rfl, hw⟩; subst w')
          | (go_at_call 52; (with_reducible refine (DG.out _).mono ?_); rintro e w' ⟨rfl, hw⟩; subst w'))
        go_roundw
        case rel =>
          refine ⟨k + 1, by omega, hid_as ?_, hid_as ?_⟩
          · have q := hX.out.step
            rw [Int.natCast_add] at q
            exact q
          · intro j hj
            by_cases e : j = k
            · subst e; exact hin.out
            · exact hj0.out j (by omega)
        case measure =>
          have q := hX.out.step.sc
          rw [Int.natCast_add] at q
          rw [q.atOf, hat.out]
          omega
      | false =>
        have DG : Hid (∀ V, Calls Tryd.prog 52 #[.int .u8 (chr s (a + k)).toNat] V fun e w' => e = .returned (.bool false) ∧ w' = V) := fun V => by have q := rdigit_c (chr s (a + k)) V; rw [hd] at q; exact q
        have hcz := cz_chr (s := s) (p := inW) (by decide) k a hj0.out (by rw [inW_or, hl, hd]; rfl)
        have hw2 := hw.out
        rw [hcz, ← ext_take] at hw2
        have hv2 := hv.out
        rw [hcz, ← ext_take] at hv2
        have hk4 : k = 5 := by
          have q := congrArg List.length (beq_iff_eq.1 hw2)
          rw [ext_take, List.length_take, List.length_drop, ← Lib.size_eq] at q
          have q : min k (s.size - a) = 5 := q
          omega
        replace hk4 := hid_as hk4
        have x1 : (0 : Int) ≤ a := by omega
        have x2 : (a : Int) ≤ (a : Int) + k := by omega
        have x3 : (a : Int) + k ≤ s.size := by omega
        have x4 : ((a : Int) + k).toNat = a + k := by omega
        clear hl hd hcz
        generalize (chr s (a + k)).toNat = cc at *
        go_wp2_with (first
          | (go_at_call 34; (with_reducible refine (C0.out _ hX.out.sc).mono ?_); rintro e w4 ⟨rfl, k_⟩; replace hX := hid_as (hX.out.turn (Turn.same k_) (hX.out.sc.same k_)); clear k_; have d0 := hX.out.sc.c0; have d1 := hX.out.sc.c1; have df := hX.out.sc.fr)
          | (go_at_call 51; (with_reducible refine (L.out _).mono ?_); rintro e w' ⟨rfl, hw⟩; subst w')
          | (go_at_call 52; (with_reducible refine (DG.out _).mono ?_); rintro e w' ⟨rfl, hw⟩; subst w'))
        go_quiet (fail)
        have hX5 := hid_as (hX.out.turn (Turn.same (Same.drewN w4 nq)) (hX.out.sc.same (Same.drewN w4 nq)))
        generalize w4.drewN nq = w5 at *
        obtain ⟨_, ⟨q0, q1, q2, q3, q4, qf, ql⟩, ⟨r0, r1, r2, r3, r4, rf, rl⟩, _, _, _, _⟩ := hX5.out
        go_wp2
        have hTu := hX5.out.tu
        have hSc := hX5.out.sc
        rw [hk4.out] at hSc
        exact bodyPost_ret (v := .tuple #[tv ⟨3, 1, 0, []⟩ A, .int .i64 0]) (by simp [results, Tryd.results53, go_sem, tv, tx, r0, r1, r2, r3, r4]) rfl (rt_some (by repeat (first | (with_reducible exact hTu) | refine Turn.far ?_ (by omega) _ _)) (by repeat (first | (with_reducible exact hSc) | refine Sc.far ?_ (by omega) _ _)))
set_option maxHeartbeats 800000 in
theorem bool_other (s : ByteArray) (g a A : Nat) (W : ByteArray) (w : World) (h : Sc w g s a) (hs : s.size ≤ 65536) (ha : a ≤ s.size) (hT : (W.toList == [84]) = false) (hk : kf W.data.toList = 1) (hl : isL (chr s a) = true) (hv : (((s.data.toList.drop a).take (cz inW (s.data.toList.drop a)) == [84, 82, 85, 69]) = false)) (hw : (((s.data.toList.drop a).take (cz inW (s.data.toList.drop a)) == [70, 65, 76, 83, 69]) = false)) : Calls Tryd.prog 53 #[.pointer (some ⟨g, 0, none⟩), .agg #[.int .i64 0, .int .i64 0, .int .i64 0, .string ⟨#[]⟩, .int .i64 A], .string W] w fun e w' => RT g s A a (none) w e w' := by
  have K : Hid (∀ V, Calls Tryd.prog 24 #[.string W] V fun e w' => e = .returned (.int .i64 1) ∧ Below V.heap.size V w') := fun V => by have q := kind_r W V; rw [hk] at q; exact q
  have C0 : Hid (∀ V, Sc V g s a → Calls Tryd.prog 34 #[.pointer (some ⟨g, 0, none⟩), .int .i64 0] V fun e w' => e = .returned (.int .u8 (chr s a).toNat) ∧ Same V w') := fun V q => c_r s g a 0 V q (by omega) (by omega)
  have L : Hid (∀ V, Calls Tryd.prog 51 #[.int .u8 (chr s a).toNat] V fun e w' => e = .returned (.bool true) ∧ w' = V) := fun V => by have q := rletter_c (chr s a) V; rw [hl] at q; exact q
  have hgl := h.lt
  have hX1 := hid_as (ts_typed A h)
  replace hw := hid_as hw
  replace hv := hid_as hv
  clear hk hl
  generalize (chr s a).toNat = cc at *
  go_enter Tryd.func53, Tryd.ntmps53
  go_wp2_with (first
    | (go_at_call 24; (with_reducible refine (K.out _).mono ?_); rintro e w3 ⟨rfl, b3⟩; have hX3 := hid_as (hX1.out.below b3); clear b3; have hX := hid_as (hX3.out.put01 (by omega) 3 1); obtain ⟨_, ⟨q0, q1, q2, q3, q4, qf, ql⟩, ⟨r0, r1, r2, r3, r4, rf, rl⟩, _, _, _, _⟩ := hX3.out)
    | (go_at_call 34; (with_reducible refine (C0.out _ hX.out.sc).mono ?_); rintro e w4 ⟨rfl, k_⟩; replace hX := hid_as (hX.out.turn (Turn.same k_) (hX.out.sc.same k_)); clear k_; have d0 := hX.out.sc.c0; have d1 := hX.out.sc.c1; have df := hX.out.sc.fr)
    | (go_at_call 51; (with_reducible refine (L.out _).mono ?_); rintro e w' ⟨rfl, hw⟩; subst w'))
  have hX0 := hX
  clear hX L C0 d0 d1 df q0 q1 q2 q3 q4 qf ql r0 r1 r2 r3 r4 rf rl
  go_loopw [] (fun wr => ∃ k : Nat, a + k ≤ s.size ∧ Hid (TS w wr g s w.heap.size (w.heap.size + 1) (a + k) 3 1 0 ⟨#[]⟩ (A : Nat)) ∧ Hid (∀ j, j < k → inW (chr s (a + j)) = true)) (fun wr => s.size - atOf g wr)
  case atStart => exact ⟨0, by omega, hX0, hid_as (fun j hj => by omega)⟩
  case round =>
    obtain ⟨k, hk, hX, hj0⟩ := hrel
    have hat := hid_as hX.out.sc.atOf
    have C0 : Hid (∀ V, Sc V g s (a + k) → Calls Tryd.prog 34 #[.pointer (some ⟨g, 0, none⟩), .int .i64 0] V fun e w' => e = .returned (.int .u8 (chr s (a + k)).toNat) ∧ Same V w') := fun V q => c_r s g (a + k) 0 V q (by omega) (by omega)
    cases hl : isL (chr s (a + k)) with
    | true =>
      have L : Hid (∀ V, Calls Tryd.prog 51 #[.int .u8 (chr s (a + k)).toNat] V fun e w' => e = .returned (.bool true) ∧ w' = V) := fun V => by have q := rletter_c (chr s (a + k)) V; rw [hl] at q; exact q
      have hin : Hid (inW (chr s (a + k)) = true) := by rw [inW_or, hl]; exact hid_as rfl
      have hlt := inW_lt hin.out
      clear hl
      generalize (chr s (a + k)).toNat = cc at *
      go_wp2_with (first
        | (go_at_call 34; (with_reducible refine (C0.out _ hX.out.sc).mono ?_); rintro e w4 ⟨rfl, k_⟩; replace hX := hid_as (hX.out.turn (Turn.same k_) (hX.out.sc.same k_)); clear k_; have d0 := hX.out.sc.c0; have d1 := hX.out.sc.c1; have df := hX.out.sc.fr)
        | (go_at_call 51; (with_reducible refine (L.out _).mono ?_); rintro e w' ⟨rfl, hw⟩; subst w'))
      go_roundw
      case rel =>
        refine ⟨k + 1, by omega, hid_as ?_, hid_as ?_⟩
        · have q := hX.out.step
          rw [Int.natCast_add] at q
          exact q
        · intro j hj
          by_cases e : j = k
          · subst e; exact hin.out
          · exact hj0.out j (by omega)
      case measure =>
        have q := hX.out.step.sc
        rw [Int.natCast_add] at q
        rw [q.atOf, hat.out]
        omega
    | false =>
      have L : Hid (∀ V, Calls Tryd.prog 51 #[.int .u8 (chr s (a + k)).toNat] V fun e w' => e = .returned (.bool false) ∧ w' = V) := fun V => by have q := rletter_c (chr s (a + k)) V; rw [hl] at q; exact q
      cases hd : dgt (chr s (a + k)) with
      | true =>
        have DG : Hid (∀ V, Calls Tryd.prog 52 #[.int .u8 (chr s (a + k)).toNat] V fun e w' => e = .returned (.bool true) ∧ w' = V) := fun V => by have q := rdigit_c (chr s (a + k)) V; rw [hd] at q; exact q
        have hin : Hid (inW (chr s (a + k)) = true) := by rw [inW_or, hl, hd]; exact hid_as rfl
        have hlt := inW_lt hin.out
        clear hl hd
        generalize (chr s (a + k)).toNat = cc at *
        go_wp2_with (first
          | (go_at_call 34; (with_reducible refine (C0.out _ hX.out.sc).mono ?_); rintro e w4 ⟨rfl, k_⟩; replace hX := hid_as (hX.out.turn (Turn.same k_) (hX.out.sc.same k_)); clear k_; have d0 := hX.out.sc.c0; have d1 := hX.out.sc.c1; have df := hX.out.sc.fr)
          | (go_at_call 51; (with_reducible refine (L.out _).mono ?_); rintro e w' ⟨rfl, hw⟩; subst w')
          | (go_at_call 52; (with_reducible refine (DG.out _).mono ?_); rintro e w' ⟨rfl, hw⟩; subst w'))
        go_roundw
        case rel =>
          refine ⟨k + 1, by omega, hid_as ?_, hid_as ?_⟩
          · have q := hX.out.step
            rw [Int.natCast_add] at q
            exact q
          · intro j hj
            by_cases e : j = k
            · subst e; exact hin.out
            · exact hj0.out j (by omega)
        case measure =>
          have q := hX.out.step.sc
          rw [Int.natCast_add] at q
          rw [q.atOf, hat.out]
          omega
      | false =>
        have DG : Hid (∀ V, Calls Tryd.prog 52 #[.int .u8 (chr s (a + k)).toNat] V fun e w' => e = .returned (.bool false) ∧ w' = V) := fun V => by have q := rdigit_c (chr s (a + k)) V; rw [hd] at q; exact q
        have hcz := cz_chr (s := s) (p := inW) (by decide) k a hj0.out (by rw [inW_or, hl, hd]; rfl)
        have hw2 := hw.out
        rw [hcz, ← ext_take] at hw2
        have hv2 := hv.out
        rw [hcz, ← ext_take] at hv2
        have x1 : (0 : Int) ≤ a := by omega
        have x2 : (a : Int) ≤ (a : Int) + k := by omega
        have x3 : (a : Int) + k ≤ s.size := by omega
        have x4 : ((a : Int) + k).toNat = a + k := by omega
        clear hl hd hcz
        generalize (chr s (a + k)).toNat = cc at *
        go_wp2_with (first
          | (go_at_call 34; (with_reducible refine (C0.out _ hX.out.sc).mono ?_); rintro e w4 ⟨rfl, k_⟩; replace hX := hid_as (hX.out.turn (Turn.same k_) (hX.out.sc.same k_)); clear k_; have d0 := hX.out.sc.c0; have d1 := hX.out.sc.c1; have df := hX.out.sc.fr)
          | (go_at_call 51; (with_reducible refine (L.out _).mono ?_); rintro e w' ⟨rfl, hw⟩; subst w')
          | (go_at_call 52; (with_reducible refine (DG.out _).mono ?_); rintro e w' ⟨rfl, hw⟩; subst w'))
        go_quiet (fail)
        have hX5 := hid_as (hX.out.turn (Turn.same (Same.drewN w4 nq)) (hX.out.sc.same (Same.drewN w4 nq)))
        generalize w4.drewN nq = w5 at *
        obtain ⟨_, ⟨q0, q1, q2, q3, q4, qf, ql⟩, ⟨r0, r1, r2, r3, r4, rf, rl⟩, _, _, _, _⟩ := hX5.out
        go_wp2
        have hTu := hX5.out.tu
        exact bodyPost_ret (v := .tuple #[.agg #[.int .i64 3, .int .i64 1, .int .i64 0, .string ⟨#[]⟩, .int .i64 A], .int .i64 120]) (by simp [results, Tryd.results53, go_sem, r0, r1, r2, r3, r4]) rfl (rt_none (by decide) (by repeat (first | (with_reducible exact hTu) | refine Turn.far ?_ (by omega) _ _)))
open Go.RowKit
open Adr Lx
theorem hp_chr (s : ByteArray) (a : Nat) (c : UInt8) (hc : ¬ c.toNat = 0) : hp (s.data.toList.drop a) [c] = (((chr s a).toNat : Int) == (c.toNat : Int)) := by
  by_cases h : a < s.size
  · rw [chr_drop h, Bool.eq_iff_iff, hp_iff, beq_iff_eq]
    constructor
    · rintro ⟨r, e⟩; rw [← (List.cons.inj e).1]
    · intro e
      have e2 : c = chr s a := UInt8.toNat_inj.1 (by omega)
      rw [e2]
      exact ⟨_, rfl⟩
  · obtain ⟨e1, e2⟩ := chr_end (s := s) (k := a) (by omega)
    rw [e1, e2]
    show false = _
    symm
    rw [beq_eq_false_iff_ne]
    show ¬ ((0 : Nat) : Int) = c.toNat
    omega
theorem hL_chr (s : ByteArray) (a : Nat) : hL (s.data.toList.drop a) = isL (chr s a) := by
  by_cases h : a < s.size
  · rw [chr_drop h]; rfl
  · obtain ⟨e1, e2⟩ := chr_end (s := s) (k := a) (by omega)
    rw [e1, e2]
    decide
def ty0 (g A : Nat) (W : ByteArray) : Array Value := #[.pointer (some ⟨g, 0, none⟩), .agg #[.int .i64 0, .int .i64 0, .int .i64 0, .string ⟨#[]⟩, .int .i64 A], .string W]
theorem rlt_way (tok k : Nat) (n : Int) (z : Nat) : (n < klo k ∧ rlt tok k n z = none) ∨ (¬ n < klo k ∧ khi k < n ∧ rlt tok k n z = none) ∨ (¬ n < klo k ∧ ¬ khi k < n ∧ rlt tok k n z = some (⟨tok, k, n, []⟩, z)) := by
  unfold rlt
  by_cases h1 : n < klo k
  · left; rw [decide_eq_true h1]; exact ⟨h1, rfl⟩
  · right
    by_cases h2 : khi k < n
    · left; rw [decide_eq_true h2, Bool.or_true]; exact ⟨h1, h2, rfl⟩
    · right; rw [decide_eq_false h1, decide_eq_false h2]; exact ⟨h1, h2, rfl⟩
theorem kT_eq {W : ByteArray} : kT W.data.toList = if (W.toList == [84]) then 11 else kf W.data.toList := by
  unfold kT; rw [Lib.toList_data]
theorem time_r (s : ByteArray) (g a : Nat) (ha : a ≤ s.size) (hs : s.size ≤ 65536) : ∃ (N : Int) (L Z : Nat), rtm (s.size + 1) (s.data.toList.drop a) = (if L = 0 then none else rlt 4 11 N Z) ∧ Hid (∀ V, Sc V g s a → Calls Tryd.prog 70 #[.pointer (some ⟨g, 0, none⟩)] V fun e w' => e = .returned (.tuple #[.int .i64 N, .bool (decide (0 < L))]) ∧ Sc w' g s (a + Z) ∧ Turn g V w') := by
  have e := hp_chr s a 45 (by decide)
  cases hm : (((chr s a).toNat : Int) == ((45 : UInt8).toNat : Int)) with
  | true =>
    rw [hm] at e
    have hc : chr s a = 45 := UInt8.toNat_inj.1 (by have := beq_iff_eq.1 hm; omega)
    refine ⟨wrap64 (-(rtl (s.size + 1) (s.data.toList.drop (a + 1)) 0 0 0).1), (rtl (s.size + 1) (s.data.toList.drop (a + 1)) 0 0 0).2.1, 1 + (rtl (s.size + 1) (s.data.toList.drop (a + 1)) 0 0 0).2.2, ?_, ?_⟩
    · unfold rtm
      rw [e, if_pos rfl, List.drop_drop]
    · intro V hV
      have q := time_minus s g a V hV hs hc
      rw [Nat.add_assoc] at q
      exact q
  | false =>
    rw [hm] at e
    refine ⟨(rtl (s.size + 1) (s.data.toList.drop a) 0 0 0).1, (rtl (s.size + 1) (s.data.toList.drop a) 0 0 0).2.1, (rtl (s.size + 1) (s.data.toList.drop a) 0 0 0).2.2, ?_, ?_⟩
    · unfold rtm
      rw [e, if_neg Bool.false_ne_true]
    · exact fun V hV => time_loop s g a V hV ha hs hm
theorem typed_r (s : ByteArray) (g a A : Nat) (W : ByteArray) (w : World) (h : Sc w g s a) (hs : s.size ≤ 65536) (ha : a ≤ s.size) (hW : ¬ kT W.data.toList = 0) : Calls Tryd.prog 53 #[.pointer (some ⟨g, 0, none⟩), .agg #[.int .i64 0, .int .i64 0, .int .i64 0, .string ⟨#[]⟩, .int .i64 A], .string W] w fun e w' => RT g s A a (rty (s.size + 1) (kT W.data.toList) (s.data.toList.drop a)) w e w' := by
  rw [kT_eq] at hW ⊢
  obtain ⟨N, L, Z, e1, TM⟩ := time_r s g a ha hs
  cases hT : (W.toList == [84]) with
  | true =>
    rw [if_pos rfl]
    rw [show rty (s.size + 1) 11 (s.data.toList.drop a) = rtm (s.size + 1) (s.data.toList.drop a) from if_pos rfl, e1]
    by_cases hL : L = 0
    · rw [if_pos hL]
      rw [decide_eq_false (by omega)] at TM
      exact timeT_no s g a A W w h hT N Z TM
    · rw [if_neg hL]
      rw [decide_eq_true (by omega)] at TM
      rcases rlt_way 4 11 N Z with ⟨q1, q2⟩ | ⟨q1, q2, q3⟩ | ⟨q1, q2, q3⟩
      · rw [q2]; exact timeT_lo s g a A W w h hT N Z q1 TM
      · rw [q3]; exact timeT_hi s g a A W w h hT N Z q1 q2 TM
      · rw [q3]; exact timeT_ok s g a A W w h hT N Z q1 q2 TM
  | false =>
    rw [hT, if_neg Bool.false_ne_true] at hW
    rw [if_neg Bool.false_ne_true]
    have hle := kf_le W.data.toList
    by_cases h11 : kf W.data.toList = 11
    · rw [h11, show rty (s.size + 1) 11 (s.data.toList.drop a) = rtm (s.size + 1) (s.data.toList.drop a) from if_pos rfl, e1]
      by_cases hL : L = 0
      · rw [if_pos hL]
        rw [decide_eq_false (by omega)] at TM
        exact timeN_no s g a A W w h hT h11 N Z TM
      · rw [if_neg hL]
        rw [decide_eq_true (by omega)] at TM
        rcases rlt_way 4 11 N Z with ⟨q1, q2⟩ | ⟨q1, q2, q3⟩ | ⟨q1, q2, q3⟩
        · rw [q2]; exact timeN_lo s g a A W w h hT h11 N Z q1 TM
        · rw [q3]; exact timeN_hi s g a A W w h hT h11 N Z q1 q2 TM
        · rw [q3]; exact timeN_ok s g a A W w h hT h11 N Z q1 q2 TM
    · clear TM e1 N L Z
      unfold rty
      rw [if_neg h11, hL_chr]
      have em := hp_chr s a 45 (by decide)
      rw [em]
      have hnm : ∀ V, Sc V g s a → Calls Tryd.prog 54 #[.pointer (some ⟨g, 0, none⟩)] V fun e w' => e = .returned (.tuple #[.int .i64 ((rnm (s.data.toList.drop a)).1 : Nat), .int .i64 ((rnm (s.data.toList.drop a)).2.1 : Nat)]) ∧ Sc w' g s (a + (rnm (s.data.toList.drop a)).2.2) ∧ Turn g V w' := fun V hV => number_r s g a V hV ha hs
      generalize hk : kf W.data.toList = k at *
      by_cases h1 : k = 1
      · subst h1
        rw [decide_eq_true (rfl : 1 = 1), Bool.true_and]
        cases hl : isL (chr s a) with
        | true =>
          rw [if_pos rfl]
          unfold rbl
          cases ht : ((s.data.toList.drop a).take (cz inW (s.data.toList.drop a)) == [84, 82, 85, 69]) with
          | true => rw [if_pos rfl]; exact bool_true s g a A W w h hs ha hT hk hl ht
          | false =>
            rw [if_neg Bool.false_ne_true]
            cases hf : ((s.data.toList.drop a).take (cz inW (s.data.toList.drop a)) == [70, 65, 76, 83, 69]) with
            | true => rw [if_pos rfl]; exact bool_false s g a A W w h hs ha hT hk hl ht hf
            | false => rw [if_neg Bool.false_ne_true]; exact bool_other s g a A W w h hs ha hT hk hl ht hf
        | false =>
          rw [if_neg Bool.false_ne_true, show decide (klo 1 < 0) = false from rfl, Bool.and_false, if_neg Bool.false_ne_true]
          unfold rnu
          cases hm : (((chr s a).toNat : Int) == ((45 : UInt8).toNat : Int)) with
          | true =>
            by_cases hh : (rnm (s.data.toList.drop a)).2.1 = 0
            · rw [if_pos hh]
              rw [hh] at hnm
              exact numBu_none s g a A W w h hs ha hT hk hl hm _ _ hnm
            · rw [if_neg hh]
              rcases rlt_way 3 1 (rnm (s.data.toList.drop a)).1 (rnm (s.data.toList.drop a)).2.2 with ⟨q1, q2⟩ | ⟨q1, q2, q3⟩ | ⟨q1, q2, q3⟩
              · exfalso; rw [show klo 1 = 0 from rfl] at q1; omega
              · rw [q3]; exact numBu_hi s g a A W w h hs ha hT hk hl hm _ _ _ hh q1 q2 hnm
              · rw [q3]; exact numBu_ok s g a A W w h hs ha hT hk hl hm _ _ _ hh q1 q2 hnm
          | false =>
            by_cases hh : (rnm (s.data.toList.drop a)).2.1 = 0
            · rw [if_pos hh]
              rw [hh] at hnm
              exact numBn_none s g a A W w h hs ha hT hk hl hm _ _ hnm
            · rw [if_neg hh]
              rcases rlt_way 3 1 (rnm (s.data.toList.drop a)).1 (rnm (s.data.toList.drop a)).2.2 with ⟨q1, q2⟩ | ⟨q1, q2, q3⟩ | ⟨q1, q2, q3⟩
              · exfalso; rw [show klo 1 = 0 from rfl] at q1; omega
              · rw [q3]; exact numBn_hi s g a A W w h hs ha hT hk hl hm _ _ _ hh q1 q2 hnm
              · rw [q3]; exact numBn_ok s g a A W w h hs ha hT hk hl hm _ _ _ hh q1 q2 hnm
      · have hr : klo k ≤ 0 ∧ 0 ≤ khi k := by
          have hc : k = 2 ∨ k = 3 ∨ k = 4 ∨ k = 5 ∨ k = 6 ∨ k = 7 ∨ k = 8 ∨ k = 9 ∨ k = 10 := by omega
          rcases hc with rfl | rfl | rfl | rfl | rfl | rfl | rfl | rfl | rfl <;> decide
        rw [decide_eq_false h1, Bool.false_and, if_neg Bool.false_ne_true]
        cases hm : (((chr s a).toNat : Int) == ((45 : UInt8).toNat : Int)) with
        | true =>
          by_cases hsg : klo k < 0
          · rw [decide_eq_true hsg, Bool.and_true, if_pos rfl]
            unfold rmi
            rw [List.drop_drop, hdk_chr]
            have hlt : a < s.size := chr_lt (fun e => by rw [beq_iff_eq] at hm; rw [e] at hm; exact absurd hm (by decide))
            cases ho : okd 10 (chr s (a + 1)) with
            | false =>
              rw [if_neg Bool.false_ne_true]
              exact numKs_none s g a A k (by omega) (by omega) h1 W w h hs ha hT hk hm hsg 0 0 (by omega) (fun V q => (digits_no s g (a + 1) 10 V q (by omega) ho).mono (fun e w' hq => ⟨hq.1, q.same hq.2, Turn.same hq.2⟩))
            | true =>
              rw [if_pos rfl]
              have hN := (rdg_le 10 (s.data.toList.drop (a + 1)) 0 0 (by omega)).1
              have D := fun V q => digits_yes s g (a + 1) 10 V q (by omega) (by omega) ho
              rcases rlt_way 3 k (-((rdg 10 (s.data.toList.drop (a + 1)) 0 0).1 : Int)) (1 + (rdg 10 (s.data.toList.drop (a + 1)) 0 0).2) with ⟨q1, q2⟩ | ⟨q1, q2, q3⟩ | ⟨q1, q2, q3⟩
              · rw [q2]; exact numKs_lo s g a A k (by omega) (by omega) h1 W w h hs ha hT hk hm hsg _ _ hN q1 D
              · exfalso; omega
              · rw [q3]; exact numKs_ok s g a A k (by omega) (by omega) h1 W w h hs ha hT hk hm hsg _ _ hN q1 q2 D
          · rw [decide_eq_false hsg, Bool.and_false, if_neg Bool.false_ne_true]
            unfold rnu
            by_cases hh : (rnm (s.data.toList.drop a)).2.1 = 0
            · rw [if_pos hh]
              rw [hh] at hnm
              exact numKu_none s g a A k (by omega) (by omega) h1 W w h hs ha hT hk hm hsg _ _ hnm
            · rw [if_neg hh]
              rcases rlt_way 3 k (rnm (s.data.toList.drop a)).1 (rnm (s.data.toList.drop a)).2.2 with ⟨q1, q2⟩ | ⟨q1, q2, q3⟩ | ⟨q1, q2, q3⟩
              · exfalso; omega
              · rw [q3]; exact numKu_hi s g a A k (by omega) (by omega) h1 W w h hs ha hT hk hm hsg _ _ _ hh q1 q2 hnm
              · rw [q3]; exact numKu_ok s g a A k (by omega) (by omega) h1 W w h hs ha hT hk hm hsg _ _ _ hh q1 q2 hnm
        | false =>
          rw [Bool.false_and, if_neg Bool.false_ne_true]
          unfold rnu
          by_cases hh : (rnm (s.data.toList.drop a)).2.1 = 0
          · rw [if_pos hh]
            rw [hh] at hnm
            exact numKn_none s g a A k (by omega) (by omega) h1 W w h hs ha hT hk hm _ _ hnm
          · rw [if_neg hh]
            rcases rlt_way 3 k (rnm (s.data.toList.drop a)).1 (rnm (s.data.toList.drop a)).2.2 with ⟨q1, q2⟩ | ⟨q1, q2, q3⟩ | ⟨q1, q2, q3⟩
            · exfalso; omega
            · rw [q3]; exact numKn_hi s g a A k (by omega) (by omega) h1 W w h hs ha hT hk hm _ _ _ hh q1 q2 hnm
            · rw [q3]; exact numKn_ok s g a A k (by omega) (by omega) h1 W w h hs ha hT hk hm _ _ _ hh q1 q2 hnm
end Go.Proofs.YtnponognncdkcaaDoor
