/- The reference's digits in a row (stage 12). -/
import Derived.Test.YtnponognncdkcaaDoorRA
import Derived.OwnWalk
import Derived.Laws.AppendOwn
namespace Go.Proofs.YtnponognncdkcaaDoor
open Go.RowKit
open Adr Lx
/-- All blocks that there were, but g, are as they were. -/
abbrev Turn (g : Nat) (w w' : World) : Prop := w.grownBy w' (some g)
theorem Turn.refl (g : Nat) (w : World) : Turn g w w := ⟨rfl, rfl, rfl, Nat.le_refl _, fun _ _ _ => rfl⟩
theorem Turn.trans {g : Nat} {a b c : World} (h : Turn g a b) (k : Turn g b c) : Turn g a c :=
  ⟨k.os.trans h.os, k.tape.trans h.tape, k.output.trans h.output, Nat.le_trans h.size k.size, fun j hj hne => (k.block j (Nat.lt_of_lt_of_le hj h.size) hne).trans (h.block j hj hne)⟩
theorem Turn.ofBelow {g : Nat} {w w' : World} (h : Below w.heap.size w w') : Turn g w w' := ⟨h.os, h.tape, h.output, h.size, fun j hj _ => h.block j hj⟩
theorem Turn.set {g : Nat} {w w' : World} (h : Turn g w w') (k : Nat) (v : Value) : Turn g w (w'.setCell ⟨g, k, none⟩ v) := by
  refine ⟨h.os, h.tape, h.output, by simpa using h.size, fun j hj hne => ?_⟩
  rw [Below.heap_setCell _ _ _ _ (fun e => hne (congrArg some e))]
  exact h.block j hj hne
theorem Turn.alloc {g : Nat} {w w' : World} (h : Turn g w w') (o : Obj) : Turn g w (w'.alloc o) := h.trans (Turn.ofBelow (below_new1 w' o))
theorem Turn.drew {g : Nat} {w w' : World} (h : Turn g w w') : Turn g w w'.drew := ⟨h.os, h.tape, h.output, h.size, h.block⟩
theorem Turn.drewN {g : Nat} {w w' : World} (h : Turn g w w') (d : Nat) : Turn g w (w'.drewN d) := ⟨h.os, h.tape, h.output, h.size, h.block⟩
theorem Turn.below {g B : Nat} {w w' : World} (h : Turn g w w') (hB : B ≤ g) (hs : B ≤ w.heap.size) : Below B w w' := ⟨h.os, h.tape, h.output, h.size, fun j hj => h.block j (by omega) (fun e => by simp at e; omega)⟩
theorem Turn.same {g : Nat} {w w' : World} (k : Same w w') : Turn g w w' := Turn.ofBelow k.below
theorem Sc.set {W : World} {g : Nat} {s : ByteArray} {a : Nat} (h : Sc W g s a) (b : Nat) : Sc (W.setCell ⟨g, 1, none⟩ (.int .i64 b)) g s b :=
  ⟨by rw [World.cell?_setCell_other _ _ _ _ (fun e => by injection e with _ e2; cases e2)]; exact h.c0, World.cell?_setCell_same _ _ _ h.c1, by simp [h.fr]⟩
/-- Digits with single low lines between them, as the reference counts. -/
def hdk (b : Nat) : List UInt8 → Bool
  | [] => false
  | c :: _ => okd b c
def rdg (b : Nat) : List UInt8 → Nat → Nat → Nat × Nat
  | [], n, z => (n, z)
  | c :: l, n, z => if okd b c then rdg b l (min (b * n + (dv c).toNat) 1099511627776) (z + 1) else if decide (c.toNat = 95) && hdk b l then rdg b l n (z + 1) else (n, z)
theorem vlb_ok {b : Nat} {c : UInt8} (h : okd b c = true) : vlb b c = ((dv c).toNat : Int) ∧ ((dv c).toNat : Int) < b := by
  unfold okd at h
  rw [Bool.and_eq_true, decide_eq_true_eq, decide_eq_true_eq] at h
  unfold vlb
  rw [if_neg (by omega)]
  omega
theorem vlb_no {b : Nat} {c : UInt8} (h : okd b c = false) : vlb b c = -1 := by
  have hd := dv_lt c
  unfold okd at h
  unfold vlb
  by_cases hb : (b : Int) ≤ dv c
  · rw [if_pos hb]
  · rw [if_neg hb]
    have : ¬ 0 ≤ dv c := fun h0 => by rw [decide_eq_true h0, decide_eq_true (by omega)] at h; cases h
    omega
theorem chr_drop {s : ByteArray} {k : Nat} (h : k < s.size) : s.data.toList.drop k = chr s k :: s.data.toList.drop (k + 1) := by
  have hl : k < s.data.toList.length := by rw [← Lib.size_eq]; exact h
  rw [drop_at hl]
  unfold chr
  rw [List.getD_eq_getElem?_getD, List.getElem?_eq_getElem hl]
  rfl
theorem chr_end {s : ByteArray} {k : Nat} (h : s.size ≤ k) : chr s k = 0 ∧ s.data.toList.drop k = [] := by
  unfold chr
  rw [List.getD_eq_getElem?_getD, List.getElem?_eq_none (by rw [← Lib.size_eq]; exact h), List.drop_eq_nil_of_le (by rw [← Lib.size_eq]; exact h)]
  exact ⟨rfl, rfl⟩
theorem hdk_chr (b : Nat) (s : ByteArray) (k : Nat) : hdk b (s.data.toList.drop k) = okd b (chr s k) := by
  by_cases h : k < s.size
  · rw [chr_drop h]; rfl
  · obtain ⟨e1, e2⟩ := chr_end (s := s) (k := k) (by omega)
    rw [e1, e2]
    unfold okd
    rw [show dv 0 = -1 by decide]
    rfl
def atOf (g : Nat) (w : World) : Nat := (((w.cell? ⟨g, 1, none⟩).map intOf).getD 0).toNat
theorem Sc.atOf {w : World} {g a : Nat} {s : ByteArray} (h : Sc w g s a) : atOf g w = a := by
  unfold Go.Proofs.YtnponognncdkcaaDoor.atOf
  rw [h.c1]
  simp [intOf]
theorem rdg_more {b n z k : Nat} {s : ByteArray} (h : k < s.size) (ho : okd b (chr s k) = true) : rdg b (s.data.toList.drop k) n z = rdg b (s.data.toList.drop (k + 1)) (min (b * n + (dv (chr s k)).toNat) 1099511627776) (z + 1) := by
  rw [chr_drop h, rdg, if_pos ho]
theorem rdg_line {b n z k : Nat} {s : ByteArray} (h : k < s.size) (ho : okd b (chr s k) = false) (h5 : (chr s k).toNat = 95) (h2 : okd b (chr s (k + 1)) = true) : rdg b (s.data.toList.drop k) n z = rdg b (s.data.toList.drop (k + 1)) n (z + 1) := by
  rw [chr_drop h, rdg, if_neg (by rw [ho]; exact Bool.false_ne_true), hdk_chr, h2, decide_eq_true h5]
  rfl
theorem rdg_stop {b n z k : Nat} {s : ByteArray} (ho : okd b (chr s k) = false) (h5 : ¬ ((chr s k).toNat = 95 ∧ okd b (chr s (k + 1)) = true)) : rdg b (s.data.toList.drop k) n z = (n, z) := by
  by_cases h : k < s.size
  · rw [chr_drop h, rdg, if_neg (by rw [ho]; exact Bool.false_ne_true), hdk_chr, if_neg (by rw [Bool.and_eq_true, decide_eq_true_eq]; exact h5)]
  · rw [(chr_end (s := s) (k := k) (by omega)).2, rdg]
theorem chr_lt {s : ByteArray} {k : Nat} (h : ¬ (chr s k).toNat = 0) : k < s.size := by
  by_cases hk : k < s.size
  · exact hk
  · rw [(chr_end (s := s) (k := k) (by omega)).1] at h; exact absurd rfl h
theorem okd_lt {b : Nat} {s : ByteArray} {k : Nat} (h : okd b (chr s k) = true) : k < s.size := by
  refine chr_lt fun e => ?_
  rw [show chr s k = 0 from UInt8.toNat_inj.1 e] at h
  unfold okd at h
  rw [show dv 0 = -1 by decide] at h
  simp at h
theorem digits_no (s : ByteArray) (g a b : Nat) (w : World) (h : Sc w g s a) (ha : a ≤ 70000) (ho : okd b (chr s a) = false) : Calls Tryd.prog 72 #[.pointer (some ⟨g, 0, none⟩), .int .i64 b] w fun e w' => e = .returned (.tuple #[.int .i64 0, .bool false]) ∧ Same w w' := by
  have C0 : Hid (Calls Tryd.prog 34 #[.pointer (some ⟨g, 0, none⟩), .int .i64 0] w fun e w' => e = .returned (.int .u8 (chr s a).toNat) ∧ Same w w') := c_r s g a 0 w h ha (by omega)
  have V : Hid (∀ W, Calls Tryd.prog 85 #[.int .u8 (chr s a).toNat, .int .i64 b] W fun e w' => e = .returned (.int .i64 (-1)) ∧ w' = W) := fun W => by have q := rvalue_c (chr s a) b W; rw [vlb_no ho] at q; exact q
  go_enter Tryd.func72, Tryd.ntmps72
  go_wp2_with (first
    | (go_at_call 34; (with_reducible refine C0.out.mono ?_); rintro e w1 ⟨rfl, k1⟩)
    | (go_at_call 85; (with_reducible refine (V.out _).mono ?_); rintro e w' ⟨rfl, hw⟩; subst w'))
  go_ret2
  exact ⟨rfl, k1⟩
set_option maxHeartbeats 4000000 in
theorem digits_yes (s : ByteArray) (g a b : Nat) (w : World) (h : Sc w g s a) (hs : s.size ≤ 70000) (hb : b ≤ 16) (ho : okd b (chr s a) = true) : Calls Tryd.prog 72 #[.pointer (some ⟨g, 0, none⟩), .int .i64 b] w fun e w' => e = .returned (.tuple #[.int .i64 ((rdg b (s.data.toList.drop a) 0 0).1 : Nat), .bool true]) ∧ Sc w' g s (a + (rdg b (s.data.toList.drop a) 0 0).2) ∧ Turn g w w' := by
  have hla := okd_lt ho
  have C0 : Hid (Calls Tryd.prog 34 #[.pointer (some ⟨g, 0, none⟩), .int .i64 0] w fun e w' => e = .returned (.int .u8 (chr s a).toNat) ∧ Same w w') := c_r s g a 0 w h (by omega) (by omega)
  have V : Hid (∀ W, Calls Tryd.prog 85 #[.int .u8 (chr s a).toNat, .int .i64 b] W fun e w' => e = .returned (.int .i64 ((dv (chr s a)).toNat : Int)) ∧ w' = W) := fun W => by have q := rvalue_c (chr s a) b W; rw [(vlb_ok ho).1] at q; exact q
  generalize (dv (chr s a)).toNat = d0 at V
  generalize hr : rdg b (s.data.toList.drop a) 0 0 = R at *
  replace hr := hid_as hr
  go_enter Tryd.func72, Tryd.ntmps72
  go_wp2_with (first
    | (go_at_call 34; (with_reducible refine C0.out.mono ?_); rintro e w1 ⟨rfl, k1⟩)
    | (go_at_call 85; (with_reducible refine (V.out _).mono ?_); rintro e w' ⟨rfl, hw⟩; subst w'))
  have hS0 := hid_as (h.same k1)
  have hT0 := hid_as (Turn.same (g := g) k1)
  clear C0 V k1
  go_loopw [6] (fun n wr => ∃ k N : Nat, N ≤ 1099511627776 ∧ a + k ≤ s.size ∧ n = .int .i64 N ∧ Hid (Sc wr g s (a + k)) ∧ Hid (Turn g w wr) ∧ Hid (R = rdg b (s.data.toList.drop (a + k)) N k)) (fun n wr => s.size - atOf g wr)
  case atStart => exact ⟨0, 0, by omega, by omega, rfl, hS0, hT0, hid_as hr.out.symm⟩
  case round =>
    obtain ⟨k, N, hN, hk, rfl, hS, hT, hR⟩ := hrel
    have hat := hid_as hS.out.atOf
    have C0 : Hid (∀ W, Sc W g s (a + k) → Calls Tryd.prog 34 #[.pointer (some ⟨g, 0, none⟩), .int .i64 0] W fun e w' => e = .returned (.int .u8 (chr s (a + k)).toNat) ∧ Same W w') := fun W q => c_r s g (a + k) 0 W q (by omega) (by omega)
    have C1 : Hid (∀ W, Sc W g s (a + k) → Calls Tryd.prog 34 #[.pointer (some ⟨g, 0, none⟩), .int .i64 1] W fun e w' => e = .returned (.int .u8 (chr s (a + k + 1)).toNat) ∧ Same W w') := fun W q => c_r s g (a + k) 1 W q (by omega) (by omega)
    have m0 : (0 : Int) ≤ (b : Int) * N := Int.mul_nonneg (by omega) (by omega)
    have m1 : (b : Int) * N ≤ 17592186044416 := by
      have q := Nat.mul_le_mul hb hN
      have q2 : ((b * N : Nat) : Int) ≤ ((16 * 1099511627776 : Nat) : Int) := Int.ofNat_le.2 q
      rw [Int.natCast_mul] at q2
      exact q2
    have mw : IntKind.i64.wrap ((b : Int) * N) = (b : Int) * N := by rw [IntKind.wrap_i64]; omega
    cases hok : okd b (chr s (a + k)) with
    | true =>
      have hlt := okd_lt hok
      obtain ⟨v1, v2⟩ := vlb_ok hok
      have V0 : Hid (∀ W, Calls Tryd.prog 85 #[.int .u8 (chr s (a + k)).toNat, .int .i64 b] W fun e w' => e = .returned (.int .i64 ((dv (chr s (a + k))).toNat : Int)) ∧ w' = W) := fun W => by have q := rvalue_c (chr s (a + k)) b W; rw [v1] at q; exact q
      have hR2 := hid_as (hR.out.trans (rdg_more hlt hok))
      clear hok v1 hR
      have hNN : Hid (∃ M : Nat, (M : Int) = min ((b : Int) * N + ((dv (chr s (a + k))).toNat : Int)) 1099511627776 ∧ M ≤ 1099511627776 ∧ R = rdg b (s.data.toList.drop (a + k + 1)) M (k + 1)) := ⟨_, by rw [cmin, Int.natCast_add, Int.natCast_mul]; rfl, Nat.min_le_right _ _, hR2.out⟩
      clear hR2
      generalize (dv (chr s (a + k))).toNat = dd at *
      generalize (chr s (a + k)).toNat = cc at *
      go_wp2_with (first
        | (go_at_call 34; (with_reducible refine (C0.out _ hS.out).mono ?_); rintro e w1 ⟨rfl, k1⟩; replace hS := hid_as (hS.out.same k1); replace hT := hid_as (hT.out.trans (Turn.same k1)); clear k1; have d1 := hS.out.c1; have df := hS.out.fr)
        | (go_at_call 85; (with_reducible refine (V0.out _).mono ?_); rintro e w' ⟨rfl, hw⟩; subst w'))
      go_roundw
      case rel =>
        obtain ⟨M, e1, e2, e3⟩ := hNN.out
        exact ⟨k + 1, M, e2, by omega, by rw [e1], hid_as (by have q := hS.out.set (a + (k + 1)); rw [show ((a + (k + 1) : Nat) : Int) = (a : Int) + k + 1 by omega] at q; exact q), hid_as (hT.out.set 1 _), hid_as e3⟩
      case measure =>
        have q := hS.out.set (a + (k + 1))
        rw [show ((a + (k + 1) : Nat) : Int) = (a : Int) + k + 1 by omega] at q
        rw [q.atOf, hat.out]
        omega
    | false =>
      have V0 : Hid (∀ W, Calls Tryd.prog 85 #[.int .u8 (chr s (a + k)).toNat, .int .i64 b] W fun e w' => e = .returned (.int .i64 (-1)) ∧ w' = W) := fun W => by have q := rvalue_c (chr s (a + k)) b W; rw [vlb_no hok] at q; exact q
      by_cases h5 : (chr s (a + k)).toNat = 95
      · have g5 : (((chr s (a + k)).toNat : Int) == 95) = true := by rw [beq_iff_eq]; omega
        cases hn : okd b (chr s (a + k + 1)) with
        | true =>
          obtain ⟨v1, v2⟩ := vlb_ok hn
          have V1 : Hid (∀ W, Calls Tryd.prog 85 #[.int .u8 (chr s (a + k + 1)).toNat, .int .i64 b] W fun e w' => e = .returned (.int .i64 ((dv (chr s (a + k + 1))).toNat : Int)) ∧ w' = W) := fun W => by have q := rvalue_c (chr s (a + k + 1)) b W; rw [v1] at q; exact q
          have hlt := okd_lt hn
          have hR2 := hid_as (hR.out.trans (rdg_line (by omega) hok h5 hn))
          clear hok hn hR h5 v1
          generalize (dv (chr s (a + k + 1))).toNat = dd at *
          generalize (chr s (a + k)).toNat = cc at *
          generalize (chr s (a + k + 1)).toNat = c2 at *
          go_wp2_with (first
            | (go_at_call 34; (first | (with_reducible refine (C0.out _ hS.out).mono ?_) | (with_reducible refine (C1.out _ hS.out).mono ?_)); rintro e w1 ⟨rfl, k1⟩; replace hS := hid_as (hS.out.same k1); replace hT := hid_as (hT.out.trans (Turn.same k1)); clear k1; have d1 := hS.out.c1; have df := hS.out.fr)
            | (go_at_call 85; (first | (with_reducible refine (V0.out _).mono ?_) | (with_reducible refine (V1.out _).mono ?_)); rintro e w' ⟨rfl, hw⟩; subst w'))
          go_roundw
          case rel => exact ⟨k + 1, N, hN, by omega, rfl, hid_as (by have q := hS.out.set (a + (k + 1)); rw [show ((a + (k + 1) : Nat) : Int) = (a : Int) + k + 1 by omega] at q; exact q), hid_as (hT.out.set 1 _), hR2⟩
          case measure =>
            have q := hS.out.set (a + (k + 1))
            rw [show ((a + (k + 1) : Nat) : Int) = (a : Int) + k + 1 by omega] at q
            rw [q.atOf, hat.out]
            omega
        | false =>
          have V1 : Hid (∀ W, Calls Tryd.prog 85 #[.int .u8 (chr s (a + k + 1)).toNat, .int .i64 b] W fun e w' => e = .returned (.int .i64 (-1)) ∧ w' = W) := fun W => by have q := rvalue_c (chr s (a + k + 1)) b W; rw [vlb_no hn] at q; exact q
          have hR2 := hid_as (hR.out.trans (rdg_stop hok (fun q => by rw [hn] at q; cases q.2)))
          clear hok hn hR h5
          generalize (chr s (a + k)).toNat = cc at *
          generalize (chr s (a + k + 1)).toNat = c2 at *
          go_wp2_with (first
            | (go_at_call 34; (first | (with_reducible refine (C0.out _ hS.out).mono ?_) | (with_reducible refine (C1.out _ hS.out).mono ?_)); rintro e w1 ⟨rfl, k1⟩; replace hS := hid_as (hS.out.same k1); replace hT := hid_as (hT.out.trans (Turn.same k1)); clear k1; have d1 := hS.out.c1; have df := hS.out.fr)
            | (go_at_call 85; (first | (with_reducible refine (V0.out _).mono ?_) | (with_reducible refine (V1.out _).mono ?_)); rintro e w' ⟨rfl, hw⟩; subst w'))
          go_ret2
          exact ⟨ret_nb (by rw [hR2.out]) rfl, by rw [hR2.out]; exact hS.out, hT.out⟩
      · have g5 : (((chr s (a + k)).toNat : Int) == 95) = false := by rw [beq_eq_false_iff_ne]; omega
        have hR2 := hid_as (hR.out.trans (rdg_stop hok (fun q => h5 q.1)))
        clear hok hR h5
        generalize (chr s (a + k)).toNat = cc at *
        go_wp2_with (first
          | (go_at_call 34; (first | (with_reducible refine (C0.out _ hS.out).mono ?_) | (with_reducible refine (C1.out _ hS.out).mono ?_)); rintro e w1 ⟨rfl, k1⟩; replace hS := hid_as (hS.out.same k1); replace hT := hid_as (hT.out.trans (Turn.same k1)); clear k1; have d1 := hS.out.c1; have df := hS.out.fr)
          | (go_at_call 85; (with_reducible refine (V0.out _).mono ?_); rintro e w' ⟨rfl, hw⟩; subst w'))
        go_ret2
        exact ⟨ret_nb (by rw [hR2.out]) rfl, by rw [hR2.out]; exact hS.out, hT.out⟩
end Go.Proofs.YtnponognncdkcaaDoor
