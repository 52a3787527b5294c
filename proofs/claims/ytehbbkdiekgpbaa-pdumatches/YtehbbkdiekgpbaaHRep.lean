/- The walk: two replies held against one another. -/
import Derived.Test.YtehbbkdiekgpbaaJ2
namespace Go.Proofs.Ytehbbkdiekgpbaa
open Go.RowKit
open Pdu
theorem hrep_eq (a0 a1 a2 a3 b0 b1 b2 b3 : Nat) (a4 b4 : List Bool) (a5 b5 : List Nat) : (a0 = b0 ∧ a1 = b1 ∧ a2 = b2 ∧ a3 = b3 ∧ a4 = b4 ∧ a5 = b5) ↔ (⟨a0, a1, a2, a3, a4, a5⟩ : Rp) = ⟨b0, b1, b2, b3, b4, b5⟩ := by
  simp
set_option maxRecDepth 100000 in
set_option maxHeartbeats 1600000 in
theorem hrep_n0 (a0 a1 a2 a3 b0 b1 b2 b3 : Nat) (a4 b4 : List Bool) (a5 b5 : List Nat) (ao bo co eo : Option Addr) (ac bc cc ec : Nat) (w : World) (e0 : a0 ≠ b0) : Calls Try.prog 23 #[rpV a0 a1 a2 a3 (.slice ao (bls a4).length ac) (.slice co (u16s a5).length cc), rpV b0 b1 b2 b3 (.slice bo (bls b4).length bc) (.slice eo (u16s b5).length ec)] w fun e w' => ∃ t, e = .returned (.bool t) ∧ Below w.heap.size w w' ∧ (t = true ↔ (a0 = b0 ∧ a1 = b1 ∧ a2 = b2 ∧ a3 = b3 ∧ a4 = b4 ∧ a5 = b5)) := by
  unfold rpV
  have g0 : ((a0 : Int) == (b0 : Int)) = false := by rw [beq_eq_false_iff_ne]; omega
  go_enter Try.func23, Try.ntmps23
  go_wp2
  go_ret
  exact ⟨_, rfl, (below_new (below_new (Below.refl _ w) _) _), by simp [e0]⟩
set_option maxRecDepth 100000 in
set_option maxHeartbeats 1600000 in
theorem hrep_n1 (a0 a1 a2 a3 b1 b2 b3 : Nat) (a4 b4 : List Bool) (a5 b5 : List Nat) (ao bo co eo : Option Addr) (ac bc cc ec : Nat) (w : World) (e1 : a1 ≠ b1) : Calls Try.prog 23 #[rpV a0 a1 a2 a3 (.slice ao (bls a4).length ac) (.slice co (u16s a5).length cc), rpV a0 b1 b2 b3 (.slice bo (bls b4).length bc) (.slice eo (u16s b5).length ec)] w fun e w' => ∃ t, e = .returned (.bool t) ∧ Below w.heap.size w w' ∧ (t = true ↔ (a0 = a0 ∧ a1 = b1 ∧ a2 = b2 ∧ a3 = b3 ∧ a4 = b4 ∧ a5 = b5)) := by
  unfold rpV
  have g1 : ((a1 : Int) == (b1 : Int)) = false := by rw [beq_eq_false_iff_ne]; omega
  go_enter Try.func23, Try.ntmps23
  go_wp2
  go_ret
  exact ⟨_, rfl, (below_new (below_new (Below.refl _ w) _) _), by simp [e1]⟩
set_option maxRecDepth 100000 in
set_option maxHeartbeats 1600000 in
theorem hrep_n2 (a0 a1 a2 a3 b2 b3 : Nat) (a4 b4 : List Bool) (a5 b5 : List Nat) (ao bo co eo : Option Addr) (ac bc cc ec : Nat) (w : World) (e2 : a2 ≠ b2) : Calls Try.prog 23 #[rpV a0 a1 a2 a3 (.slice ao (bls a4).length ac) (.slice co (u16s a5).length cc), rpV a0 a1 b2 b3 (.slice bo (bls b4).length bc) (.slice eo (u16s b5).length ec)] w fun e w' => ∃ t, e = .returned (.bool t) ∧ Below w.heap.size w w' ∧ (t = true ↔ (a0 = a0 ∧ a1 = a1 ∧ a2 = b2 ∧ a3 = b3 ∧ a4 = b4 ∧ a5 = b5)) := by
  unfold rpV
  have g2 : ((a2 : Int) == (b2 : Int)) = false := by rw [beq_eq_false_iff_ne]; omega
  go_enter Try.func23, Try.ntmps23
  go_wp2
  go_ret
  exact ⟨_, rfl, (below_new (below_new (Below.refl _ w) _) _), by simp [e2]⟩
set_option maxRecDepth 100000 in
set_option maxHeartbeats 1600000 in
theorem hrep_n3 (a0 a1 a2 a3 b3 : Nat) (a4 b4 : List Bool) (a5 b5 : List Nat) (ao bo co eo : Option Addr) (ac bc cc ec : Nat) (w : World) (e3 : a3 ≠ b3) : Calls Try.prog 23 #[rpV a0 a1 a2 a3 (.slice ao (bls a4).length ac) (.slice co (u16s a5).length cc), rpV a0 a1 a2 b3 (.slice bo (bls b4).length bc) (.slice eo (u16s b5).length ec)] w fun e w' => ∃ t, e = .returned (.bool t) ∧ Below w.heap.size w w' ∧ (t = true ↔ (a0 = a0 ∧ a1 = a1 ∧ a2 = a2 ∧ a3 = b3 ∧ a4 = b4 ∧ a5 = b5)) := by
  unfold rpV
  have g3 : ((a3 : Int) == (b3 : Int)) = false := by rw [beq_eq_false_iff_ne]; omega
  go_enter Try.func23, Try.ntmps23
  go_wp2
  go_ret
  exact ⟨_, rfl, (below_new (below_new (Below.refl _ w) _) _), by simp [e3]⟩
set_option maxRecDepth 100000 in
set_option maxHeartbeats 1600000 in
theorem hrep_n4 (a0 a1 a2 a3 : Nat) (a4 b4 : List Bool) (a5 b5 : List Nat) (ao bo co eo : Option Addr) (ac bc cc ec : Nat) (w : World) (H4 : ∀ (W : World), Below w.heap.size w W → Calls Try.prog 26 #[.slice ao (bls a4).length ac, .slice bo (bls b4).length bc] W fun e w' => e = .returned (.bool (decide (a4 = b4))) ∧ Below W.heap.size W w') (f4 : a4 ≠ b4) : Calls Try.prog 23 #[rpV a0 a1 a2 a3 (.slice ao (bls a4).length ac) (.slice co (u16s a5).length cc), rpV a0 a1 a2 a3 (.slice bo (bls b4).length bc) (.slice eo (u16s b5).length ec)] w fun e w' => ∃ t, e = .returned (.bool t) ∧ Below w.heap.size w w' ∧ (t = true ↔ (a0 = a0 ∧ a1 = a1 ∧ a2 = a2 ∧ a3 = a3 ∧ a4 = b4 ∧ a5 = b5)) := by
  have hd4 := decide_eq_false f4
  unfold rpV
  go_enter Try.func23, Try.ntmps23
  go_wp2_with fail
  refine (H4 _ (below_new (below_new (Below.refl _ w) _) _)).mono ?_
  rintro e w1 ⟨rfl, hb⟩
  have K1 : Hid (Below w.heap.size w w1) := below_and (below_new (below_new (Below.refl _ w) _) _) hb
  have c5 : w1.cell? ⟨w.heap.size, 5, none⟩ = some (.slice co (u16s a5).length cc) := (((Box.new w (.int .u8 a0) (.int .u8 a1) (.int .u16 a2) (.int .u16 a3) (.slice ao (bls a4).length ac) (.slice co (u16s a5).length cc) 44).grow _).below hb (by simp only [World.size_alloc]; omega)).c5
  have e5 : w1.cell? ⟨w.heap.size + 1, 5, none⟩ = some (.slice eo (u16s b5).length ec) := by
    have h := ((Box.new (w.alloc (.cells #[.int .u8 a0, .int .u8 a1, .int .u16 a2, .int .u16 a3, .slice ao (bls a4).length ac, .slice co (u16s a5).length cc] 44)) (.int .u8 a0) (.int .u8 a1) (.int .u16 a2) (.int .u16 a3) (.slice bo (bls b4).length bc) (.slice eo (u16s b5).length ec) 44).below hb (by simp only [World.size_alloc]; omega)).c5
    rw [World.size_alloc] at h
    exact h
  clear hb
  rw [hd4]
  go_wp2
  go_ret
  exact ⟨_, rfl, K1, by simp [f4]⟩
set_option maxRecDepth 100000 in
set_option maxHeartbeats 1600000 in
theorem hrep_n5 (a0 a1 a2 a3 : Nat) (a4 : List Bool) (a5 b5 : List Nat) (ao bo co eo : Option Addr) (ac bc cc ec : Nat) (w : World) (H4 : ∀ (W : World), Below w.heap.size w W → Calls Try.prog 26 #[.slice ao (bls a4).length ac, .slice bo (bls a4).length bc] W fun e w' => e = .returned (.bool (decide (a4 = a4))) ∧ Below W.heap.size W w') (H5 : ∀ (W : World), Below w.heap.size w W → Calls Try.prog 40 #[.slice co (u16s a5).length cc, .slice eo (u16s b5).length ec] W fun e w' => e = .returned (.bool (decide (a5 = b5))) ∧ Below W.heap.size W w') : Calls Try.prog 23 #[rpV a0 a1 a2 a3 (.slice ao (bls a4).length ac) (.slice co (u16s a5).length cc), rpV a0 a1 a2 a3 (.slice bo (bls a4).length bc) (.slice eo (u16s b5).length ec)] w fun e w' => ∃ t, e = .returned (.bool t) ∧ Below w.heap.size w w' ∧ (t = true ↔ (a0 = a0 ∧ a1 = a1 ∧ a2 = a2 ∧ a3 = a3 ∧ a4 = a4 ∧ a5 = b5)) := by
  have hd4 : decide (a4 = a4) = true := decide_eq_true rfl
  unfold rpV
  go_enter Try.func23, Try.ntmps23
  go_wp2_with fail
  refine (H4 _ (below_new (below_new (Below.refl _ w) _) _)).mono ?_
  rintro e w1 ⟨rfl, hb⟩
  have K1 : Hid (Below w.heap.size w w1) := below_and (below_new (below_new (Below.refl _ w) _) _) hb
  have c5 : w1.cell? ⟨w.heap.size, 5, none⟩ = some (.slice co (u16s a5).length cc) := (((Box.new w (.int .u8 a0) (.int .u8 a1) (.int .u16 a2) (.int .u16 a3) (.slice ao (bls a4).length ac) (.slice co (u16s a5).length cc) 44).grow _).below hb (by simp only [World.size_alloc]; omega)).c5
  have e5 : w1.cell? ⟨w.heap.size + 1, 5, none⟩ = some (.slice eo (u16s b5).length ec) := by
    have h := ((Box.new (w.alloc (.cells #[.int .u8 a0, .int .u8 a1, .int .u16 a2, .int .u16 a3, .slice ao (bls a4).length ac, .slice co (u16s a5).length cc] 44)) (.int .u8 a0) (.int .u8 a1) (.int .u16 a2) (.int .u16 a3) (.slice bo (bls a4).length bc) (.slice eo (u16s b5).length ec) 44).below hb (by simp only [World.size_alloc]; omega)).c5
    rw [World.size_alloc] at h
    exact h
  clear hb
  rw [hd4]
  go_wp2_with fail
  refine (H5 _ K1.out).mono ?_
  rintro e w2 ⟨rfl, hb2⟩
  have K2 : Hid (Below w.heap.size w w2) := below_and K1.out hb2
  clear hb2
  go_wp2
  go_ret
  exact ⟨_, rfl, K2, by simp⟩
theorem hrep_c {va vb : Value} {a b : Rp} {w : World} (h : IsRp w va a) (k : IsRp w vb b) (m4 : a.bits.length ≤ 1000000) (m5 : a.regs.length ≤ 1000000) :
    Calls Try.prog 23 #[va, vb] w fun e w' => ∃ t, e = .returned (.bool t) ∧ Below w.heap.size w w' ∧ (t = true ↔ a = b) := by
  obtain ⟨_, av, aw, rfl, h4, h5⟩ := h
  obtain ⟨_, bv, bw, rfl, k4, k5⟩ := k
  have H4 : ∀ (W : World), Below w.heap.size w W → Calls Try.prog 26 #[av, bv] W fun e w' => e = .returned (.bool (decide (a.bits = b.bits))) ∧ Below W.heap.size W w' := fun W h => (hbits_c (h4.below h) (k4.below h) m4).mono fun e w' ⟨he, d, hw⟩ => ⟨he, by rw [hw]; exact below_drewN (Below.refl _ W) d⟩
  have H5 : ∀ (W : World), Below w.heap.size w W → Calls Try.prog 40 #[aw, bw] W fun e w' => e = .returned (.bool (decide (a.regs = b.regs))) ∧ Below W.heap.size W w' := fun W h => (hregs_c (h5.below h) (k5.below h) m5).mono fun e w' ⟨he, d, hw⟩ => ⟨he, by rw [hw]; exact below_drewN (Below.refl _ W) d⟩
  have SA := h4.shape
  have SB := k4.shape
  have TA := h5.shape
  have TB := k5.shape
  clear h4 k4 h5 k5 m4 m5
  obtain ⟨a0, a1, a2, a3, a4, a5⟩ := a
  obtain ⟨b0, b1, b2, b3, b4, b5⟩ := b
  simp only at H4 H5 SA SB TA TB ⊢
  obtain ⟨ao, ac, rfl⟩ := SA
  obtain ⟨bo, bc, rfl⟩ := SB
  obtain ⟨co, cc, rfl⟩ := TA
  obtain ⟨eo, ec, rfl⟩ := TB
  have fin : ∀ {e : Ending} {w' : World}, (∃ t, e = .returned (.bool t) ∧ Below w.heap.size w w' ∧ (t = true ↔ (a0 = b0 ∧ a1 = b1 ∧ a2 = b2 ∧ a3 = b3 ∧ a4 = b4 ∧ a5 = b5))) → ∃ t, e = .returned (.bool t) ∧ Below w.heap.size w w' ∧ (t = true ↔ (⟨a0, a1, a2, a3, a4, a5⟩ : Rp) = ⟨b0, b1, b2, b3, b4, b5⟩) := fun ⟨t, he, hb, ht⟩ => ⟨t, he, hb, ht.trans (hrep_eq a0 a1 a2 a3 b0 b1 b2 b3 a4 b4 a5 b5)⟩
  by_cases e0 : a0 = b0
  case neg => exact (hrep_n0 a0 a1 a2 a3 b0 b1 b2 b3 a4 b4 a5 b5 ao bo co eo ac bc cc ec w e0).mono fun _ _ h => fin h
  subst e0
  by_cases e1 : a1 = b1
  case neg => exact (hrep_n1 a0 a1 a2 a3 b1 b2 b3 a4 b4 a5 b5 ao bo co eo ac bc cc ec w e1).mono fun _ _ h => fin h
  subst e1
  by_cases e2 : a2 = b2
  case neg => exact (hrep_n2 a0 a1 a2 a3 b2 b3 a4 b4 a5 b5 ao bo co eo ac bc cc ec w e2).mono fun _ _ h => fin h
  subst e2
  by_cases e3 : a3 = b3
  case neg => exact (hrep_n3 a0 a1 a2 a3 b3 a4 b4 a5 b5 ao bo co eo ac bc cc ec w e3).mono fun _ _ h => fin h
  subst e3
  by_cases e4 : a4 = b4
  case neg => exact (hrep_n4 a0 a1 a2 a3 a4 b4 a5 b5 ao bo co eo ac bc cc ec w H4 e4).mono fun _ _ h => fin h
  subst e4
  exact (hrep_n5 a0 a1 a2 a3 a4 a5 b5 ao bo co eo ac bc cc ec w H4 H5).mono fun _ _ h => fin h
end Go.Proofs.Ytehbbkdiekgpbaa
