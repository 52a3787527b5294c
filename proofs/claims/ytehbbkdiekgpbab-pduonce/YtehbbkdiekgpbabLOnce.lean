/- The walk of PduOnce. -/
import Derived.Test.YtehbbkdiekgpbabKN
import Derived.Test.YtehbbkdiekgpbabHReq2
import Derived.Test.YtehbbkdiekgpbabRqYes
import Derived.Test.YtehbbkdiekgpbabPlain3
namespace Go.Proofs.Ytehbbkdiekgpbab
open Go.RowKit
open Pdu
/-- Two boxes, one behind the other, and what they hold still. -/
theorem two_boxes {w w1 : World} {x0 x1 x2 x3 x4 x5 y0 y1 y2 y3 y4 y5 : Value} {t u : TypeId} (k : Below ((w.alloc (.cells #[x0, x1, x2, x3, x4, x5] t)).alloc (.cells #[y0, y1, y2, y3, y4, y5] u)).heap.size ((w.alloc (.cells #[x0, x1, x2, x3, x4, x5] t)).alloc (.cells #[y0, y1, y2, y3, y4, y5] u)) w1) :
    Below w.heap.size w w1 ∧ Box w1 w.heap.size x0 x1 x2 x3 x4 x5 ∧ Box w1 (w.heap.size + 1) y0 y1 y2 y3 y4 y5 ∧ w.heap.size + 1 < w1.heap.size := by
  have hs := k.size
  simp only [World.size_alloc] at hs
  refine ⟨below_and (below_new (below_new (Below.refl _ w) _) _) k, ((Box.new w x0 x1 x2 x3 x4 x5 t).grow _).below k (by simp only [World.size_alloc]; omega), ?_, by omega⟩
  have h := (Box.new (w.alloc (.cells #[x0, x1, x2, x3, x4, x5] t)) y0 y1 y2 y3 y4 y5 u).below k (by simp only [World.size_alloc]; omega)
  rw [World.size_alloc] at h
  exact h
set_option maxRecDepth 100000 in
set_option maxHeartbeats 1600000 in
theorem once_heavy (a0 a1 a2 a3 b0 b1 b2 b3 : Nat) (a4 : List Bool) (a5 : List Nat) (av aw bv bw : Value) (w : World) (ha : IsRq w (rqV a0 a1 a2 a3 av aw) ⟨a0, a1, a2, a3, a4, a5⟩) (hh : ¬ (a4.length ≤ 2500 ∧ a5.length ≤ 200)) :
    Calls Try.prog 3 #[rqV a0 a1 a2 a3 av aw, rqV b0 b1 b2 b3 bv bw] w fun e w' => e = .returned (.bool true) ∧ Below w.heap.size w w' := by
  have HA : Hid (IsRq w (rqV a0 a1 a2 a3 av aw) ⟨a0, a1, a2, a3, a4, a5⟩) := ha
  have hd := decide_eq_false hh
  clear ha hh
  unfold rqV at HA ⊢
  go_enter Try.func3, Try.ntmps3
  go_wp2_with fail
  refine (known_law _).mono ?_
  rintro e w1 ⟨rfl, k1⟩
  obtain ⟨k1, A1, B1, hs1⟩ := two_boxes k1
  have K1 : Hid (Below w.heap.size w w1) := k1
  have H1 : Hid (IsRq w1 (rqV a0 a1 a2 a3 av aw) ⟨a0, a1, a2, a3, a4, a5⟩) := HA.out.below k1
  obtain ⟨c0, c1, c2, c3, c4, c5⟩ := A1
  clear B1 k1
  go_wp2_with fail
  refine (light_c H1.out).mono ?_
  rintro e w2 ⟨rfl, k2⟩
  have K2 : Hid (Below w.heap.size w w2) := below_and K1.out k2
  rw [hd]
  clear k2 c0 c1 c2 c3 c4 c5
  go_wp2
  go_ret
  exact ⟨rfl, K2⟩
set_option maxRecDepth 100000 in
set_option maxHeartbeats 1600000 in
theorem once_heavy2 (a0 a1 a2 a3 b0 b1 b2 b3 : Nat) (a4 b4 : List Bool) (a5 b5 : List Nat) (av aw bv bw : Value) (w : World) (ha : IsRq w (rqV a0 a1 a2 a3 av aw) ⟨a0, a1, a2, a3, a4, a5⟩) (hb : IsRq w (rqV b0 b1 b2 b3 bv bw) ⟨b0, b1, b2, b3, b4, b5⟩) (hl : a4.length ≤ 2500 ∧ a5.length ≤ 200) (hh : ¬ (b4.length ≤ 2500 ∧ b5.length ≤ 200)) :
    Calls Try.prog 3 #[rqV a0 a1 a2 a3 av aw, rqV b0 b1 b2 b3 bv bw] w fun e w' => e = .returned (.bool true) ∧ Below w.heap.size w w' := by
  have HA : Hid (IsRq w (rqV a0 a1 a2 a3 av aw) ⟨a0, a1, a2, a3, a4, a5⟩) := ha
  have HB : Hid (IsRq w (rqV b0 b1 b2 b3 bv bw) ⟨b0, b1, b2, b3, b4, b5⟩) := hb
  have hd := decide_eq_false hh
  have hc := decide_eq_true hl
  clear ha hb hh hl
  unfold rqV at HA HB ⊢
  go_enter Try.func3, Try.ntmps3
  go_wp2_with fail
  refine (known_law _).mono ?_
  rintro e w1 ⟨rfl, k1⟩
  obtain ⟨k1, A1, B1, hs1⟩ := two_boxes k1
  have K1 : Hid (Below w.heap.size w w1) := k1
  have H1 : Hid (IsRq w1 (rqV a0 a1 a2 a3 av aw) ⟨a0, a1, a2, a3, a4, a5⟩) := HA.out.below k1
  obtain ⟨c0, c1, c2, c3, c4, c5⟩ := A1
  have B1 : Hid (Box w1 (w.heap.size + 1) (.int .u8 b0) (.int .u16 b1) (.int .u16 b2) (.int .u16 b3) bv bw) := B1
  clear k1
  go_wp2_with fail
  refine (light_c H1.out).mono ?_
  rintro e w2 ⟨rfl, k2⟩
  have K2 : Hid (Below w.heap.size w w2) := below_and K1.out k2
  have H2 : Hid (IsRq w2 (rqV b0 b1 b2 b3 bv bw) ⟨b0, b1, b2, b3, b4, b5⟩) := HB.out.below K2.out
  have B2 := B1.out.below k2 hs1
  rw [hc]
  clear k2 c0 c1 c2 c3 c4 c5
  obtain ⟨c0, c1, c2, c3, c4, c5⟩ := B2
  go_wp2_with fail
  refine (light_c H2.out).mono ?_
  rintro e w3 ⟨rfl, k3⟩
  have K3 : Hid (Below w.heap.size w w3) := below_and K2.out k3
  rw [hd]
  clear k3 c0 c1 c2 c3 c4 c5
  go_wp2
  go_ret
  exact ⟨rfl, K3⟩
theorem req_inj {a b : Rq} (fa : a.Fits) (oa : a.Ok) (fb : b.Fits) (ob : b.Ok) : reqBytes a = reqBytes b ↔ a = b :=
  ⟨fun h => by rw [← (isReq_bytes fa oa).2, h, (isReq_bytes fb ob).2], fun h => by rw [h]⟩
set_option maxRecDepth 100000 in
set_option maxHeartbeats 1600000 in
theorem once_nn (a0 a1 a2 a3 b0 b1 b2 b3 : Nat) (a4 b4 : List Bool) (a5 b5 : List Nat) (av aw bv bw : Value) (w : World) (ha : IsRq w (rqV a0 a1 a2 a3 av aw) ⟨a0, a1, a2, a3, a4, a5⟩) (hb : IsRq w (rqV b0 b1 b2 b3 bv bw) ⟨b0, b1, b2, b3, b4, b5⟩) (hl : a4.length ≤ 2500 ∧ a5.length ≤ 200) (hm : b4.length ≤ 2500 ∧ b5.length ≤ 200) (fa : ¬ Rq.Fits ⟨a0, a1, a2, a3, a4, a5⟩) (fb : ¬ Rq.Fits ⟨b0, b1, b2, b3, b4, b5⟩) :
    Calls Try.prog 3 #[rqV a0 a1 a2 a3 av aw, rqV b0 b1 b2 b3 bv bw] w fun e w' => e = .returned (.bool true) ∧ Below w.heap.size w w' := by
  have HA : Hid (IsRq w (rqV a0 a1 a2 a3 av aw) ⟨a0, a1, a2, a3, a4, a5⟩) := ha
  have HB : Hid (IsRq w (rqV b0 b1 b2 b3 bv bw) ⟨b0, b1, b2, b3, b4, b5⟩) := hb
  have hd := decide_eq_true hm
  have hc := decide_eq_true hl
  have HL : Hid (a4.length ≤ 2500 ∧ a5.length ≤ 200) := hl
  have HM : Hid (b4.length ≤ 2500 ∧ b5.length ≤ 200) := hm
  have FA : Hid (¬ Rq.Fits ⟨a0, a1, a2, a3, a4, a5⟩) := fa
  have FB : Hid (¬ Rq.Fits ⟨b0, b1, b2, b3, b4, b5⟩) := fb
  clear ha hb hl hm fa fb
  unfold rqV at HA HB ⊢
  go_enter Try.func3, Try.ntmps3
  go_wp2_with fail
  refine (known_law _).mono ?_
  rintro e w1 ⟨rfl, k1⟩
  obtain ⟨k1, A1, B1, hs1⟩ := two_boxes k1
  have K1 : Hid (Below w.heap.size w w1) := k1
  have H1 : Hid (IsRq w1 (rqV a0 a1 a2 a3 av aw) ⟨a0, a1, a2, a3, a4, a5⟩) := HA.out.below k1
  have B1 : Hid (Box w1 w.heap.size (.int .u8 a0) (.int .u16 a1) (.int .u16 a2) (.int .u16 a3) av aw ∧ Box w1 (w.heap.size + 1) (.int .u8 b0) (.int .u16 b1) (.int .u16 b2) (.int .u16 b3) bv bw) := ⟨A1, B1⟩
  obtain ⟨c0, c1, c2, c3, c4, c5⟩ := A1
  clear k1
  go_wp2_with fail
  refine (light_c H1.out).mono ?_
  rintro e w2 ⟨rfl, k2⟩
  have K2 : Hid (Below w.heap.size w w2) := below_and K1.out k2
  have H2 : Hid (IsRq w2 (rqV b0 b1 b2 b3 bv bw) ⟨b0, b1, b2, b3, b4, b5⟩) := HB.out.below K2.out
  have hs2 : w.heap.size + 1 < w2.heap.size := Nat.lt_of_lt_of_le hs1 k2.size
  have B2 : Hid (Box w2 w.heap.size (.int .u8 a0) (.int .u16 a1) (.int .u16 a2) (.int .u16 a3) av aw ∧ Box w2 (w.heap.size + 1) (.int .u8 b0) (.int .u16 b1) (.int .u16 b2) (.int .u16 b3) bv bw) := ⟨B1.out.1.below k2 (by omega), B1.out.2.below k2 hs1⟩
  rw [hc]
  clear k2 c0 c1 c2 c3 c4 c5 B1 H1
  obtain ⟨c0, c1, c2, c3, c4, c5⟩ := B2.out.2
  go_wp2_with fail
  refine (light_c H2.out).mono ?_
  rintro e w3 ⟨rfl, k3⟩
  have K3 : Hid (Below w.heap.size w w3) := below_and K2.out k3
  have H3 : Hid (IsRq w3 (rqV a0 a1 a2 a3 av aw) ⟨a0, a1, a2, a3, a4, a5⟩) := HA.out.below K3.out
  have hs3 : w.heap.size + 1 < w3.heap.size := Nat.lt_of_lt_of_le hs2 k3.size
  have B3 : Hid (Box w3 w.heap.size (.int .u8 a0) (.int .u16 a1) (.int .u16 a2) (.int .u16 a3) av aw ∧ Box w3 (w.heap.size + 1) (.int .u8 b0) (.int .u16 b1) (.int .u16 b2) (.int .u16 b3) bv bw) := ⟨B2.out.1.below k3 (by omega), B2.out.2.below k3 hs2⟩
  rw [hd]
  clear k3 c0 c1 c2 c3 c4 c5 B2 H2 hs1 hs2
  obtain ⟨c0, c1, c2, c3, c4, c5⟩ := B3.out.1
  go_wp2_with fail
  refine (request_no H3.out FA.out).mono ?_
  rintro e w4 ⟨rfl, k4⟩
  have K4 : Hid (Below w.heap.size w w4) := below_and K3.out k4
  have H4 : Hid (IsRq w4 (rqV b0 b1 b2 b3 bv bw) ⟨b0, b1, b2, b3, b4, b5⟩) := HB.out.below K4.out
  have hs4 : w.heap.size + 1 < w4.heap.size := Nat.lt_of_lt_of_le hs3 k4.size
  have B4 : Hid (Box w4 w.heap.size (.int .u8 a0) (.int .u16 a1) (.int .u16 a2) (.int .u16 a3) av aw ∧ Box w4 (w.heap.size + 1) (.int .u8 b0) (.int .u16 b1) (.int .u16 b2) (.int .u16 b3) bv bw) := ⟨B3.out.1.below k4 (by omega), B3.out.2.below k4 hs3⟩
  clear k4 c0 c1 c2 c3 c4 c5 B3 H3 hs3
  obtain ⟨c0, c1, c2, c3, c4, c5⟩ := B4.out.2
  go_wp2_with fail
  refine (request_no H4.out FB.out).mono ?_
  rintro e w5 ⟨rfl, k5⟩
  have K5 : Hid (Below w.heap.size w w5) := below_and K4.out k5
  clear k5 c0 c1 c2 c3 c4 c5 B4 H4 hs4
  go_wp2
  go_quiet (fail)
  go_wp2
  go_ret
  exact ⟨rfl, below_drewN K5.out _⟩
set_option maxRecDepth 100000 in
set_option maxHeartbeats 1600000 in
theorem once_yn (a0 a1 a2 a3 b0 b1 b2 b3 : Nat) (a4 b4 : List Bool) (a5 b5 : List Nat) (av aw bv bw : Value) (w : World) (ha : IsRq w (rqV a0 a1 a2 a3 av aw) ⟨a0, a1, a2, a3, a4, a5⟩) (hb : IsRq w (rqV b0 b1 b2 b3 bv bw) ⟨b0, b1, b2, b3, b4, b5⟩) (hl : a4.length ≤ 2500 ∧ a5.length ≤ 200) (hm : b4.length ≤ 2500 ∧ b5.length ≤ 200) (fa : Rq.Fits ⟨a0, a1, a2, a3, a4, a5⟩) (fb : ¬ Rq.Fits ⟨b0, b1, b2, b3, b4, b5⟩) :
    Calls Try.prog 3 #[rqV a0 a1 a2 a3 av aw, rqV b0 b1 b2 b3 bv bw] w fun e w' => e = .returned (.bool true) ∧ Below w.heap.size w w' := by
  have HA : Hid (IsRq w (rqV a0 a1 a2 a3 av aw) ⟨a0, a1, a2, a3, a4, a5⟩) := ha
  have HB : Hid (IsRq w (rqV b0 b1 b2 b3 bv bw) ⟨b0, b1, b2, b3, b4, b5⟩) := hb
  have hd := decide_eq_true hm
  have hc := decide_eq_true hl
  have HL : Hid (a4.length ≤ 2500 ∧ a5.length ≤ 200) := hl
  have HM : Hid (b4.length ≤ 2500 ∧ b5.length ≤ 200) := hm
  have FA : Hid (Rq.Fits ⟨a0, a1, a2, a3, a4, a5⟩) := fa
  have FB : Hid (¬ Rq.Fits ⟨b0, b1, b2, b3, b4, b5⟩) := fb
  clear ha hb hl hm fa fb
  unfold rqV at HA HB ⊢
  go_enter Try.func3, Try.ntmps3
  go_wp2_with fail
  refine (known_law _).mono ?_
  rintro e w1 ⟨rfl, k1⟩
  obtain ⟨k1, A1, B1, hs1⟩ := two_boxes k1
  have K1 : Hid (Below w.heap.size w w1) := k1
  have H1 : Hid (IsRq w1 (rqV a0 a1 a2 a3 av aw) ⟨a0, a1, a2, a3, a4, a5⟩) := HA.out.below k1
  have B1 : Hid (Box w1 w.heap.size (.int .u8 a0) (.int .u16 a1) (.int .u16 a2) (.int .u16 a3) av aw ∧ Box w1 (w.heap.size + 1) (.int .u8 b0) (.int .u16 b1) (.int .u16 b2) (.int .u16 b3) bv bw) := ⟨A1, B1⟩
  obtain ⟨c0, c1, c2, c3, c4, c5⟩ := A1
  clear k1
  go_wp2_with fail
  refine (light_c H1.out).mono ?_
  rintro e w2 ⟨rfl, k2⟩
  have K2 : Hid (Below w.heap.size w w2) := below_and K1.out k2
  have H2 : Hid (IsRq w2 (rqV b0 b1 b2 b3 bv bw) ⟨b0, b1, b2, b3, b4, b5⟩) := HB.out.below K2.out
  have hs2 : w.heap.size + 1 < w2.heap.size := Nat.lt_of_lt_of_le hs1 k2.size
  have B2 : Hid (Box w2 w.heap.size (.int .u8 a0) (.int .u16 a1) (.int .u16 a2) (.int .u16 a3) av aw ∧ Box w2 (w.heap.size + 1) (.int .u8 b0) (.int .u16 b1) (.int .u16 b2) (.int .u16 b3) bv bw) := ⟨B1.out.1.below k2 (by omega), B1.out.2.below k2 hs1⟩
  rw [hc]
  clear k2 c0 c1 c2 c3 c4 c5 B1 H1
  obtain ⟨c0, c1, c2, c3, c4, c5⟩ := B2.out.2
  go_wp2_with fail
  refine (light_c H2.out).mono ?_
  rintro e w3 ⟨rfl, k3⟩
  have K3 : Hid (Below w.heap.size w w3) := below_and K2.out k3
  have H3 : Hid (IsRq w3 (rqV a0 a1 a2 a3 av aw) ⟨a0, a1, a2, a3, a4, a5⟩) := HA.out.below K3.out
  have hs3 : w.heap.size + 1 < w3.heap.size := Nat.lt_of_lt_of_le hs2 k3.size
  have B3 : Hid (Box w3 w.heap.size (.int .u8 a0) (.int .u16 a1) (.int .u16 a2) (.int .u16 a3) av aw ∧ Box w3 (w.heap.size + 1) (.int .u8 b0) (.int .u16 b1) (.int .u16 b2) (.int .u16 b3) bv bw) := ⟨B2.out.1.below k3 (by omega), B2.out.2.below k3 hs2⟩
  rw [hd]
  clear k3 c0 c1 c2 c3 c4 c5 B2 H2 hs1 hs2
  obtain ⟨c0, c1, c2, c3, c4, c5⟩ := B3.out.1
  go_wp2_with fail
  refine (request_yes H3.out FA.out).mono ?_
  rintro e w4 ⟨x, rfl, ownx, k4⟩
  obtain ⟨xo, xc, hx⟩ := (own_sl ownx).shape
  rw [u8s_len] at hx
  subst hx
  have OX : Hid (Sl w4 (.slice xo (reqBytes ⟨a0, a1, a2, a3, a4, a5⟩).length xc) (u8s (reqBytes ⟨a0, a1, a2, a3, a4, a5⟩))) := own_sl ownx
  clear ownx
  have K4 : Hid (Below w.heap.size w w4) := below_and K3.out k4
  have H4 : Hid (IsRq w4 (rqV b0 b1 b2 b3 bv bw) ⟨b0, b1, b2, b3, b4, b5⟩) := HB.out.below K4.out
  have hs4 : w.heap.size + 1 < w4.heap.size := Nat.lt_of_lt_of_le hs3 k4.size
  have B4 : Hid (Box w4 w.heap.size (.int .u8 a0) (.int .u16 a1) (.int .u16 a2) (.int .u16 a3) av aw ∧ Box w4 (w.heap.size + 1) (.int .u8 b0) (.int .u16 b1) (.int .u16 b2) (.int .u16 b3) bv bw) := ⟨B3.out.1.below k4 (by omega), B3.out.2.below k4 hs3⟩
  clear k4 c0 c1 c2 c3 c4 c5 B3 H3 hs3
  obtain ⟨c0, c1, c2, c3, c4, c5⟩ := B4.out.2
  go_wp2_with fail
  refine (request_no H4.out FB.out).mono ?_
  rintro e w5 ⟨rfl, k5⟩
  have K5 : Hid (Below w.heap.size w w5) := below_and K4.out k5
  clear k5 c0 c1 c2 c3 c4 c5 B4 H4 hs4
  go_wp2
  go_quiet (fail)
  go_wp2
  go_ret
  exact ⟨rfl, below_drewN K5.out _⟩
set_option maxRecDepth 100000 in
set_option maxHeartbeats 1600000 in
theorem once_ny (a0 a1 a2 a3 b0 b1 b2 b3 : Nat) (a4 b4 : List Bool) (a5 b5 : List Nat) (av aw bv bw : Value) (w : World) (ha : IsRq w (rqV a0 a1 a2 a3 av aw) ⟨a0, a1, a2, a3, a4, a5⟩) (hb : IsRq w (rqV b0 b1 b2 b3 bv bw) ⟨b0, b1, b2, b3, b4, b5⟩) (hl : a4.length ≤ 2500 ∧ a5.length ≤ 200) (hm : b4.length ≤ 2500 ∧ b5.length ≤ 200) (fa : ¬ Rq.Fits ⟨a0, a1, a2, a3, a4, a5⟩) (fb : Rq.Fits ⟨b0, b1, b2, b3, b4, b5⟩) :
    Calls Try.prog 3 #[rqV a0 a1 a2 a3 av aw, rqV b0 b1 b2 b3 bv bw] w fun e w' => e = .returned (.bool true) ∧ Below w.heap.size w w' := by
  have HA : Hid (IsRq w (rqV a0 a1 a2 a3 av aw) ⟨a0, a1, a2, a3, a4, a5⟩) := ha
  have HB : Hid (IsRq w (rqV b0 b1 b2 b3 bv bw) ⟨b0, b1, b2, b3, b4, b5⟩) := hb
  have hd := decide_eq_true hm
  have hc := decide_eq_true hl
  have HL : Hid (a4.length ≤ 2500 ∧ a5.length ≤ 200) := hl
  have HM : Hid (b4.length ≤ 2500 ∧ b5.length ≤ 200) := hm
  have FA : Hid (¬ Rq.Fits ⟨a0, a1, a2, a3, a4, a5⟩) := fa
  have FB : Hid (Rq.Fits ⟨b0, b1, b2, b3, b4, b5⟩) := fb
  clear ha hb hl hm fa fb
  unfold rqV at HA HB ⊢
  go_enter Try.func3, Try.ntmps3
  go_wp2_with fail
  refine (known_law _).mono ?_
  rintro e w1 ⟨rfl, k1⟩
  obtain ⟨k1, A1, B1, hs1⟩ := two_boxes k1
  have K1 : Hid (Below w.heap.size w w1) := k1
  have H1 : Hid (IsRq w1 (rqV a0 a1 a2 a3 av aw) ⟨a0, a1, a2, a3, a4, a5⟩) := HA.out.below k1
  have B1 : Hid (Box w1 w.heap.size (.int .u8 a0) (.int .u16 a1) (.int .u16 a2) (.int .u16 a3) av aw ∧ Box w1 (w.heap.size + 1) (.int .u8 b0) (.int .u16 b1) (.int .u16 b2) (.int .u16 b3) bv bw) := ⟨A1, B1⟩
  obtain ⟨c0, c1, c2, c3, c4, c5⟩ := A1
  clear k1
  go_wp2_with fail
  refine (light_c H1.out).mono ?_
  rintro e w2 ⟨rfl, k2⟩
  have K2 : Hid (Below w.heap.size w w2) := below_and K1.out k2
  have H2 : Hid (IsRq w2 (rqV b0 b1 b2 b3 bv bw) ⟨b0, b1, b2, b3, b4, b5⟩) := HB.out.below K2.out
  have hs2 : w.heap.size + 1 < w2.heap.size := Nat.lt_of_lt_of_le hs1 k2.size
  have B2 : Hid (Box w2 w.heap.size (.int .u8 a0) (.int .u16 a1) (.int .u16 a2) (.int .u16 a3) av aw ∧ Box w2 (w.heap.size + 1) (.int .u8 b0) (.int .u16 b1) (.int .u16 b2) (.int .u16 b3) bv bw) := ⟨B1.out.1.below k2 (by omega), B1.out.2.below k2 hs1⟩
  rw [hc]
  clear k2 c0 c1 c2 c3 c4 c5 B1 H1
  obtain ⟨c0, c1, c2, c3, c4, c5⟩ := B2.out.2
  go_wp2_with fail
  refine (light_c H2.out).mono ?_
  rintro e w3 ⟨rfl, k3⟩
  have K3 : Hid (Below w.heap.size w w3) := below_and K2.out k3
  have H3 : Hid (IsRq w3 (rqV a0 a1 a2 a3 av aw) ⟨a0, a1, a2, a3, a4, a5⟩) := HA.out.below K3.out
  have hs3 : w.heap.size + 1 < w3.heap.size := Nat.lt_of_lt_of_le hs2 k3.size
  have B3 : Hid (Box w3 w.heap.size (.int .u8 a0) (.int .u16 a1) (.int .u16 a2) (.int .u16 a3) av aw ∧ Box w3 (w.heap.size + 1) (.int .u8 b0) (.int .u16 b1) (.int .u16 b2) (.int .u16 b3) bv bw) := ⟨B2.out.1.below k3 (by omega), B2.out.2.below k3 hs2⟩
  rw [hd]
  clear k3 c0 c1 c2 c3 c4 c5 B2 H2 hs1 hs2
  obtain ⟨c0, c1, c2, c3, c4, c5⟩ := B3.out.1
  go_wp2_with fail
  refine (request_no H3.out FA.out).mono ?_
  rintro e w4 ⟨rfl, k4⟩
  have K4 : Hid (Below w.heap.size w w4) := below_and K3.out k4
  have H4 : Hid (IsRq w4 (rqV b0 b1 b2 b3 bv bw) ⟨b0, b1, b2, b3, b4, b5⟩) := HB.out.below K4.out
  have hs4 : w.heap.size + 1 < w4.heap.size := Nat.lt_of_lt_of_le hs3 k4.size
  have B4 : Hid (Box w4 w.heap.size (.int .u8 a0) (.int .u16 a1) (.int .u16 a2) (.int .u16 a3) av aw ∧ Box w4 (w.heap.size + 1) (.int .u8 b0) (.int .u16 b1) (.int .u16 b2) (.int .u16 b3) bv bw) := ⟨B3.out.1.below k4 (by omega), B3.out.2.below k4 hs3⟩
  clear k4 c0 c1 c2 c3 c4 c5 B3 H3 hs3
  obtain ⟨c0, c1, c2, c3, c4, c5⟩ := B4.out.2
  go_wp2_with fail
  refine (request_yes H4.out FB.out).mono ?_
  rintro e w5 ⟨y, rfl, owny, k5⟩
  obtain ⟨yo, yc, hy⟩ := (own_sl owny).shape
  rw [u8s_len] at hy
  subst hy
  have OY : Hid (Sl w5 (.slice yo (reqBytes ⟨b0, b1, b2, b3, b4, b5⟩).length yc) (u8s (reqBytes ⟨b0, b1, b2, b3, b4, b5⟩))) := own_sl owny
  clear owny
  have K5 : Hid (Below w.heap.size w w5) := below_and K4.out k5
  clear k5 c0 c1 c2 c3 c4 c5 B4 H4 hs4
  go_wp2
  go_quiet (fail)
  go_wp2
  go_ret
  exact ⟨rfl, below_drewN K5.out _⟩
set_option maxRecDepth 100000 in
set_option maxHeartbeats 1600000 in
theorem once_yy (a0 a1 a2 a3 b0 b1 b2 b3 : Nat) (a4 b4 : List Bool) (a5 b5 : List Nat) (av aw bv bw : Value) (w : World) (ha : IsRq w (rqV a0 a1 a2 a3 av aw) ⟨a0, a1, a2, a3, a4, a5⟩) (hb : IsRq w (rqV b0 b1 b2 b3 bv bw) ⟨b0, b1, b2, b3, b4, b5⟩) (hl : a4.length ≤ 2500 ∧ a5.length ≤ 200) (hm : b4.length ≤ 2500 ∧ b5.length ≤ 200) (fa : Rq.Fits ⟨a0, a1, a2, a3, a4, a5⟩) (fb : Rq.Fits ⟨b0, b1, b2, b3, b4, b5⟩) :
    Calls Try.prog 3 #[rqV a0 a1 a2 a3 av aw, rqV b0 b1 b2 b3 bv bw] w fun e w' => e = .returned (.bool true) ∧ Below w.heap.size w w' := by
  have HA : Hid (IsRq w (rqV a0 a1 a2 a3 av aw) ⟨a0, a1, a2, a3, a4, a5⟩) := ha
  have HB : Hid (IsRq w (rqV b0 b1 b2 b3 bv bw) ⟨b0, b1, b2, b3, b4, b5⟩) := hb
  have hd := decide_eq_true hm
  have hc := decide_eq_true hl
  have HL : Hid (a4.length ≤ 2500 ∧ a5.length ≤ 200) := hl
  have HM : Hid (b4.length ≤ 2500 ∧ b5.length ≤ 200) := hm
  have FA : Hid (Rq.Fits ⟨a0, a1, a2, a3, a4, a5⟩) := fa
  have FB : Hid (Rq.Fits ⟨b0, b1, b2, b3, b4, b5⟩) := fb
  clear ha hb hl hm fa fb
  unfold rqV at HA HB ⊢
  go_enter Try.func3, Try.ntmps3
  go_wp2_with fail
  refine (known_law _).mono ?_
  rintro e w1 ⟨rfl, k1⟩
  obtain ⟨k1, A1, B1, hs1⟩ := two_boxes k1
  have K1 : Hid (Below w.heap.size w w1) := k1
  have H1 : Hid (IsRq w1 (rqV a0 a1 a2 a3 av aw) ⟨a0, a1, a2, a3, a4, a5⟩) := HA.out.below k1
  have B1 : Hid (Box w1 w.heap.size (.int .u8 a0) (.int .u16 a1) (.int .u16 a2) (.int .u16 a3) av aw ∧ Box w1 (w.heap.size + 1) (.int .u8 b0) (.int .u16 b1) (.int .u16 b2) (.int .u16 b3) bv bw) := ⟨A1, B1⟩
  obtain ⟨c0, c1, c2, c3, c4, c5⟩ := A1
  clear k1
  go_wp2_with fail
  refine (light_c H1.out).mono ?_
  rintro e w2 ⟨rfl, k2⟩
  have K2 : Hid (Below w.heap.size w w2) := below_and K1.out k2
  have H2 : Hid (IsRq w2 (rqV b0 b1 b2 b3 bv bw) ⟨b0, b1, b2, b3, b4, b5⟩) := HB.out.below K2.out
  have hs2 : w.heap.size + 1 < w2.heap.size := Nat.lt_of_lt_of_le hs1 k2.size
  have B2 : Hid (Box w2 w.heap.size (.int .u8 a0) (.int .u16 a1) (.int .u16 a2) (.int .u16 a3) av aw ∧ Box w2 (w.heap.size + 1) (.int .u8 b0) (.int .u16 b1) (.int .u16 b2) (.int .u16 b3) bv bw) := ⟨B1.out.1.below k2 (by omega), B1.out.2.below k2 hs1⟩
  rw [hc]
  clear k2 c0 c1 c2 c3 c4 c5 B1 H1
  obtain ⟨c0, c1, c2, c3, c4, c5⟩ := B2.out.2
  go_wp2_with fail
  refine (light_c H2.out).mono ?_
  rintro e w3 ⟨rfl, k3⟩
  have K3 : Hid (Below w.heap.size w w3) := below_and K2.out k3
  have H3 : Hid (IsRq w3 (rqV a0 a1 a2 a3 av aw) ⟨a0, a1, a2, a3, a4, a5⟩) := HA.out.below K3.out
  have hs3 : w.heap.size + 1 < w3.heap.size := Nat.lt_of_lt_of_le hs2 k3.size
  have B3 : Hid (Box w3 w.heap.size (.int .u8 a0) (.int .u16 a1) (.int .u16 a2) (.int .u16 a3) av aw ∧ Box w3 (w.heap.size + 1) (.int .u8 b0) (.int .u16 b1) (.int .u16 b2) (.int .u16 b3) bv bw) := ⟨B2.out.1.below k3 (by omega), B2.out.2.below k3 hs2⟩
  rw [hd]
  clear k3 c0 c1 c2 c3 c4 c5 B2 H2 hs1 hs2
  obtain ⟨c0, c1, c2, c3, c4, c5⟩ := B3.out.1
  go_wp2_with fail
  refine (request_yes H3.out FA.out).mono ?_
  rintro e w4 ⟨x, rfl, ownx, k4⟩
  obtain ⟨xo, xc, hx⟩ := (own_sl ownx).shape
  rw [u8s_len] at hx
  subst hx
  have OX : Hid (Sl w4 (.slice xo (reqBytes ⟨a0, a1, a2, a3, a4, a5⟩).length xc) (u8s (reqBytes ⟨a0, a1, a2, a3, a4, a5⟩))) := own_sl ownx
  clear ownx
  have K4 : Hid (Below w.heap.size w w4) := below_and K3.out k4
  have H4 : Hid (IsRq w4 (rqV b0 b1 b2 b3 bv bw) ⟨b0, b1, b2, b3, b4, b5⟩) := HB.out.below K4.out
  have hs4 : w.heap.size + 1 < w4.heap.size := Nat.lt_of_lt_of_le hs3 k4.size
  have B4 : Hid (Box w4 w.heap.size (.int .u8 a0) (.int .u16 a1) (.int .u16 a2) (.int .u16 a3) av aw ∧ Box w4 (w.heap.size + 1) (.int .u8 b0) (.int .u16 b1) (.int .u16 b2) (.int .u16 b3) bv bw) := ⟨B3.out.1.below k4 (by omega), B3.out.2.below k4 hs3⟩
  clear k4 c0 c1 c2 c3 c4 c5 B3 H3 hs3
  obtain ⟨c0, c1, c2, c3, c4, c5⟩ := B4.out.2
  go_wp2_with fail
  refine (request_yes H4.out FB.out).mono ?_
  rintro e w5 ⟨y, rfl, owny, k5⟩
  obtain ⟨yo, yc, hy⟩ := (own_sl owny).shape
  rw [u8s_len] at hy
  subst hy
  have OY : Hid (Sl w5 (.slice yo (reqBytes ⟨b0, b1, b2, b3, b4, b5⟩).length yc) (u8s (reqBytes ⟨b0, b1, b2, b3, b4, b5⟩))) := own_sl owny
  clear owny
  have K5 : Hid (Below w.heap.size w w5) := below_and K4.out k5
  have H5 : Hid (IsRq w5 (rqV a0 a1 a2 a3 av aw) ⟨a0, a1, a2, a3, a4, a5⟩) := HA.out.below K5.out
  have H6 : Hid (IsRq w5 (rqV b0 b1 b2 b3 bv bw) ⟨b0, b1, b2, b3, b4, b5⟩) := HB.out.below K5.out
  have OX : Hid (Sl w5 (.slice xo (reqBytes ⟨a0, a1, a2, a3, a4, a5⟩).length xc) (u8s (reqBytes ⟨a0, a1, a2, a3, a4, a5⟩))) := OX.out.below k5
  have hs5 : w.heap.size + 1 < w5.heap.size := Nat.lt_of_lt_of_le hs4 k5.size
  have B5 : Hid (Box w5 w.heap.size (.int .u8 a0) (.int .u16 a1) (.int .u16 a2) (.int .u16 a3) av aw ∧ Box w5 (w.heap.size + 1) (.int .u8 b0) (.int .u16 b1) (.int .u16 b2) (.int .u16 b3) bv bw) := ⟨B4.out.1.below k5 (by omega), B4.out.2.below k5 hs4⟩
  clear k5 c0 c1 c2 c3 c4 c5 B4 H4 hs4
  have hX : Bytes (reqBytes ⟨a0, a1, a2, a3, a4, a5⟩) := reqBytes_bytes H5.out.1 (by have := HL.out; simp; omega) (by have := HL.out; simp; omega)
  have hY : Bytes (reqBytes ⟨b0, b1, b2, b3, b4, b5⟩) := reqBytes_bytes H6.out.1 (by have := HM.out; simp; omega) (by have := HM.out; simp; omega)
  have HE : Hid (reqBytes ⟨a0, a1, a2, a3, a4, a5⟩ = reqBytes ⟨b0, b1, b2, b3, b4, b5⟩ ↔ (⟨a0, a1, a2, a3, a4, a5⟩ : Rq) = ⟨b0, b1, b2, b3, b4, b5⟩) := req_inj FA.out H5.out.1 FB.out H6.out.1
  have XB := fun (W : World) (h : Below w5.heap.size w5 W) => bytes_c (OX.out.below h) (OY.out.below h) hX hY
  have XR := fun (W : World) (h : Below w5.heap.size w5 W) => hreq_c (H5.out.below h) (H6.out.below h) (by have := HL.out; simp; omega) (by have := HL.out; simp; omega)
  unfold rqV at XR
  obtain ⟨c0, c1, c2, c3, c4, c5⟩ := B5.out.1
  obtain ⟨d0, d1, d2, d3, d4, d5⟩ := B5.out.2
  clear B5 H5 H6 OX OY hX hY HL HM HA HB FA FB
  go_wp2
  go_region_held3 (fun w' => w'.cell? ⟨w.heap.size, 0, none⟩ = some (.int .u8 a0) ∧ w'.cell? ⟨w.heap.size, 1, none⟩ = some (.int .u16 a1) ∧ w'.cell? ⟨w.heap.size, 2, none⟩ = some (.int .u16 a2) ∧ w'.cell? ⟨w.heap.size, 3, none⟩ = some (.int .u16 a3) ∧ w'.cell? ⟨w.heap.size, 4, none⟩ = some av ∧ w'.cell? ⟨w.heap.size, 5, none⟩ = some aw ∧ w'.cell? ⟨w.heap.size + 1, 0, none⟩ = some (.int .u8 b0) ∧ w'.cell? ⟨w.heap.size + 1, 1, none⟩ = some (.int .u16 b1) ∧ w'.cell? ⟨w.heap.size + 1, 2, none⟩ = some (.int .u16 b2) ∧ w'.cell? ⟨w.heap.size + 1, 3, none⟩ = some (.int .u16 b3) ∧ w'.cell? ⟨w.heap.size + 1, 4, none⟩ = some bv ∧ w'.cell? ⟨w.heap.size + 1, 5, none⟩ = some bw) (first | exact ⟨c0, c1, c2, c3, c4, c5, d0, d1, d2, d3, d4, d5⟩ | exact ⟨j0, j1, j2, j3, j4, j5, l0, l1, l2, l3, l4, l5⟩) (first | (go_at_call 8; refine (XB _ (by first | exact (Below.refl _ w5).drew | exact (Below.refl _ w5).drew.drew)).mono ?_; rintro e w' ⟨rfl, hw⟩; subst w') | (go_at_call 9; refine (XR _ (by first | exact (Below.refl _ w5).drew | exact (Below.refl _ w5).drew.drew | exact (Below.refl _ w5).drew.drew.drew)).mono ?_; rintro e w6 ⟨t, rfl, k6, ht⟩; have k6 := below_and (by first | exact (Below.refl w5.heap.size w5).drew | exact (Below.refl w5.heap.size w5).drew.drew | exact (Below.refl w5.heap.size w5).drew.drew.drew) k6; obtain ⟨j0, j1, j2, j3, j4, j5⟩ := (Box.mk c0 c1 c2 c3 c4 c5).below k6 (by omega); obtain ⟨l0, l1, l2, l3, l4, l5⟩ := (Box.mk d0 d1 d2 d3 d4 d5).below k6 hs5; have K6 : Hid (Below w.heap.size w w6) := below_and K5.out k6; clear k6))
  go_wp2
  go_ret
  refine ⟨?_, K6⟩
  have h1 := HE.out
  by_cases hq : reqBytes ⟨a0, a1, a2, a3, a4, a5⟩ = reqBytes ⟨b0, b1, b2, b3, b4, b5⟩
  · have h2 : t = true := ht.2 (h1.1 hq)
    simp [hq, h2]
  · have h2 : t = false := by
      cases t
      · rfl
      · exact absurd (h1.2 (ht.1 rfl)) hq
    simp [hq, h2]
theorem once_law {va vb : Value} {a b : Rq} {w : World} (ha : IsRq w va a) (hb : IsRq w vb b) : Calls Try.prog 3 #[va, vb] w fun e w' => e = .returned (.bool true) ∧ Below w.heap.size w w' := by
  have ha' := ha
  have hb' := hb
  obtain ⟨_, av, aw, rfl, _, _⟩ := ha'
  obtain ⟨_, bv, bw, rfl, _, _⟩ := hb'
  obtain ⟨a0, a1, a2, a3, a4, a5⟩ := a
  obtain ⟨b0, b1, b2, b3, b4, b5⟩ := b
  by_cases hl : a4.length ≤ 2500 ∧ a5.length ≤ 200
  case neg => exact once_heavy a0 a1 a2 a3 b0 b1 b2 b3 a4 a5 av aw bv bw w ha hl
  by_cases hm : b4.length ≤ 2500 ∧ b5.length ≤ 200
  case neg => exact once_heavy2 a0 a1 a2 a3 b0 b1 b2 b3 a4 b4 a5 b5 av aw bv bw w ha hb hl hm
  by_cases fa : Rq.Fits ⟨a0, a1, a2, a3, a4, a5⟩
  · by_cases fb : Rq.Fits ⟨b0, b1, b2, b3, b4, b5⟩
    · exact once_yy a0 a1 a2 a3 b0 b1 b2 b3 a4 b4 a5 b5 av aw bv bw w ha hb hl hm fa fb
    · exact once_yn a0 a1 a2 a3 b0 b1 b2 b3 a4 b4 a5 b5 av aw bv bw w ha hb hl hm fa fb
  · by_cases fb : Rq.Fits ⟨b0, b1, b2, b3, b4, b5⟩
    · exact once_ny a0 a1 a2 a3 b0 b1 b2 b3 a4 b4 a5 b5 av aw bv bw w ha hb hl hm fa fb
    · exact once_nn a0 a1 a2 a3 b0 b1 b2 b3 a4 b4 a5 b5 av aw bv bw w ha hb hl hm fa fb
end Go.Proofs.Ytehbbkdiekgpbab
