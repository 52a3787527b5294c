/- The walk of PduRequests. -/
import Derived.Test.YtehbbkdiekgpbaaKN
import Derived.Test.YtehbbkdiekgpbaaRReqAll
import Derived.Test.YtehbbkdiekgpbaaRqYes
import Derived.Test.YtehbbkdiekgpbaaHReq2
import Derived.Test.YtehbbkdiekgpbaaTKAll
import Derived.Test.YtehbbkdiekgpbaaJ2
namespace Go.Proofs.Ytehbbkdiekgpbaa
open Go.RowKit
open Pdu
theorem req_len {q : Rq} (hf : q.Fits) (ok : q.Ok) : (reqBytes q).length ≤ 253 := (isReq_bytes hf ok).1.2.1
set_option maxRecDepth 100000 in
set_option maxHeartbeats 1600000 in
theorem requests_heavy (a0 a1 a2 a3 : Nat) (a4 : List Bool) (a5 : List Nat) (av aw : Value) (w : World) (ha : IsRq w (rqV a0 a1 a2 a3 av aw) ⟨a0, a1, a2, a3, a4, a5⟩) (hh : ¬ (a4.length ≤ 2500 ∧ a5.length ≤ 200)) :
    Calls Try.prog 3 #[rqV a0 a1 a2 a3 av aw] w fun e w' => e = .returned (.bool true) ∧ Below w.heap.size w w' := by
  have HA : Hid (IsRq w (rqV a0 a1 a2 a3 av aw) ⟨a0, a1, a2, a3, a4, a5⟩) := ha
  clear ha
  have hd := decide_eq_false hh
  clear hh
  unfold rqV at HA ⊢
  go_enter Try.func3, Try.ntmps3
  go_wp2_with fail
  refine (known_law _).mono ?_
  rintro e w1 ⟨rfl, k1⟩
  obtain ⟨k1, B1, hs1⟩ := one_box k1
  have K1 : Hid (Below w.heap.size w w1) := k1
  have H1 : Hid (IsRq w1 (rqV a0 a1 a2 a3 av aw) ⟨a0, a1, a2, a3, a4, a5⟩) := HA.out.below k1
  have B1 : Hid (Box w1 w.heap.size (.int .u8 a0) (.int .u16 a1) (.int .u16 a2) (.int .u16 a3) av aw) := B1
  obtain ⟨c0, c1, c2, c3, c4, c5⟩ := B1.out
  clear k1
  go_wp2_with fail
  refine (light_c H1.out).mono ?_
  rintro e w2 ⟨rfl, k2⟩
  have K2 : Hid (Below w.heap.size w w2) := below_and K1.out k2
  rw [hd]
  clear k2 c0 c1 c2 c3 c4 c5
  go_wp2
  go_ret
  exact ⟨rfl, K2⟩
set_option maxRecDepth 100000 in
set_option maxHeartbeats 1600000 in
theorem requests_no (a0 a1 a2 a3 : Nat) (a4 : List Bool) (a5 : List Nat) (av aw : Value) (w : World) (ha : IsRq w (rqV a0 a1 a2 a3 av aw) ⟨a0, a1, a2, a3, a4, a5⟩) (hl : a4.length ≤ 2500 ∧ a5.length ≤ 200) (fa : ¬ Rq.Fits ⟨a0, a1, a2, a3, a4, a5⟩) :
    Calls Try.prog 3 #[rqV a0 a1 a2 a3 av aw] w fun e w' => e = .returned (.bool true) ∧ Below w.heap.size w w' := by
  have HA : Hid (IsRq w (rqV a0 a1 a2 a3 av aw) ⟨a0, a1, a2, a3, a4, a5⟩) := ha
  clear ha
  have hd := decide_eq_true hl
  have HL : Hid (a4.length ≤ 2500 ∧ a5.length ≤ 200) := hl
  have FA : Hid (¬ Rq.Fits ⟨a0, a1, a2, a3, a4, a5⟩) := fa
  clear hl fa
  unfold rqV at HA ⊢
  go_enter Try.func3, Try.ntmps3
  go_wp2_with fail
  refine (known_law _).mono ?_
  rintro e w1 ⟨rfl, k1⟩
  obtain ⟨k1, B1, hs1⟩ := one_box k1
  have K1 : Hid (Below w.heap.size w w1) := k1
  have H1 : Hid (IsRq w1 (rqV a0 a1 a2 a3 av aw) ⟨a0, a1, a2, a3, a4, a5⟩) := HA.out.below k1
  have B1 : Hid (Box w1 w.heap.size (.int .u8 a0) (.int .u16 a1) (.int .u16 a2) (.int .u16 a3) av aw) := B1
  obtain ⟨c0, c1, c2, c3, c4, c5⟩ := B1.out
  clear k1
  go_wp2_with fail
  refine (light_c H1.out).mono ?_
  rintro e w2 ⟨rfl, k2⟩
  have K2 : Hid (Below w.heap.size w w2) := below_and K1.out k2
  rw [hd]
  have H2 : Hid (IsRq w2 (rqV a0 a1 a2 a3 av aw) ⟨a0, a1, a2, a3, a4, a5⟩) := HA.out.below K2.out
  have hs2 : w.heap.size < w2.heap.size := Nat.lt_of_lt_of_le hs1 k2.size
  have B2 : Hid (Box w2 w.heap.size (.int .u8 a0) (.int .u16 a1) (.int .u16 a2) (.int .u16 a3) av aw) := B1.out.below k2 hs1
  clear k2 c0 c1 c2 c3 c4 c5 B1 H1
  obtain ⟨c0, c1, c2, c3, c4, c5⟩ := B2.out
  go_wp2_with fail
  refine (request_no H2.out FA.out).mono ?_
  rintro e w3 ⟨rfl, k3⟩
  have K3 : Hid (Below w.heap.size w w3) := below_and K2.out k3
  have H3 : Hid (IsRq w3 (rqV a0 a1 a2 a3 av aw) ⟨a0, a1, a2, a3, a4, a5⟩) := HA.out.below K3.out
  have hs3 : w.heap.size < w3.heap.size := Nat.lt_of_lt_of_le hs2 k3.size
  have B3 : Hid (Box w3 w.heap.size (.int .u8 a0) (.int .u16 a1) (.int .u16 a2) (.int .u16 a3) av aw) := B2.out.below k3 hs2
  clear k3 c0 c1 c2 c3 c4 c5 B2 H2
  obtain ⟨c0, c1, c2, c3, c4, c5⟩ := B3.out
  go_wp2_with fail
  refine (ref_request H3.out HL.out.1 HL.out.2).mono ?_
  rintro e w4 ⟨k4, ⟨hf, _⟩ | ⟨_, rfl⟩⟩
  · exact absurd hf FA.out
  have K4 : Hid (Below w.heap.size w w4) := below_and K3.out k4
  clear k4 c0 c1 c2 c3 c4 c5 B3 H3
  have XB : Hid (Calls Try.prog 13 #[.slice none 0 0, .slice none 0 0] w4 fun e w' => e = .returned (.bool true) ∧ w' = w4) := bytes_t (xs := []) (Sl.nil w4) (Sl.nil w4) Bytes.nil
  go_wp2_with fail
  refine XB.out.mono ?_
  rintro e w5 ⟨rfl, hw⟩
  subst w5
  go_wp2
  go_ret
  exact ⟨rfl, K4⟩
set_option maxRecDepth 100000 in
set_option maxHeartbeats 1600000 in
theorem requests_yes (a0 a1 a2 a3 : Nat) (a4 : List Bool) (a5 : List Nat) (av aw : Value) (w : World) (ha : IsRq w (rqV a0 a1 a2 a3 av aw) ⟨a0, a1, a2, a3, a4, a5⟩) (hl : a4.length ≤ 2500 ∧ a5.length ≤ 200) (fa : Rq.Fits ⟨a0, a1, a2, a3, a4, a5⟩) :
    Calls Try.prog 3 #[rqV a0 a1 a2 a3 av aw] w fun e w' => e = .returned (.bool true) ∧ Below w.heap.size w w' := by
  have HA : Hid (IsRq w (rqV a0 a1 a2 a3 av aw) ⟨a0, a1, a2, a3, a4, a5⟩) := ha
  clear ha
  have hd := decide_eq_true hl
  have HL : Hid (a4.length ≤ 2500 ∧ a5.length ≤ 200) := hl
  have FA : Hid (Rq.Fits ⟨a0, a1, a2, a3, a4, a5⟩) := fa
  obtain ⟨bs, hbs⟩ : ∃ bs, bs = reqBytes ⟨a0, a1, a2, a3, a4, a5⟩ := ⟨_, rfl⟩
  have hlen : bs.length ≤ 253 := by rw [hbs]; exact req_len fa HA.out.1
  have hB : Bytes bs := by rw [hbs]; exact reqBytes_bytes HA.out.1 (by have := hl.1; simp only; omega) (by have := hl.2; simp only; omega)
  have HBS : Hid (bs = reqBytes ⟨a0, a1, a2, a3, a4, a5⟩) := hbs
  have HRD : Hid (IsReq bs ∧ readReq bs = ⟨a0, a1, a2, a3, a4, a5⟩) := by rw [hbs]; exact isReq_bytes fa HA.out.1
  clear hl fa hbs
  unfold rqV at HA ⊢
  go_enter Try.func3, Try.ntmps3
  go_wp2_with fail
  refine (known_law _).mono ?_
  rintro e w1 ⟨rfl, k1⟩
  obtain ⟨k1, B1, hs1⟩ := one_box k1
  have K1 : Hid (Below w.heap.size w w1) := k1
  have H1 : Hid (IsRq w1 (rqV a0 a1 a2 a3 av aw) ⟨a0, a1, a2, a3, a4, a5⟩) := HA.out.below k1
  have B1 : Hid (Box w1 w.heap.size (.int .u8 a0) (.int .u16 a1) (.int .u16 a2) (.int .u16 a3) av aw) := B1
  obtain ⟨c0, c1, c2, c3, c4, c5⟩ := B1.out
  clear k1
  go_wp2_with fail
  refine (light_c H1.out).mono ?_
  rintro e w2 ⟨rfl, k2⟩
  have K2 : Hid (Below w.heap.size w w2) := below_and K1.out k2
  rw [hd]
  have H2 : Hid (IsRq w2 (rqV a0 a1 a2 a3 av aw) ⟨a0, a1, a2, a3, a4, a5⟩) := HA.out.below K2.out
  have hs2 : w.heap.size < w2.heap.size := Nat.lt_of_lt_of_le hs1 k2.size
  have B2 : Hid (Box w2 w.heap.size (.int .u8 a0) (.int .u16 a1) (.int .u16 a2) (.int .u16 a3) av aw) := B1.out.below k2 hs1
  clear k2 c0 c1 c2 c3 c4 c5 B1 H1
  obtain ⟨c0, c1, c2, c3, c4, c5⟩ := B2.out
  go_wp2_with fail
  refine (request_yes H2.out FA.out).mono ?_
  rw [← HBS.out]
  rintro e w3 ⟨x, rfl, ownx, k3⟩
  obtain ⟨xo, xc, hx⟩ := (own_sl ownx).shape
  rw [u8s_len] at hx
  subst hx
  have OX : Hid (Sl w3 (.slice xo bs.length xc) (u8s bs)) := own_sl ownx
  clear ownx
  have K3 : Hid (Below w.heap.size w w3) := below_and K2.out k3
  have H3 : Hid (IsRq w3 (rqV a0 a1 a2 a3 av aw) ⟨a0, a1, a2, a3, a4, a5⟩) := HA.out.below K3.out
  have hs3 : w.heap.size < w3.heap.size := Nat.lt_of_lt_of_le hs2 k3.size
  have B3 : Hid (Box w3 w.heap.size (.int .u8 a0) (.int .u16 a1) (.int .u16 a2) (.int .u16 a3) av aw) := B2.out.below k3 hs2
  clear k3 c0 c1 c2 c3 c4 c5 B2 H2
  obtain ⟨c0, c1, c2, c3, c4, c5⟩ := B3.out
  go_wp2_with fail
  refine (ref_request H3.out HL.out.1 HL.out.2).mono ?_
  rw [← HBS.out]
  rintro e w4 ⟨k4, ⟨_, y, rfl, owny⟩ | ⟨hf, _⟩⟩
  case inr => exact absurd FA.out hf
  have K4 : Hid (Below w.heap.size w w4) := below_and K3.out k4
  have hs4 : w.heap.size < w4.heap.size := Nat.lt_of_lt_of_le hs3 k4.size
  have B4 : Hid (Box w4 w.heap.size (.int .u8 a0) (.int .u16 a1) (.int .u16 a2) (.int .u16 a3) av aw) := B3.out.below k4 hs3
  have OX4 : Hid (Sl w4 (.slice xo bs.length xc) (u8s bs)) := OX.out.below k4
  have XB : Hid (Calls Try.prog 13 #[.slice xo bs.length xc, y] w4 fun e w' => e = .returned (.bool true) ∧ w' = w4) := bytes_t OX4.out (own_sl owny) hB
  have hle : decide ((253 : Int) < (bs.length : Int)) = false := decide_eq_false (by omega)
  have XO := hid_as (open_c OX4.out hB)
  clear k4 c0 c1 c2 c3 c4 c5 B3 H3 OX owny
  go_wp2_with fail
  refine XB.out.mono ?_
  rintro e w5 ⟨rfl, hw⟩
  subst w5
  go_wp2_with fail
  refine XO.out.mono ?_
  rintro e w5 ⟨k5, ⟨_, v5, rfl, h5⟩ | ⟨hr, _⟩⟩
  case inr => exact absurd HRD.out.1 hr
  rw [HRD.out.2] at h5
  have K5 : Hid (Below w.heap.size w w5) := below_and K4.out k5
  have B5 : Hid (Box w5 w.heap.size (.int .u8 a0) (.int .u16 a1) (.int .u16 a2) (.int .u16 a3) av aw) := B4.out.below k5 hs4
  have H5 := hid_as h5
  have H6 : Hid (IsRq w5 (rqV a0 a1 a2 a3 av aw) ⟨a0, a1, a2, a3, a4, a5⟩) := HA.out.below K5.out
  obtain ⟨_, bv, rv, hv, s1, s2⟩ := h5
  obtain ⟨so, sc, rfl⟩ := s1.shape
  obtain ⟨to, tc, rfl⟩ := s2.shape
  simp only at hv
  subst hv
  unfold rqV at H5 H6 ⊢
  have d0 := fun (o : Obj) => (B5.out.grow o).c0
  have d1 := fun (o : Obj) => (B5.out.grow o).c1
  have d2 := fun (o : Obj) => (B5.out.grow o).c2
  have d3 := fun (o : Obj) => (B5.out.grow o).c3
  have d4 := fun (o : Obj) => (B5.out.grow o).c4
  have d5 := fun (o : Obj) => (B5.out.grow o).c5
  have XR := hid_as (fun (o : Obj) => hreq_c (H5.out.below (below_new (Below.refl _ w5) o)) (H6.out.below (below_new (Below.refl _ w5) o)) (by have := HL.out; simp only; omega) (by have := HL.out; simp only; omega))
  clear k5 s1 s2 XB XO hle
  go_wp2_with fail
  refine (XR.out _).mono ?_
  rintro e w6 ⟨t, rfl, k6, ht⟩
  have K6 : Hid (Below w.heap.size w w6) := below_and K5.out (below_and (below_new (Below.refl _ w5) _) k6)
  have ht : t = true := by simpa using ht
  subst ht
  clear k6 d0 d1 d2 d3 d4 d5
  go_wp2
  go_ret
  exact ⟨rfl, K6⟩
theorem requests_law {v : Value} {r : Rq} {w : World} (h : IsRq w v r) : Calls Try.prog 3 #[v] w fun e w' => e = .returned (.bool true) ∧ Below w.heap.size w w' := by
  have h' := h
  obtain ⟨_, av, aw, rfl, _, _⟩ := h'
  obtain ⟨a0, a1, a2, a3, a4, a5⟩ := r
  by_cases hl : a4.length ≤ 2500 ∧ a5.length ≤ 200
  case neg => exact requests_heavy a0 a1 a2 a3 a4 a5 av aw w h hl
  by_cases fa : Rq.Fits ⟨a0, a1, a2, a3, a4, a5⟩
  · exact requests_yes a0 a1 a2 a3 a4 a5 av aw w h hl fa
  · exact requests_no a0 a1 a2 a3 a4 a5 av aw w h hl fa
end Go.Proofs.Ytehbbkdiekgpbaa
