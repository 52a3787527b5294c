/- The walk of PduMatches: exceptions, and what only writes. -/
import Derived.Test.YtehbbkdiekgpbaaLMaB
namespace Go.Proofs.Ytehbbkdiekgpbaa
open Go.RowKit
open Pdu
set_option linter.unusedSimpArgs false in
set_option linter.unusedVariables false in
set_option maxRecDepth 100000 in
set_option maxHeartbeats 8000000 in
theorem match_exc (a0 a1 a2 a3 na ac ne ec nb bc nr rc oth x : Nat) (a4 : List Bool) (a5 : List Nat) (ao eo bo ro : Option Addr) (w : World) (ha : IsRq w (.agg #[.int .u8 a0, .int .u16 a1, .int .u16 a2, .int .u16 a3, .slice ao na ac, .slice eo ne ec]) ⟨a0, a1, a2, a3, a4, a5⟩) (hl : a4.length ≤ 2500 ∧ a5.length ≤ 200) (hh : nb ≤ 2500) (hi : nr ≤ 200) (fa : Rq.Fits ⟨a0, a1, a2, a3, a4, a5⟩) (hna : na = a4.length) (hne : ne = a5.length) (hx : x ≠ 0) (hRF : Rp.Fits ⟨a0, x, 0, 0, [], []⟩) (hRok : Rp.Ok ⟨a0, x, 0, 0, [], []⟩) (hAns : IsAns ⟨a0, a1, a2, a3, a4, a5⟩ (repBytes ⟨a0, x, 0, 0, [], []⟩) ∧ readAns ⟨a0, a1, a2, a3, a4, a5⟩ (repBytes ⟨a0, x, 0, 0, [], []⟩) = ⟨a0, x, 0, 0, [], []⟩) (hlen : (repBytes ⟨a0, x, 0, 0, [], []⟩).length ≤ 900) (hot : oth < 256) (HX : oth = a0 ∨ (((oth : Int) == a0) = false ∧ ¬ IsAns ⟨oth, a1, a2, a3, a4, a5⟩ (repBytes ⟨a0, x, 0, 0, [], []⟩))) (l4 : (⟨a0, x, 0, 0, [], []⟩ : Rp).bits.length ≤ 1000000) (l5 : (⟨a0, x, 0, 0, [], []⟩ : Rp).regs.length ≤ 1000000) :
    Calls Try.prog 7 #[.agg #[.int .u8 a0, .int .u16 a1, .int .u16 a2, .int .u16 a3, .slice ao na ac, .slice eo ne ec], .slice bo nb bc, .slice ro nr rc, .int .u8 x, .int .u8 oth] w fun e w' => e = .returned (.bool true) ∧ Below w.heap.size w w' := by
  have HA := hid_as ha
  have hd := decide_eq_true hl
  have h4 : decide ((2500 : Int) < (nb : Int)) = false := decide_eq_false (by omega)
  have h5 : decide ((200 : Int) < (nr : Int)) = false := decide_eq_false (by omega)
  have HL := hid_as hl
  have FA := hid_as fa
  have HNB := hid_as hh
  have HNR := hid_as hi
  clear ha hh hl hi fa
  have t0 : ((x : Int) == 0) = false := by rw [beq_eq_false_iff_ne]; omega
  clear hx
  have HRF := hid_as hRF
  have HROK := hid_as hRok
  have HANS := hid_as hAns
  have HLEN := hid_as hlen
  have HOT := hid_as hot
  have HXX := hid_as HX
  have HNA := hid_as hna
  have HNE := hid_as hne
  have HL4 := hid_as l4
  have HL5 := hid_as l5
  clear hRF hRok hAns hlen hot HX hna hne l4 l5
  go_enter Try.func7, Try.ntmps7
  go_wp2_with fail
  refine (known_law _).mono ?_
  rintro e w1 ⟨rfl, k1⟩
  obtain ⟨k1, B1, hs1⟩ := one_box k1
  have K1 : Hid (Below w.heap.size w w1) := k1
  have H1 := hid_as (HA.out.below k1)
  have B1 : Hid (Box w1 w.heap.size (.int .u8 a0) (.int .u16 a1) (.int .u16 a2) (.int .u16 a3) (.slice ao na ac) (.slice eo ne ec)) := B1
  obtain ⟨c0, c1, c2, c3, c4, c5⟩ := B1.out
  clear k1
  go_wp2_with fail
  refine (light_c H1.out).mono ?_
  rintro e w2 ⟨rfl, k2⟩
  have K2 : Hid (Below w.heap.size w w2) := below_and K1.out k2
  rw [hd]
  have H2 := hid_as (HA.out.below K2.out)
  have hs2 : w.heap.size < w2.heap.size := Nat.lt_of_lt_of_le hs1 k2.size
  have B2 : Hid (Box w2 w.heap.size (.int .u8 a0) (.int .u16 a1) (.int .u16 a2) (.int .u16 a3) (.slice ao na ac) (.slice eo ne ec)) := B1.out.below k2 hs1
  clear k2 c0 c1 c2 c3 c4 c5 B1 H1
  obtain ⟨c0, c1, c2, c3, c4, c5⟩ := B2.out
  have RR := hid_as (ref_request H2.out HL.out.1 HL.out.2)
  go_wp2_with fail
  refine RR.out.mono ?_
  rintro e w3 ⟨k3, ⟨_, y, rfl, _⟩ | ⟨hf, _⟩⟩
  case inr => exact absurd FA.out hf
  have K3 : Hid (Below w.heap.size w w3) := below_and K2.out k3
  have hs3 : w.heap.size < w3.heap.size := Nat.lt_of_lt_of_le hs2 k3.size
  have B3 : Hid (Box w3 w.heap.size (.int .u8 a0) (.int .u16 a1) (.int .u16 a2) (.int .u16 a3) (.slice ao na ac) (.slice eo ne ec)) := B2.out.below k3 hs2
  clear k3 c0 c1 c2 c3 c4 c5 B2 H2 RR
  obtain ⟨c0, c1, c2, c3, c4, c5⟩ := B3.out
  go_upto_region 9 with fail
  have KY := hid_as (below_new K3.out (.cells #[.int .u8 a0, .int .u8 x, .int .u16 0, .int .u16 0, .slice none 0 0, .slice none 0 0] 44))
  have KXY := hid_as (below_new (Below.refl _ w3) (.cells #[.int .u8 a0, .int .u8 x, .int .u16 0, .int .u16 0, .slice none 0 0, .slice none 0 0] 44))
  have BY := (Box.mk c0 c1 c2 c3 c4 c5).grow (.cells #[.int .u8 a0, .int .u8 x, .int .u16 0, .int .u16 0, .slice none 0 0, .slice none 0 0] 44)
  have RY := heap_alloc_new w3 (.cells #[.int .u8 a0, .int .u8 x, .int .u16 0, .int .u16 0, .slice none 0 0, .slice none 0 0] 44)
  have hsY : w3.heap.size < (w3.alloc (.cells #[.int .u8 a0, .int .u8 x, .int .u16 0, .int .u16 0, .slice none 0 0, .slice none 0 0] 44)).heap.size := by rw [World.size_alloc]; omega
  clear c0 c1 c2 c3 c4 c5
  generalize w3.alloc (.cells #[.int .u8 a0, .int .u8 x, .int .u16 0, .int .u16 0, .slice none 0 0, .slice none 0 0] 44) = Y at KY KXY BY RY hsY ⊢
  obtain ⟨c0, c1, c2, c3, c4, c5⟩ := BY
  obtain ⟨⟨d0, d1, d2, d3, d4, d5⟩, hfz⟩ := block6 RY
  have f0 := hfz 0
  have f1 := hfz 1
  have f2 := hfz 2
  have f3 := hfz 3
  have f4 := hfz 4
  have f5 := hfz 5
  clear hfz
  have hsw : w.heap.size < Y.heap.size := Nat.lt_trans hs3 hsY
  have hneX : ¬ (w3.heap.size = w.heap.size) := by omega
  have RU := Box.mk d0 d1 d2 d3 d4 d5
  have BU := Box.mk c0 c1 c2 c3 c4 c5
  have RH : Hid (Box Y w3.heap.size (.int .u8 a0) (.int .u8 x) (.int .u16 0) (.int .u16 0) (.slice none 0 0) (.slice none 0 0)) := RU
  have BH : Hid (Box Y w.heap.size (.int .u8 a0) (.int .u16 a1) (.int .u16 a2) (.int .u16 a3) (.slice ao na ac) (.slice eo ne ec)) := BU
  have KU := KY
  have KWU := KXY
  have hsU := hsw
  have IR : Hid (IsRp Y (.agg #[.int .u8 a0, .int .u8 x, .int .u16 0, .int .u16 0, .slice none 0 0, .slice none 0 0]) ⟨a0, x, 0, 0, [], []⟩) := ⟨HROK.out, _, _, rfl, Sl.nil Y, Sl.nil Y⟩
  clear RU BU KY KXY hsw RY hsY
  obtain ⟨c0, c1, c2, c3, c4, c5⟩ := BH.out
  obtain ⟨d0, d1, d2, d3, d4, d5⟩ := RH.out
  have YR := hid_as (reply_yes IR.out HRF.out)
  go_wp2_with fail
  refine YR.out.mono ?_
  rintro e w4 ⟨v4, rfl, own4, k4⟩
  have HB4 : Hid (Bytes (repBytes ⟨a0, x, 0, 0, [], []⟩)) := repBytes_bytes HROK.out HRF.out
  have S4 := hid_as (own_sl own4)
  have K4 : Hid (Below w.heap.size w w4) := below_and KU.out k4
  have hs4 : w.heap.size < w4.heap.size := Nat.lt_of_lt_of_le hsU k4.size
  have hx3 : w3.heap.size < Y.heap.size := lt_of_cell d0
  have hx4 : w3.heap.size < w4.heap.size := Nat.lt_of_lt_of_le hx3 k4.size
  have B4 := hid_as (BH.out.below k4 hsU)
  have R4 := hid_as (RH.out.below k4 hx3)
  have IR4 := hid_as (IR.out.below k4)
  have OA := hid_as (orep_c (HA.out.below K4.out) S4.out HB4.out (by have := HLEN.out; omega))
  clear k4 own4 c0 c1 c2 c3 c4 c5 d0 d1 d2 d3 d4 d5 YR BH RH IR
  obtain ⟨c0, c1, c2, c3, c4, c5⟩ := B4.out
  go_wp2_with fail
  refine OA.out.mono ?_
  rintro e w5 ⟨k5, ⟨_, v5, rfl, hv5⟩ | ⟨hno, _⟩⟩
  case inr => exact absurd HANS.out.1 hno
  rw [HANS.out.2] at hv5
  have I5 := hid_as hv5
  obtain ⟨go, gn, gc, ho, hn, hc, e5⟩ : ∃ go gn gc ho hn hc, v5 = .agg #[.int .u8 a0, .int .u8 x, .int .u16 0, .int .u16 0, .slice go gn gc, .slice ho hn hc] := shape_rp' hv5
  subst e5
  have K5 : Hid (Below w.heap.size w w5) := below_and K4.out k5
  have hs5 : w.heap.size < w5.heap.size := Nat.lt_of_lt_of_le hs4 k5.size
  have hx5 : w3.heap.size < w5.heap.size := Nat.lt_of_lt_of_le hx4 k5.size
  have B5 := hid_as (B4.out.below k5 hs4)
  have R5 := hid_as (R4.out.below k5 hx4)
  have IR5 := hid_as (IR4.out.below k5)
  have S5 := hid_as (S4.out.below k5)
  clear hv5 k5 c0 c1 c2 c3 c4 c5 OA B4 R4 IR4 S4
  have d0 := fun (o : Obj) => (R5.out.grow o).c0
  have d1 := fun (o : Obj) => (R5.out.grow o).c1
  have d2 := fun (o : Obj) => (R5.out.grow o).c2
  have d3 := fun (o : Obj) => (R5.out.grow o).c3
  have d4 := fun (o : Obj) => (R5.out.grow o).c4
  have d5 := fun (o : Obj) => (R5.out.grow o).c5
  have XR := hid_as (fun (o : Obj) => hrep_c (I5.out.below (below_new (Below.refl _ w5) o)) (IR5.out.below (below_new (Below.refl _ w5) o)) HL4.out HL5.out)
  go_wp2_with fail
  refine (XR.out _).mono ?_
  rintro e w6 ⟨t, rfl, k6, ht⟩
  have ht : t = true := by simpa using ht
  subst ht
  have kk6 : Below w5.heap.size w5 w6 := below_and (below_new (Below.refl _ w5) _) k6
  have K6 : Hid (Below w.heap.size w w6) := below_and K5.out kk6
  have B6 := hid_as (B5.out.below kk6 hs5)
  have hs6 : w.heap.size < w6.heap.size := Nat.lt_of_lt_of_le hs5 kk6.size
  have S6 := hid_as (S5.out.below kk6)
  clear k6 kk6 d0 d1 d2 d3 d4 d5 XR B5 R5 IR5 S5 I5
  obtain ⟨c0, c1, c2, c3, c4, c5⟩ := B6.out
  have OB : Hid (∀ (W : World) (h : Below w6.heap.size w6 W), Calls Try.prog 21 #[.agg #[.int .u8 oth, .int .u16 a1, .int .u16 a2, .int .u16 a3, .slice ao na ac, .slice eo ne ec], v4] W fun e w' => Below w.heap.size w w' ∧ Below W.heap.size W w' ∧ ∃ (E q0 q1 q2 q3 : Int) (go : Option Addr) (gn gc : Nat) (ho : Option Addr) (hn hc : Nat), e = .returned (.tuple #[.agg #[.int .u8 q0, .int .u8 q1, .int .u16 q2, .int .u16 q3, .slice go gn gc, .slice ho hn hc], .int .i64 E]) ∧ (oth = a0 ∨ (((oth : Int) == a0) = false ∧ E = 30))) := by
    intro W h
    have hq : IsRq W (.agg #[.int .u8 oth, .int .u16 a1, .int .u16 a2, .int .u16 a3, .slice ao na ac, .slice eo ne ec]) ⟨oth, a1, a2, a3, a4, a5⟩ := by
      obtain ⟨ok, bv, rv, hv, s1, s2⟩ := HA.out.below (below_and K6.out h)
      unfold rqV at hv
      injection hv with hv
      simp only [Array.mk.injEq, List.cons.injEq, and_true] at hv
      obtain ⟨_, _, _, _, e1, e2⟩ := hv
      subst e1 e2
      exact ⟨⟨HOT.out, ok.addr, ok.n, ok.addr2, ok.regs⟩, _, _, rfl, s1, s2⟩
    refine (orep_c hq (S6.out.below h) HB4.out (by have := HLEN.out; omega)).mono ?_
    rintro e w7 ⟨k7, ⟨hi, v7, he, hv7⟩ | ⟨_, he⟩⟩
    · obtain ⟨go, gn, gc, ho, hn, hc, e7⟩ := shape_rp' hv7
      subst e7
      exact ⟨below_and K6.out (below_and h k7), k7, 0, _, _, _, _, _, _, _, _, _, _, he, HXX.out.elim Or.inl fun h => absurd hi h.2⟩
    · exact ⟨below_and K6.out (below_and h k7), k7, 30, _, _, _, _, _, _, _, _, _, _, he, HXX.out.elim Or.inl fun h => Or.inr ⟨h.1, rfl⟩⟩
  go_wp2_with fail
  (with_reducible refine (OB.out _ ?_).mono ?_)
  · exact below_new (Below.refl _ w6) _
  rintro e w7 ⟨K7, k7, E, q0, q1, q2, q3, go, gn, gc, ho, hn, hc, rfl, hE⟩
  have K7H := hid_as K7
  have B7 := (B6.out.grow (.cells #[.int .u8 oth, .int .u16 a1, .int .u16 a2, .int .u16 a3, .slice ao na ac, .slice eo ne ec] 26)).below k7 (by rw [World.size_alloc]; omega)
  clear K7 k7 c0 c1 c2 c3 c4 c5
  have c0 := fun (o : Obj) => (B7.grow o).c0
  rcases hE with h | ⟨hne, h⟩
  · subst h
    go_wp2
    go_ret
    exact ⟨rfl, below_new K7H.out _⟩
  · subst h
    go_wp2
    go_ret
    exact ⟨rfl, below_new K7H.out _⟩
set_option linter.unusedSimpArgs false in
set_option linter.unusedVariables false in
set_option maxRecDepth 100000 in
set_option maxHeartbeats 8000000 in
theorem match_5 (a1 a2 a3 na ac ne ec nb bc nr rc oth : Nat) (a4 : List Bool) (a5 : List Nat) (ao eo bo ro : Option Addr) (w : World) (ha : IsRq w (.agg #[.int .u8 5, .int .u16 a1, .int .u16 a2, .int .u16 a3, .slice ao na ac, .slice eo ne ec]) ⟨5, a1, a2, a3, a4, a5⟩) (hl : a4.length ≤ 2500 ∧ a5.length ≤ 200) (hh : nb ≤ 2500) (hi : nr ≤ 200) (fa : Rq.Fits ⟨5, a1, a2, a3, a4, a5⟩) (hna : na = a4.length) (hne : ne = a5.length) (hRF : Rp.Fits ⟨5, 0, a1, 0, a4, a5⟩) (hRok : Rp.Ok ⟨5, 0, a1, 0, a4, a5⟩) (hAns : IsAns ⟨5, a1, a2, a3, a4, a5⟩ (repBytes ⟨5, 0, a1, 0, a4, a5⟩) ∧ readAns ⟨5, a1, a2, a3, a4, a5⟩ (repBytes ⟨5, 0, a1, 0, a4, a5⟩) = ⟨5, 0, a1, 0, a4, a5⟩) (hlen : (repBytes ⟨5, 0, a1, 0, a4, a5⟩).length ≤ 900) (hot : oth < 256) (HX : oth = 5 ∨ (((oth : Int) == 5) = false ∧ ¬ IsAns ⟨oth, a1, a2, a3, a4, a5⟩ (repBytes ⟨5, 0, a1, 0, a4, a5⟩))) (l4 : (⟨5, 0, a1, 0, a4, a5⟩ : Rp).bits.length ≤ 1000000) (l5 : (⟨5, 0, a1, 0, a4, a5⟩ : Rp).regs.length ≤ 1000000) :
    Calls Try.prog 7 #[.agg #[.int .u8 5, .int .u16 a1, .int .u16 a2, .int .u16 a3, .slice ao na ac, .slice eo ne ec], .slice bo nb bc, .slice ro nr rc, .int .u8 0, .int .u8 oth] w fun e w' => e = .returned (.bool true) ∧ Below w.heap.size w w' := by
  have HA := hid_as ha
  have hd := decide_eq_true hl
  have h4 : decide ((2500 : Int) < (nb : Int)) = false := decide_eq_false (by omega)
  have h5 : decide ((200 : Int) < (nr : Int)) = false := decide_eq_false (by omega)
  have HL := hid_as hl
  have FA := hid_as fa
  have HNB := hid_as hh
  have HNR := hid_as hi
  clear ha hh hl hi fa
  have HRF := hid_as hRF
  have HROK := hid_as hRok
  have HANS := hid_as hAns
  have HLEN := hid_as hlen
  have HOT := hid_as hot
  have HXX := hid_as HX
  have HNA := hid_as hna
  have HNE := hid_as hne
  have HL4 := hid_as l4
  have HL5 := hid_as l5
  clear hRF hRok hAns hlen hot HX hna hne l4 l5
  go_enter Try.func7, Try.ntmps7
  go_wp2_with fail
  refine (known_law _).mono ?_
  rintro e w1 ⟨rfl, k1⟩
  obtain ⟨k1, B1, hs1⟩ := one_box k1
  have K1 : Hid (Below w.heap.size w w1) := k1
  have H1 := hid_as (HA.out.below k1)
  have B1 : Hid (Box w1 w.heap.size (.int .u8 5) (.int .u16 a1) (.int .u16 a2) (.int .u16 a3) (.slice ao na ac) (.slice eo ne ec)) := B1
  obtain ⟨c0, c1, c2, c3, c4, c5⟩ := B1.out
  clear k1
  go_wp2_with fail
  refine (light_c H1.out).mono ?_
  rintro e w2 ⟨rfl, k2⟩
  have K2 : Hid (Below w.heap.size w w2) := below_and K1.out k2
  rw [hd]
  have H2 := hid_as (HA.out.below K2.out)
  have hs2 : w.heap.size < w2.heap.size := Nat.lt_of_lt_of_le hs1 k2.size
  have B2 : Hid (Box w2 w.heap.size (.int .u8 5) (.int .u16 a1) (.int .u16 a2) (.int .u16 a3) (.slice ao na ac) (.slice eo ne ec)) := B1.out.below k2 hs1
  clear k2 c0 c1 c2 c3 c4 c5 B1 H1
  obtain ⟨c0, c1, c2, c3, c4, c5⟩ := B2.out
  have RR := hid_as (ref_request H2.out HL.out.1 HL.out.2)
  go_wp2_with fail
  refine RR.out.mono ?_
  rintro e w3 ⟨k3, ⟨_, y, rfl, _⟩ | ⟨hf, _⟩⟩
  case inr => exact absurd FA.out hf
  have K3 : Hid (Below w.heap.size w w3) := below_and K2.out k3
  have hs3 : w.heap.size < w3.heap.size := Nat.lt_of_lt_of_le hs2 k3.size
  have B3 : Hid (Box w3 w.heap.size (.int .u8 5) (.int .u16 a1) (.int .u16 a2) (.int .u16 a3) (.slice ao na ac) (.slice eo ne ec)) := B2.out.below k3 hs2
  clear k3 c0 c1 c2 c3 c4 c5 B2 H2 RR
  obtain ⟨c0, c1, c2, c3, c4, c5⟩ := B3.out
  go_upto_region 9 with fail
  have KY := hid_as (below_new K3.out (.cells #[.int .u8 5, .int .u8 0, .int .u16 0, .int .u16 0, .slice none 0 0, .slice none 0 0] 44))
  have KXY := hid_as (below_new (Below.refl _ w3) (.cells #[.int .u8 5, .int .u8 0, .int .u16 0, .int .u16 0, .slice none 0 0, .slice none 0 0] 44))
  have BY := (Box.mk c0 c1 c2 c3 c4 c5).grow (.cells #[.int .u8 5, .int .u8 0, .int .u16 0, .int .u16 0, .slice none 0 0, .slice none 0 0] 44)
  have RY := heap_alloc_new w3 (.cells #[.int .u8 5, .int .u8 0, .int .u16 0, .int .u16 0, .slice none 0 0, .slice none 0 0] 44)
  have hsY : w3.heap.size < (w3.alloc (.cells #[.int .u8 5, .int .u8 0, .int .u16 0, .int .u16 0, .slice none 0 0, .slice none 0 0] 44)).heap.size := by rw [World.size_alloc]; omega
  clear c0 c1 c2 c3 c4 c5
  generalize w3.alloc (.cells #[.int .u8 5, .int .u8 0, .int .u16 0, .int .u16 0, .slice none 0 0, .slice none 0 0] 44) = Y at KY KXY BY RY hsY ⊢
  obtain ⟨c0, c1, c2, c3, c4, c5⟩ := BY
  obtain ⟨⟨d0, d1, d2, d3, d4, d5⟩, hfz⟩ := block6 RY
  have f0 := hfz 0
  have f1 := hfz 1
  have f2 := hfz 2
  have f3 := hfz 3
  have f4 := hfz 4
  have f5 := hfz 5
  clear hfz
  have hsw : w.heap.size < Y.heap.size := Nat.lt_trans hs3 hsY
  have hneX : ¬ (w3.heap.size = w.heap.size) := by omega
  go_upto_region 21 with fail
  go_region_held3 (fun w' => w'.cell? ⟨w.heap.size, 1, none⟩ = some (.int .u16 a1) ∧ w'.cell? ⟨w.heap.size, 4, none⟩ = some (.slice ao na ac) ∧ w'.cell? ⟨w.heap.size, 5, none⟩ = some (.slice eo ne ec)) (first | (simp [World.cell?_setCell_far, hneX, c0, c1, c2, c3, c4, c5]; done)) (fail)
  obtain ⟨Z, hZ⟩ : ∃ Z, Z = (((Y.setCell ⟨w3.heap.size, 2, none⟩ (.int .u16 a1)).setCell ⟨w3.heap.size, 4, none⟩ (.slice ao na ac)).setCell ⟨w3.heap.size, 5, none⟩ (.slice eo ne ec)) := ⟨_, rfl⟩
  rw [← hZ]
  have KZ : Hid (Below w.heap.size w Z) := by unfold Hid; rw [hZ]; exact Below.setCell (Below.setCell (Below.setCell (KY.out) (Nat.le_of_lt hs3) _) (Nat.le_of_lt hs3) _) (Nat.le_of_lt hs3) _
  have KXZ : Hid (Below w3.heap.size w3 Z) := by unfold Hid; rw [hZ]; exact Below.setCell (Below.setCell (Below.setCell (KXY.out) (Nat.le_refl _) _) (Nat.le_refl _) _) (Nat.le_refl _) _
  have RZ : Hid (Box Z w3.heap.size (.int .u8 5) (.int .u8 0) (.int .u16 a1) (.int .u16 0) (.slice ao na ac) (.slice eo ne ec)) := by
    unfold Hid
    rw [hZ]
    exact ⟨(set_else (set_else (set_else d0 (by decide)) (by decide)) (by decide)), (set_else (set_else (set_else d1 (by decide)) (by decide)) (by decide)), (set_else (set_else (set_same d2) (by decide)) (by decide)), (set_else (set_else (set_else d3 (by decide)) (by decide)) (by decide)), (set_else (set_same (set_else d4 (by decide))) (by decide)), (set_same (set_else (set_else d5 (by decide)) (by decide)))⟩
  clear hZ c0 c1 c2 c3 c4 c5 d0 d1 d2 d3 d4 d5 f0 f1 f2 f3 f4 f5 KY KXY hsw RY hsY
  have KU := hid_as KZ.out.drew
  have KWU := hid_as KXZ.out.drew
  have RH := hid_as RZ.out.drew
  clear KZ KXZ RZ
  generalize Z.drew = U at KU KWU RH ⊢
  have hsU : w.heap.size < U.heap.size := Nat.lt_of_lt_of_le hs3 KWU.out.size
  have BH := hid_as (B3.out.below KWU.out hs3)
  have IQ := hid_as (HA.out.below KU.out)
  have IR : Hid (IsRp U (.agg #[.int .u8 5, .int .u8 0, .int .u16 a1, .int .u16 0, .slice ao na ac, .slice eo ne ec]) ⟨5, 0, a1, 0, a4, a5⟩) := by
    obtain ⟨_, bv, rv, hv, s1, s2⟩ := IQ.out
    unfold rqV at hv
    injection hv with hv
    simp only [Array.mk.injEq, List.cons.injEq, and_true] at hv
    obtain ⟨_, _, _, _, e1, e2⟩ := hv
    subst e1 e2
    exact ⟨HROK.out, _, _, rfl, s1, s2⟩
  clear IQ
  obtain ⟨c0, c1, c2, c3, c4, c5⟩ := BH.out
  obtain ⟨d0, d1, d2, d3, d4, d5⟩ := RH.out
  have YR := hid_as (reply_yes IR.out HRF.out)
  go_wp2_with fail
  refine YR.out.mono ?_
  rintro e w4 ⟨v4, rfl, own4, k4⟩
  have HB4 : Hid (Bytes (repBytes ⟨5, 0, a1, 0, a4, a5⟩)) := repBytes_bytes HROK.out HRF.out
  have S4 := hid_as (own_sl own4)
  have K4 : Hid (Below w.heap.size w w4) := below_and KU.out k4
  have hs4 : w.heap.size < w4.heap.size := Nat.lt_of_lt_of_le hsU k4.size
  have hx3 : w3.heap.size < U.heap.size := lt_of_cell d0
  have hx4 : w3.heap.size < w4.heap.size := Nat.lt_of_lt_of_le hx3 k4.size
  have B4 := hid_as (BH.out.below k4 hsU)
  have R4 := hid_as (RH.out.below k4 hx3)
  have IR4 := hid_as (IR.out.below k4)
  have OA := hid_as (orep_c (HA.out.below K4.out) S4.out HB4.out (by have := HLEN.out; omega))
  clear k4 own4 c0 c1 c2 c3 c4 c5 d0 d1 d2 d3 d4 d5 YR BH RH IR
  obtain ⟨c0, c1, c2, c3, c4, c5⟩ := B4.out
  go_wp2_with fail
  refine OA.out.mono ?_
  rintro e w5 ⟨k5, ⟨_, v5, rfl, hv5⟩ | ⟨hno, _⟩⟩
  case inr => exact absurd HANS.out.1 hno
  rw [HANS.out.2] at hv5
  have I5 := hid_as hv5
  obtain ⟨go, gn, gc, ho, hn, hc, e5⟩ : ∃ go gn gc ho hn hc, v5 = .agg #[.int .u8 5, .int .u8 0, .int .u16 a1, .int .u16 0, .slice go gn gc, .slice ho hn hc] := shape_rp' hv5
  subst e5
  have K5 : Hid (Below w.heap.size w w5) := below_and K4.out k5
  have hs5 : w.heap.size < w5.heap.size := Nat.lt_of_lt_of_le hs4 k5.size
  have hx5 : w3.heap.size < w5.heap.size := Nat.lt_of_lt_of_le hx4 k5.size
  have B5 := hid_as (B4.out.below k5 hs4)
  have R5 := hid_as (R4.out.below k5 hx4)
  have IR5 := hid_as (IR4.out.below k5)
  have S5 := hid_as (S4.out.below k5)
  clear hv5 k5 c0 c1 c2 c3 c4 c5 OA B4 R4 IR4 S4
  have d0 := fun (o : Obj) => (R5.out.grow o).c0
  have d1 := fun (o : Obj) => (R5.out.grow o).c1
  have d2 := fun (o : Obj) => (R5.out.grow o).c2
  have d3 := fun (o : Obj) => (R5.out.grow o).c3
  have d4 := fun (o : Obj) => (R5.out.grow o).c4
  have d5 := fun (o : Obj) => (R5.out.grow o).c5
  have XR := hid_as (fun (o : Obj) => hrep_c (I5.out.below (below_new (Below.refl _ w5) o)) (IR5.out.below (below_new (Below.refl _ w5) o)) HL4.out HL5.out)
  go_wp2_with fail
  refine (XR.out _).mono ?_
  rintro e w6 ⟨t, rfl, k6, ht⟩
  have ht : t = true := by simpa using ht
  subst ht
  have kk6 : Below w5.heap.size w5 w6 := below_and (below_new (Below.refl _ w5) _) k6
  have K6 : Hid (Below w.heap.size w w6) := below_and K5.out kk6
  have B6 := hid_as (B5.out.below kk6 hs5)
  have hs6 : w.heap.size < w6.heap.size := Nat.lt_of_lt_of_le hs5 kk6.size
  have S6 := hid_as (S5.out.below kk6)
  clear k6 kk6 d0 d1 d2 d3 d4 d5 XR B5 R5 IR5 S5 I5
  obtain ⟨c0, c1, c2, c3, c4, c5⟩ := B6.out
  have OB : Hid (∀ (W : World) (h : Below w6.heap.size w6 W), Calls Try.prog 21 #[.agg #[.int .u8 oth, .int .u16 a1, .int .u16 a2, .int .u16 a3, .slice ao na ac, .slice eo ne ec], v4] W fun e w' => Below w.heap.size w w' ∧ Below W.heap.size W w' ∧ ∃ (E q0 q1 q2 q3 : Int) (go : Option Addr) (gn gc : Nat) (ho : Option Addr) (hn hc : Nat), e = .returned (.tuple #[.agg #[.int .u8 q0, .int .u8 q1, .int .u16 q2, .int .u16 q3, .slice go gn gc, .slice ho hn hc], .int .i64 E]) ∧ (oth = 5 ∨ (((oth : Int) == 5) = false ∧ E = 30))) := by
    intro W h
    have hq : IsRq W (.agg #[.int .u8 oth, .int .u16 a1, .int .u16 a2, .int .u16 a3, .slice ao na ac, .slice eo ne ec]) ⟨oth, a1, a2, a3, a4, a5⟩ := by
      obtain ⟨ok, bv, rv, hv, s1, s2⟩ := HA.out.below (below_and K6.out h)
      unfold rqV at hv
      injection hv with hv
      simp only [Array.mk.injEq, List.cons.injEq, and_true] at hv
      obtain ⟨_, _, _, _, e1, e2⟩ := hv
      subst e1 e2
      exact ⟨⟨HOT.out, ok.addr, ok.n, ok.addr2, ok.regs⟩, _, _, rfl, s1, s2⟩
    refine (orep_c hq (S6.out.below h) HB4.out (by have := HLEN.out; omega)).mono ?_
    rintro e w7 ⟨k7, ⟨hi, v7, he, hv7⟩ | ⟨_, he⟩⟩
    · obtain ⟨go, gn, gc, ho, hn, hc, e7⟩ := shape_rp' hv7
      subst e7
      exact ⟨below_and K6.out (below_and h k7), k7, 0, _, _, _, _, _, _, _, _, _, _, he, HXX.out.elim Or.inl fun h => absurd hi h.2⟩
    · exact ⟨below_and K6.out (below_and h k7), k7, 30, _, _, _, _, _, _, _, _, _, _, he, HXX.out.elim Or.inl fun h => Or.inr ⟨h.1, rfl⟩⟩
  go_wp2_with fail
  (with_reducible refine (OB.out _ ?_).mono ?_)
  · exact below_new (Below.refl _ w6) _
  rintro e w7 ⟨K7, k7, E, q0, q1, q2, q3, go, gn, gc, ho, hn, hc, rfl, hE⟩
  have K7H := hid_as K7
  have B7 := (B6.out.grow (.cells #[.int .u8 oth, .int .u16 a1, .int .u16 a2, .int .u16 a3, .slice ao na ac, .slice eo ne ec] 26)).below k7 (by rw [World.size_alloc]; omega)
  clear K7 k7 c0 c1 c2 c3 c4 c5
  have c0 := fun (o : Obj) => (B7.grow o).c0
  rcases hE with h | ⟨hne, h⟩
  · subst h
    go_wp2
    go_ret
    exact ⟨rfl, below_new K7H.out _⟩
  · subst h
    go_wp2
    go_ret
    exact ⟨rfl, below_new K7H.out _⟩
set_option linter.unusedSimpArgs false in
set_option linter.unusedVariables false in
set_option maxRecDepth 100000 in
set_option maxHeartbeats 8000000 in
theorem match_6 (a1 a2 a3 na ac ne ec nb bc nr rc oth : Nat) (a4 : List Bool) (a5 : List Nat) (ao eo bo ro : Option Addr) (w : World) (ha : IsRq w (.agg #[.int .u8 6, .int .u16 a1, .int .u16 a2, .int .u16 a3, .slice ao na ac, .slice eo ne ec]) ⟨6, a1, a2, a3, a4, a5⟩) (hl : a4.length ≤ 2500 ∧ a5.length ≤ 200) (hh : nb ≤ 2500) (hi : nr ≤ 200) (fa : Rq.Fits ⟨6, a1, a2, a3, a4, a5⟩) (hna : na = a4.length) (hne : ne = a5.length) (hRF : Rp.Fits ⟨6, 0, a1, 0, a4, a5⟩) (hRok : Rp.Ok ⟨6, 0, a1, 0, a4, a5⟩) (hAns : IsAns ⟨6, a1, a2, a3, a4, a5⟩ (repBytes ⟨6, 0, a1, 0, a4, a5⟩) ∧ readAns ⟨6, a1, a2, a3, a4, a5⟩ (repBytes ⟨6, 0, a1, 0, a4, a5⟩) = ⟨6, 0, a1, 0, a4, a5⟩) (hlen : (repBytes ⟨6, 0, a1, 0, a4, a5⟩).length ≤ 900) (hot : oth < 256) (HX : oth = 6 ∨ (((oth : Int) == 6) = false ∧ ¬ IsAns ⟨oth, a1, a2, a3, a4, a5⟩ (repBytes ⟨6, 0, a1, 0, a4, a5⟩))) (l4 : (⟨6, 0, a1, 0, a4, a5⟩ : Rp).bits.length ≤ 1000000) (l5 : (⟨6, 0, a1, 0, a4, a5⟩ : Rp).regs.length ≤ 1000000) :
    Calls Try.prog 7 #[.agg #[.int .u8 6, .int .u16 a1, .int .u16 a2, .int .u16 a3, .slice ao na ac, .slice eo ne ec], .slice bo nb bc, .slice ro nr rc, .int .u8 0, .int .u8 oth] w fun e w' => e = .returned (.bool true) ∧ Below w.heap.size w w' := by
  have HA := hid_as ha
  have hd := decide_eq_true hl
  have h4 : decide ((2500 : Int) < (nb : Int)) = false := decide_eq_false (by omega)
  have h5 : decide ((200 : Int) < (nr : Int)) = false := decide_eq_false (by omega)
  have HL := hid_as hl
  have FA := hid_as fa
  have HNB := hid_as hh
  have HNR := hid_as hi
  clear ha hh hl hi fa
  have HRF := hid_as hRF
  have HROK := hid_as hRok
  have HANS := hid_as hAns
  have HLEN := hid_as hlen
  have HOT := hid_as hot
  have HXX := hid_as HX
  have HNA := hid_as hna
  have HNE := hid_as hne
  have HL4 := hid_as l4
  have HL5 := hid_as l5
  clear hRF hRok hAns hlen hot HX hna hne l4 l5
  go_enter Try.func7, Try.ntmps7
  go_wp2_with fail
  refine (known_law _).mono ?_
  rintro e w1 ⟨rfl, k1⟩
  obtain ⟨k1, B1, hs1⟩ := one_box k1
  have K1 : Hid (Below w.heap.size w w1) := k1
  have H1 := hid_as (HA.out.below k1)
  have B1 : Hid (Box w1 w.heap.size (.int .u8 6) (.int .u16 a1) (.int .u16 a2) (.int .u16 a3) (.slice ao na ac) (.slice eo ne ec)) := B1
  obtain ⟨c0, c1, c2, c3, c4, c5⟩ := B1.out
  clear k1
  go_wp2_with fail
  refine (light_c H1.out).mono ?_
  rintro e w2 ⟨rfl, k2⟩
  have K2 : Hid (Below w.heap.size w w2) := below_and K1.out k2
  rw [hd]
  have H2 := hid_as (HA.out.below K2.out)
  have hs2 : w.heap.size < w2.heap.size := Nat.lt_of_lt_of_le hs1 k2.size
  have B2 : Hid (Box w2 w.heap.size (.int .u8 6) (.int .u16 a1) (.int .u16 a2) (.int .u16 a3) (.slice ao na ac) (.slice eo ne ec)) := B1.out.below k2 hs1
  clear k2 c0 c1 c2 c3 c4 c5 B1 H1
  obtain ⟨c0, c1, c2, c3, c4, c5⟩ := B2.out
  have RR := hid_as (ref_request H2.out HL.out.1 HL.out.2)
  go_wp2_with fail
  refine RR.out.mono ?_
  rintro e w3 ⟨k3, ⟨_, y, rfl, _⟩ | ⟨hf, _⟩⟩
  case inr => exact absurd FA.out hf
  have K3 : Hid (Below w.heap.size w w3) := below_and K2.out k3
  have hs3 : w.heap.size < w3.heap.size := Nat.lt_of_lt_of_le hs2 k3.size
  have B3 : Hid (Box w3 w.heap.size (.int .u8 6) (.int .u16 a1) (.int .u16 a2) (.int .u16 a3) (.slice ao na ac) (.slice eo ne ec)) := B2.out.below k3 hs2
  clear k3 c0 c1 c2 c3 c4 c5 B2 H2 RR
  obtain ⟨c0, c1, c2, c3, c4, c5⟩ := B3.out
  go_upto_region 9 with fail
  have KY := hid_as (below_new K3.out (.cells #[.int .u8 6, .int .u8 0, .int .u16 0, .int .u16 0, .slice none 0 0, .slice none 0 0] 44))
  have KXY := hid_as (below_new (Below.refl _ w3) (.cells #[.int .u8 6, .int .u8 0, .int .u16 0, .int .u16 0, .slice none 0 0, .slice none 0 0] 44))
  have BY := (Box.mk c0 c1 c2 c3 c4 c5).grow (.cells #[.int .u8 6, .int .u8 0, .int .u16 0, .int .u16 0, .slice none 0 0, .slice none 0 0] 44)
  have RY := heap_alloc_new w3 (.cells #[.int .u8 6, .int .u8 0, .int .u16 0, .int .u16 0, .slice none 0 0, .slice none 0 0] 44)
  have hsY : w3.heap.size < (w3.alloc (.cells #[.int .u8 6, .int .u8 0, .int .u16 0, .int .u16 0, .slice none 0 0, .slice none 0 0] 44)).heap.size := by rw [World.size_alloc]; omega
  clear c0 c1 c2 c3 c4 c5
  generalize w3.alloc (.cells #[.int .u8 6, .int .u8 0, .int .u16 0, .int .u16 0, .slice none 0 0, .slice none 0 0] 44) = Y at KY KXY BY RY hsY ⊢
  obtain ⟨c0, c1, c2, c3, c4, c5⟩ := BY
  obtain ⟨⟨d0, d1, d2, d3, d4, d5⟩, hfz⟩ := block6 RY
  have f0 := hfz 0
  have f1 := hfz 1
  have f2 := hfz 2
  have f3 := hfz 3
  have f4 := hfz 4
  have f5 := hfz 5
  clear hfz
  have hsw : w.heap.size < Y.heap.size := Nat.lt_trans hs3 hsY
  have hneX : ¬ (w3.heap.size = w.heap.size) := by omega
  go_upto_region 21 with fail
  go_region_held3 (fun w' => w'.cell? ⟨w.heap.size, 1, none⟩ = some (.int .u16 a1) ∧ w'.cell? ⟨w.heap.size, 4, none⟩ = some (.slice ao na ac) ∧ w'.cell? ⟨w.heap.size, 5, none⟩ = some (.slice eo ne ec)) (first | (simp [World.cell?_setCell_far, hneX, c0, c1, c2, c3, c4, c5]; done)) (fail)
  obtain ⟨Z, hZ⟩ : ∃ Z, Z = (((Y.setCell ⟨w3.heap.size, 2, none⟩ (.int .u16 a1)).setCell ⟨w3.heap.size, 4, none⟩ (.slice ao na ac)).setCell ⟨w3.heap.size, 5, none⟩ (.slice eo ne ec)) := ⟨_, rfl⟩
  rw [← hZ]
  have KZ : Hid (Below w.heap.size w Z) := by unfold Hid; rw [hZ]; exact Below.setCell (Below.setCell (Below.setCell (KY.out) (Nat.le_of_lt hs3) _) (Nat.le_of_lt hs3) _) (Nat.le_of_lt hs3) _
  have KXZ : Hid (Below w3.heap.size w3 Z) := by unfold Hid; rw [hZ]; exact Below.setCell (Below.setCell (Below.setCell (KXY.out) (Nat.le_refl _) _) (Nat.le_refl _) _) (Nat.le_refl _) _
  have RZ : Hid (Box Z w3.heap.size (.int .u8 6) (.int .u8 0) (.int .u16 a1) (.int .u16 0) (.slice ao na ac) (.slice eo ne ec)) := by
    unfold Hid
    rw [hZ]
    exact ⟨(set_else (set_else (set_else d0 (by decide)) (by decide)) (by decide)), (set_else (set_else (set_else d1 (by decide)) (by decide)) (by decide)), (set_else (set_else (set_same d2) (by decide)) (by decide)), (set_else (set_else (set_else d3 (by decide)) (by decide)) (by decide)), (set_else (set_same (set_else d4 (by decide))) (by decide)), (set_same (set_else (set_else d5 (by decide)) (by decide)))⟩
  clear hZ c0 c1 c2 c3 c4 c5 d0 d1 d2 d3 d4 d5 f0 f1 f2 f3 f4 f5 KY KXY hsw RY hsY
  have KU := hid_as KZ.out.drew
  have KWU := hid_as KXZ.out.drew
  have RH := hid_as RZ.out.drew
  clear KZ KXZ RZ
  generalize Z.drew = U at KU KWU RH ⊢
  have hsU : w.heap.size < U.heap.size := Nat.lt_of_lt_of_le hs3 KWU.out.size
  have BH := hid_as (B3.out.below KWU.out hs3)
  have IQ := hid_as (HA.out.below KU.out)
  have IR : Hid (IsRp U (.agg #[.int .u8 6, .int .u8 0, .int .u16 a1, .int .u16 0, .slice ao na ac, .slice eo ne ec]) ⟨6, 0, a1, 0, a4, a5⟩) := by
    obtain ⟨_, bv, rv, hv, s1, s2⟩ := IQ.out
    unfold rqV at hv
    injection hv with hv
    simp only [Array.mk.injEq, List.cons.injEq, and_true] at hv
    obtain ⟨_, _, _, _, e1, e2⟩ := hv
    subst e1 e2
    exact ⟨HROK.out, _, _, rfl, s1, s2⟩
  clear IQ
  obtain ⟨c0, c1, c2, c3, c4, c5⟩ := BH.out
  obtain ⟨d0, d1, d2, d3, d4, d5⟩ := RH.out
  have YR := hid_as (reply_yes IR.out HRF.out)
  go_wp2_with fail
  refine YR.out.mono ?_
  rintro e w4 ⟨v4, rfl, own4, k4⟩
  have HB4 : Hid (Bytes (repBytes ⟨6, 0, a1, 0, a4, a5⟩)) := repBytes_bytes HROK.out HRF.out
  have S4 := hid_as (own_sl own4)
  have K4 : Hid (Below w.heap.size w w4) := below_and KU.out k4
  have hs4 : w.heap.size < w4.heap.size := Nat.lt_of_lt_of_le hsU k4.size
  have hx3 : w3.heap.size < U.heap.size := lt_of_cell d0
  have hx4 : w3.heap.size < w4.heap.size := Nat.lt_of_lt_of_le hx3 k4.size
  have B4 := hid_as (BH.out.below k4 hsU)
  have R4 := hid_as (RH.out.below k4 hx3)
  have IR4 := hid_as (IR.out.below k4)
  have OA := hid_as (orep_c (HA.out.below K4.out) S4.out HB4.out (by have := HLEN.out; omega))
  clear k4 own4 c0 c1 c2 c3 c4 c5 d0 d1 d2 d3 d4 d5 YR BH RH IR
  obtain ⟨c0, c1, c2, c3, c4, c5⟩ := B4.out
  go_wp2_with fail
  refine OA.out.mono ?_
  rintro e w5 ⟨k5, ⟨_, v5, rfl, hv5⟩ | ⟨hno, _⟩⟩
  case inr => exact absurd HANS.out.1 hno
  rw [HANS.out.2] at hv5
  have I5 := hid_as hv5
  obtain ⟨go, gn, gc, ho, hn, hc, e5⟩ : ∃ go gn gc ho hn hc, v5 = .agg #[.int .u8 6, .int .u8 0, .int .u16 a1, .int .u16 0, .slice go gn gc, .slice ho hn hc] := shape_rp' hv5
  subst e5
  have K5 : Hid (Below w.heap.size w w5) := below_and K4.out k5
  have hs5 : w.heap.size < w5.heap.size := Nat.lt_of_lt_of_le hs4 k5.size
  have hx5 : w3.heap.size < w5.heap.size := Nat.lt_of_lt_of_le hx4 k5.size
  have B5 := hid_as (B4.out.below k5 hs4)
  have R5 := hid_as (R4.out.below k5 hx4)
  have IR5 := hid_as (IR4.out.below k5)
  have S5 := hid_as (S4.out.below k5)
  clear hv5 k5 c0 c1 c2 c3 c4 c5 OA B4 R4 IR4 S4
  have d0 := fun (o : Obj) => (R5.out.grow o).c0
  have d1 := fun (o : Obj) => (R5.out.grow o).c1
  have d2 := fun (o : Obj) => (R5.out.grow o).c2
  have d3 := fun (o : Obj) => (R5.out.grow o).c3
  have d4 := fun (o : Obj) => (R5.out.grow o).c4
  have d5 := fun (o : Obj) => (R5.out.grow o).c5
  have XR := hid_as (fun (o : Obj) => hrep_c (I5.out.below (below_new (Below.refl _ w5) o)) (IR5.out.below (below_new (Below.refl _ w5) o)) HL4.out HL5.out)
  go_wp2_with fail
  refine (XR.out _).mono ?_
  rintro e w6 ⟨t, rfl, k6, ht⟩
  have ht : t = true := by simpa using ht
  subst ht
  have kk6 : Below w5.heap.size w5 w6 := below_and (below_new (Below.refl _ w5) _) k6
  have K6 : Hid (Below w.heap.size w w6) := below_and K5.out kk6
  have B6 := hid_as (B5.out.below kk6 hs5)
  have hs6 : w.heap.size < w6.heap.size := Nat.lt_of_lt_of_le hs5 kk6.size
  have S6 := hid_as (S5.out.below kk6)
  clear k6 kk6 d0 d1 d2 d3 d4 d5 XR B5 R5 IR5 S5 I5
  obtain ⟨c0, c1, c2, c3, c4, c5⟩ := B6.out
  have OB : Hid (∀ (W : World) (h : Below w6.heap.size w6 W), Calls Try.prog 21 #[.agg #[.int .u8 oth, .int .u16 a1, .int .u16 a2, .int .u16 a3, .slice ao na ac, .slice eo ne ec], v4] W fun e w' => Below w.heap.size w w' ∧ Below W.heap.size W w' ∧ ∃ (E q0 q1 q2 q3 : Int) (go : Option Addr) (gn gc : Nat) (ho : Option Addr) (hn hc : Nat), e = .returned (.tuple #[.agg #[.int .u8 q0, .int .u8 q1, .int .u16 q2, .int .u16 q3, .slice go gn gc, .slice ho hn hc], .int .i64 E]) ∧ (oth = 6 ∨ (((oth : Int) == 6) = false ∧ E = 30))) := by
    intro W h
    have hq : IsRq W (.agg #[.int .u8 oth, .int .u16 a1, .int .u16 a2, .int .u16 a3, .slice ao na ac, .slice eo ne ec]) ⟨oth, a1, a2, a3, a4, a5⟩ := by
      obtain ⟨ok, bv, rv, hv, s1, s2⟩ := HA.out.below (below_and K6.out h)
      unfold rqV at hv
      injection hv with hv
      simp only [Array.mk.injEq, List.cons.injEq, and_true] at hv
      obtain ⟨_, _, _, _, e1, e2⟩ := hv
      subst e1 e2
      exact ⟨⟨HOT.out, ok.addr, ok.n, ok.addr2, ok.regs⟩, _, _, rfl, s1, s2⟩
    refine (orep_c hq (S6.out.below h) HB4.out (by have := HLEN.out; omega)).mono ?_
    rintro e w7 ⟨k7, ⟨hi, v7, he, hv7⟩ | ⟨_, he⟩⟩
    · obtain ⟨go, gn, gc, ho, hn, hc, e7⟩ := shape_rp' hv7
      subst e7
      exact ⟨below_and K6.out (below_and h k7), k7, 0, _, _, _, _, _, _, _, _, _, _, he, HXX.out.elim Or.inl fun h => absurd hi h.2⟩
    · exact ⟨below_and K6.out (below_and h k7), k7, 30, _, _, _, _, _, _, _, _, _, _, he, HXX.out.elim Or.inl fun h => Or.inr ⟨h.1, rfl⟩⟩
  go_wp2_with fail
  (with_reducible refine (OB.out _ ?_).mono ?_)
  · exact below_new (Below.refl _ w6) _
  rintro e w7 ⟨K7, k7, E, q0, q1, q2, q3, go, gn, gc, ho, hn, hc, rfl, hE⟩
  have K7H := hid_as K7
  have B7 := (B6.out.grow (.cells #[.int .u8 oth, .int .u16 a1, .int .u16 a2, .int .u16 a3, .slice ao na ac, .slice eo ne ec] 26)).below k7 (by rw [World.size_alloc]; omega)
  clear K7 k7 c0 c1 c2 c3 c4 c5
  have c0 := fun (o : Obj) => (B7.grow o).c0
  rcases hE with h | ⟨hne, h⟩
  · subst h
    go_wp2
    go_ret
    exact ⟨rfl, below_new K7H.out _⟩
  · subst h
    go_wp2
    go_ret
    exact ⟨rfl, below_new K7H.out _⟩
set_option linter.unusedSimpArgs false in
set_option linter.unusedVariables false in
set_option maxRecDepth 100000 in
set_option maxHeartbeats 8000000 in
theorem match_22 (a1 a2 a3 na ac ne ec nb bc nr rc oth : Nat) (a4 : List Bool) (a5 : List Nat) (ao eo bo ro : Option Addr) (w : World) (ha : IsRq w (.agg #[.int .u8 22, .int .u16 a1, .int .u16 a2, .int .u16 a3, .slice ao na ac, .slice eo ne ec]) ⟨22, a1, a2, a3, a4, a5⟩) (hl : a4.length ≤ 2500 ∧ a5.length ≤ 200) (hh : nb ≤ 2500) (hi : nr ≤ 200) (fa : Rq.Fits ⟨22, a1, a2, a3, a4, a5⟩) (hna : na = a4.length) (hne : ne = a5.length) (hRF : Rp.Fits ⟨22, 0, a1, 0, a4, a5⟩) (hRok : Rp.Ok ⟨22, 0, a1, 0, a4, a5⟩) (hAns : IsAns ⟨22, a1, a2, a3, a4, a5⟩ (repBytes ⟨22, 0, a1, 0, a4, a5⟩) ∧ readAns ⟨22, a1, a2, a3, a4, a5⟩ (repBytes ⟨22, 0, a1, 0, a4, a5⟩) = ⟨22, 0, a1, 0, a4, a5⟩) (hlen : (repBytes ⟨22, 0, a1, 0, a4, a5⟩).length ≤ 900) (hot : oth < 256) (HX : oth = 22 ∨ (((oth : Int) == 22) = false ∧ ¬ IsAns ⟨oth, a1, a2, a3, a4, a5⟩ (repBytes ⟨22, 0, a1, 0, a4, a5⟩))) (l4 : (⟨22, 0, a1, 0, a4, a5⟩ : Rp).bits.length ≤ 1000000) (l5 : (⟨22, 0, a1, 0, a4, a5⟩ : Rp).regs.length ≤ 1000000) :
    Calls Try.prog 7 #[.agg #[.int .u8 22, .int .u16 a1, .int .u16 a2, .int .u16 a3, .slice ao na ac, .slice eo ne ec], .slice bo nb bc, .slice ro nr rc, .int .u8 0, .int .u8 oth] w fun e w' => e = .returned (.bool true) ∧ Below w.heap.size w w' := by
  have HA := hid_as ha
  have hd := decide_eq_true hl
  have h4 : decide ((2500 : Int) < (nb : Int)) = false := decide_eq_false (by omega)
  have h5 : decide ((200 : Int) < (nr : Int)) = false := decide_eq_false (by omega)
  have HL := hid_as hl
  have FA := hid_as fa
  have HNB := hid_as hh
  have HNR := hid_as hi
  clear ha hh hl hi fa
  have HRF := hid_as hRF
  have HROK := hid_as hRok
  have HANS := hid_as hAns
  have HLEN := hid_as hlen
  have HOT := hid_as hot
  have HXX := hid_as HX
  have HNA := hid_as hna
  have HNE := hid_as hne
  have HL4 := hid_as l4
  have HL5 := hid_as l5
  clear hRF hRok hAns hlen hot HX hna hne l4 l5
  go_enter Try.func7, Try.ntmps7
  go_wp2_with fail
  refine (known_law _).mono ?_
  rintro e w1 ⟨rfl, k1⟩
  obtain ⟨k1, B1, hs1⟩ := one_box k1
  have K1 : Hid (Below w.heap.size w w1) := k1
  have H1 := hid_as (HA.out.below k1)
  have B1 : Hid (Box w1 w.heap.size (.int .u8 22) (.int .u16 a1) (.int .u16 a2) (.int .u16 a3) (.slice ao na ac) (.slice eo ne ec)) := B1
  obtain ⟨c0, c1, c2, c3, c4, c5⟩ := B1.out
  clear k1
  go_wp2_with fail
  refine (light_c H1.out).mono ?_
  rintro e w2 ⟨rfl, k2⟩
  have K2 : Hid (Below w.heap.size w w2) := below_and K1.out k2
  rw [hd]
  have H2 := hid_as (HA.out.below K2.out)
  have hs2 : w.heap.size < w2.heap.size := Nat.lt_of_lt_of_le hs1 k2.size
  have B2 : Hid (Box w2 w.heap.size (.int .u8 22) (.int .u16 a1) (.int .u16 a2) (.int .u16 a3) (.slice ao na ac) (.slice eo ne ec)) := B1.out.below k2 hs1
  clear k2 c0 c1 c2 c3 c4 c5 B1 H1
  obtain ⟨c0, c1, c2, c3, c4, c5⟩ := B2.out
  have RR := hid_as (ref_request H2.out HL.out.1 HL.out.2)
  go_wp2_with fail
  refine RR.out.mono ?_
  rintro e w3 ⟨k3, ⟨_, y, rfl, _⟩ | ⟨hf, _⟩⟩
  case inr => exact absurd FA.out hf
  have K3 : Hid (Below w.heap.size w w3) := below_and K2.out k3
  have hs3 : w.heap.size < w3.heap.size := Nat.lt_of_lt_of_le hs2 k3.size
  have B3 : Hid (Box w3 w.heap.size (.int .u8 22) (.int .u16 a1) (.int .u16 a2) (.int .u16 a3) (.slice ao na ac) (.slice eo ne ec)) := B2.out.below k3 hs2
  clear k3 c0 c1 c2 c3 c4 c5 B2 H2 RR
  obtain ⟨c0, c1, c2, c3, c4, c5⟩ := B3.out
  go_upto_region 9 with fail
  have KY := hid_as (below_new K3.out (.cells #[.int .u8 22, .int .u8 0, .int .u16 0, .int .u16 0, .slice none 0 0, .slice none 0 0] 44))
  have KXY := hid_as (below_new (Below.refl _ w3) (.cells #[.int .u8 22, .int .u8 0, .int .u16 0, .int .u16 0, .slice none 0 0, .slice none 0 0] 44))
  have BY := (Box.mk c0 c1 c2 c3 c4 c5).grow (.cells #[.int .u8 22, .int .u8 0, .int .u16 0, .int .u16 0, .slice none 0 0, .slice none 0 0] 44)
  have RY := heap_alloc_new w3 (.cells #[.int .u8 22, .int .u8 0, .int .u16 0, .int .u16 0, .slice none 0 0, .slice none 0 0] 44)
  have hsY : w3.heap.size < (w3.alloc (.cells #[.int .u8 22, .int .u8 0, .int .u16 0, .int .u16 0, .slice none 0 0, .slice none 0 0] 44)).heap.size := by rw [World.size_alloc]; omega
  clear c0 c1 c2 c3 c4 c5
  generalize w3.alloc (.cells #[.int .u8 22, .int .u8 0, .int .u16 0, .int .u16 0, .slice none 0 0, .slice none 0 0] 44) = Y at KY KXY BY RY hsY ⊢
  obtain ⟨c0, c1, c2, c3, c4, c5⟩ := BY
  obtain ⟨⟨d0, d1, d2, d3, d4, d5⟩, hfz⟩ := block6 RY
  have f0 := hfz 0
  have f1 := hfz 1
  have f2 := hfz 2
  have f3 := hfz 3
  have f4 := hfz 4
  have f5 := hfz 5
  clear hfz
  have hsw : w.heap.size < Y.heap.size := Nat.lt_trans hs3 hsY
  have hneX : ¬ (w3.heap.size = w.heap.size) := by omega
  go_upto_region 21 with fail
  go_region_held3 (fun w' => w'.cell? ⟨w.heap.size, 1, none⟩ = some (.int .u16 a1) ∧ w'.cell? ⟨w.heap.size, 4, none⟩ = some (.slice ao na ac) ∧ w'.cell? ⟨w.heap.size, 5, none⟩ = some (.slice eo ne ec)) (first | (simp [World.cell?_setCell_far, hneX, c0, c1, c2, c3, c4, c5]; done)) (fail)
  obtain ⟨Z, hZ⟩ : ∃ Z, Z = (((Y.setCell ⟨w3.heap.size, 2, none⟩ (.int .u16 a1)).setCell ⟨w3.heap.size, 4, none⟩ (.slice ao na ac)).setCell ⟨w3.heap.size, 5, none⟩ (.slice eo ne ec)) := ⟨_, rfl⟩
  rw [← hZ]
  have KZ : Hid (Below w.heap.size w Z) := by unfold Hid; rw [hZ]; exact Below.setCell (Below.setCell (Below.setCell (KY.out) (Nat.le_of_lt hs3) _) (Nat.le_of_lt hs3) _) (Nat.le_of_lt hs3) _
  have KXZ : Hid (Below w3.heap.size w3 Z) := by unfold Hid; rw [hZ]; exact Below.setCell (Below.setCell (Below.setCell (KXY.out) (Nat.le_refl _) _) (Nat.le_refl _) _) (Nat.le_refl _) _
  have RZ : Hid (Box Z w3.heap.size (.int .u8 22) (.int .u8 0) (.int .u16 a1) (.int .u16 0) (.slice ao na ac) (.slice eo ne ec)) := by
    unfold Hid
    rw [hZ]
    exact ⟨(set_else (set_else (set_else d0 (by decide)) (by decide)) (by decide)), (set_else (set_else (set_else d1 (by decide)) (by decide)) (by decide)), (set_else (set_else (set_same d2) (by decide)) (by decide)), (set_else (set_else (set_else d3 (by decide)) (by decide)) (by decide)), (set_else (set_same (set_else d4 (by decide))) (by decide)), (set_same (set_else (set_else d5 (by decide)) (by decide)))⟩
  clear hZ c0 c1 c2 c3 c4 c5 d0 d1 d2 d3 d4 d5 f0 f1 f2 f3 f4 f5 KY KXY hsw RY hsY
  have KU := hid_as KZ.out.drew
  have KWU := hid_as KXZ.out.drew
  have RH := hid_as RZ.out.drew
  clear KZ KXZ RZ
  generalize Z.drew = U at KU KWU RH ⊢
  have hsU : w.heap.size < U.heap.size := Nat.lt_of_lt_of_le hs3 KWU.out.size
  have BH := hid_as (B3.out.below KWU.out hs3)
  have IQ := hid_as (HA.out.below KU.out)
  have IR : Hid (IsRp U (.agg #[.int .u8 22, .int .u8 0, .int .u16 a1, .int .u16 0, .slice ao na ac, .slice eo ne ec]) ⟨22, 0, a1, 0, a4, a5⟩) := by
    obtain ⟨_, bv, rv, hv, s1, s2⟩ := IQ.out
    unfold rqV at hv
    injection hv with hv
    simp only [Array.mk.injEq, List.cons.injEq, and_true] at hv
    obtain ⟨_, _, _, _, e1, e2⟩ := hv
    subst e1 e2
    exact ⟨HROK.out, _, _, rfl, s1, s2⟩
  clear IQ
  obtain ⟨c0, c1, c2, c3, c4, c5⟩ := BH.out
  obtain ⟨d0, d1, d2, d3, d4, d5⟩ := RH.out
  have YR := hid_as (reply_yes IR.out HRF.out)
  go_wp2_with fail
  refine YR.out.mono ?_
  rintro e w4 ⟨v4, rfl, own4, k4⟩
  have HB4 : Hid (Bytes (repBytes ⟨22, 0, a1, 0, a4, a5⟩)) := repBytes_bytes HROK.out HRF.out
  have S4 := hid_as (own_sl own4)
  have K4 : Hid (Below w.heap.size w w4) := below_and KU.out k4
  have hs4 : w.heap.size < w4.heap.size := Nat.lt_of_lt_of_le hsU k4.size
  have hx3 : w3.heap.size < U.heap.size := lt_of_cell d0
  have hx4 : w3.heap.size < w4.heap.size := Nat.lt_of_lt_of_le hx3 k4.size
  have B4 := hid_as (BH.out.below k4 hsU)
  have R4 := hid_as (RH.out.below k4 hx3)
  have IR4 := hid_as (IR.out.below k4)
  have OA := hid_as (orep_c (HA.out.below K4.out) S4.out HB4.out (by have := HLEN.out; omega))
  clear k4 own4 c0 c1 c2 c3 c4 c5 d0 d1 d2 d3 d4 d5 YR BH RH IR
  obtain ⟨c0, c1, c2, c3, c4, c5⟩ := B4.out
  go_wp2_with fail
  refine OA.out.mono ?_
  rintro e w5 ⟨k5, ⟨_, v5, rfl, hv5⟩ | ⟨hno, _⟩⟩
  case inr => exact absurd HANS.out.1 hno
  rw [HANS.out.2] at hv5
  have I5 := hid_as hv5
  obtain ⟨go, gn, gc, ho, hn, hc, e5⟩ : ∃ go gn gc ho hn hc, v5 = .agg #[.int .u8 22, .int .u8 0, .int .u16 a1, .int .u16 0, .slice go gn gc, .slice ho hn hc] := shape_rp' hv5
  subst e5
  have K5 : Hid (Below w.heap.size w w5) := below_and K4.out k5
  have hs5 : w.heap.size < w5.heap.size := Nat.lt_of_lt_of_le hs4 k5.size
  have hx5 : w3.heap.size < w5.heap.size := Nat.lt_of_lt_of_le hx4 k5.size
  have B5 := hid_as (B4.out.below k5 hs4)
  have R5 := hid_as (R4.out.below k5 hx4)
  have IR5 := hid_as (IR4.out.below k5)
  have S5 := hid_as (S4.out.below k5)
  clear hv5 k5 c0 c1 c2 c3 c4 c5 OA B4 R4 IR4 S4
  have d0 := fun (o : Obj) => (R5.out.grow o).c0
  have d1 := fun (o : Obj) => (R5.out.grow o).c1
  have d2 := fun (o : Obj) => (R5.out.grow o).c2
  have d3 := fun (o : Obj) => (R5.out.grow o).c3
  have d4 := fun (o : Obj) => (R5.out.grow o).c4
  have d5 := fun (o : Obj) => (R5.out.grow o).c5
  have XR := hid_as (fun (o : Obj) => hrep_c (I5.out.below (below_new (Below.refl _ w5) o)) (IR5.out.below (below_new (Below.refl _ w5) o)) HL4.out HL5.out)
  go_wp2_with fail
  refine (XR.out _).mono ?_
  rintro e w6 ⟨t, rfl, k6, ht⟩
  have ht : t = true := by simpa using ht
  subst ht
  have kk6 : Below w5.heap.size w5 w6 := below_and (below_new (Below.refl _ w5) _) k6
  have K6 : Hid (Below w.heap.size w w6) := below_and K5.out kk6
  have B6 := hid_as (B5.out.below kk6 hs5)
  have hs6 : w.heap.size < w6.heap.size := Nat.lt_of_lt_of_le hs5 kk6.size
  have S6 := hid_as (S5.out.below kk6)
  clear k6 kk6 d0 d1 d2 d3 d4 d5 XR B5 R5 IR5 S5 I5
  obtain ⟨c0, c1, c2, c3, c4, c5⟩ := B6.out
  have OB : Hid (∀ (W : World) (h : Below w6.heap.size w6 W), Calls Try.prog 21 #[.agg #[.int .u8 oth, .int .u16 a1, .int .u16 a2, .int .u16 a3, .slice ao na ac, .slice eo ne ec], v4] W fun e w' => Below w.heap.size w w' ∧ Below W.heap.size W w' ∧ ∃ (E q0 q1 q2 q3 : Int) (go : Option Addr) (gn gc : Nat) (ho : Option Addr) (hn hc : Nat), e = .returned (.tuple #[.agg #[.int .u8 q0, .int .u8 q1, .int .u16 q2, .int .u16 q3, .slice go gn gc, .slice ho hn hc], .int .i64 E]) ∧ (oth = 22 ∨ (((oth : Int) == 22) = false ∧ E = 30))) := by
    intro W h
    have hq : IsRq W (.agg #[.int .u8 oth, .int .u16 a1, .int .u16 a2, .int .u16 a3, .slice ao na ac, .slice eo ne ec]) ⟨oth, a1, a2, a3, a4, a5⟩ := by
      obtain ⟨ok, bv, rv, hv, s1, s2⟩ := HA.out.below (below_and K6.out h)
      unfold rqV at hv
      injection hv with hv
      simp only [Array.mk.injEq, List.cons.injEq, and_true] at hv
      obtain ⟨_, _, _, _, e1, e2⟩ := hv
      subst e1 e2
      exact ⟨⟨HOT.out, ok.addr, ok.n, ok.addr2, ok.regs⟩, _, _, rfl, s1, s2⟩
    refine (orep_c hq (S6.out.below h) HB4.out (by have := HLEN.out; omega)).mono ?_
    rintro e w7 ⟨k7, ⟨hi, v7, he, hv7⟩ | ⟨_, he⟩⟩
    · obtain ⟨go, gn, gc, ho, hn, hc, e7⟩ := shape_rp' hv7
      subst e7
      exact ⟨below_and K6.out (below_and h k7), k7, 0, _, _, _, _, _, _, _, _, _, _, he, HXX.out.elim Or.inl fun h => absurd hi h.2⟩
    · exact ⟨below_and K6.out (below_and h k7), k7, 30, _, _, _, _, _, _, _, _, _, _, he, HXX.out.elim Or.inl fun h => Or.inr ⟨h.1, rfl⟩⟩
  go_wp2_with fail
  (with_reducible refine (OB.out _ ?_).mono ?_)
  · exact below_new (Below.refl _ w6) _
  rintro e w7 ⟨K7, k7, E, q0, q1, q2, q3, go, gn, gc, ho, hn, hc, rfl, hE⟩
  have K7H := hid_as K7
  have B7 := (B6.out.grow (.cells #[.int .u8 oth, .int .u16 a1, .int .u16 a2, .int .u16 a3, .slice ao na ac, .slice eo ne ec] 26)).below k7 (by rw [World.size_alloc]; omega)
  clear K7 k7 c0 c1 c2 c3 c4 c5
  have c0 := fun (o : Obj) => (B7.grow o).c0
  rcases hE with h | ⟨hne, h⟩
  · subst h
    go_wp2
    go_ret
    exact ⟨rfl, below_new K7H.out _⟩
  · subst h
    go_wp2
    go_ret
    exact ⟨rfl, below_new K7H.out _⟩
set_option linter.unusedSimpArgs false in
set_option linter.unusedVariables false in
set_option maxRecDepth 100000 in
set_option maxHeartbeats 8000000 in
theorem match_15 (a1 a2 a3 na ac ne ec nb bc nr rc oth : Nat) (a4 : List Bool) (a5 : List Nat) (ao eo bo ro : Option Addr) (w : World) (ha : IsRq w (.agg #[.int .u8 15, .int .u16 a1, .int .u16 a2, .int .u16 a3, .slice ao na ac, .slice eo ne ec]) ⟨15, a1, a2, a3, a4, a5⟩) (hl : a4.length ≤ 2500 ∧ a5.length ≤ 200) (hh : nb ≤ 2500) (hi : nr ≤ 200) (fa : Rq.Fits ⟨15, a1, a2, a3, a4, a5⟩) (hna : na = a4.length) (hne : ne = a5.length) (hRF : Rp.Fits ⟨15, 0, a1, na, [], []⟩) (hRok : Rp.Ok ⟨15, 0, a1, na, [], []⟩) (hAns : IsAns ⟨15, a1, a2, a3, a4, a5⟩ (repBytes ⟨15, 0, a1, na, [], []⟩) ∧ readAns ⟨15, a1, a2, a3, a4, a5⟩ (repBytes ⟨15, 0, a1, na, [], []⟩) = ⟨15, 0, a1, na, [], []⟩) (hlen : (repBytes ⟨15, 0, a1, na, [], []⟩).length ≤ 900) (hot : oth < 256) (HX : oth = 15 ∨ (((oth : Int) == 15) = false ∧ ¬ IsAns ⟨oth, a1, a2, a3, a4, a5⟩ (repBytes ⟨15, 0, a1, na, [], []⟩))) (l4 : (⟨15, 0, a1, na, [], []⟩ : Rp).bits.length ≤ 1000000) (l5 : (⟨15, 0, a1, na, [], []⟩ : Rp).regs.length ≤ 1000000) :
    Calls Try.prog 7 #[.agg #[.int .u8 15, .int .u16 a1, .int .u16 a2, .int .u16 a3, .slice ao na ac, .slice eo ne ec], .slice bo nb bc, .slice ro nr rc, .int .u8 0, .int .u8 oth] w fun e w' => e = .returned (.bool true) ∧ Below w.heap.size w w' := by
  have HA := hid_as ha
  have hd := decide_eq_true hl
  have h4 : decide ((2500 : Int) < (nb : Int)) = false := decide_eq_false (by omega)
  have h5 : decide ((200 : Int) < (nr : Int)) = false := decide_eq_false (by omega)
  have HL := hid_as hl
  have FA := hid_as fa
  have HNB := hid_as hh
  have HNR := hid_as hi
  clear ha hh hl hi fa
  have e1 : IntKind.u16.wrap (na : Int) = (na : Int) := by rw [IntKind.wrap_u16]; have := HL.out; omega
  have HRF := hid_as hRF
  have HROK := hid_as hRok
  have HANS := hid_as hAns
  have HLEN := hid_as hlen
  have HOT := hid_as hot
  have HXX := hid_as HX
  have HNA := hid_as hna
  have HNE := hid_as hne
  have HL4 := hid_as l4
  have HL5 := hid_as l5
  clear hRF hRok hAns hlen hot HX hna hne l4 l5
  go_enter Try.func7, Try.ntmps7
  go_wp2_with fail
  refine (known_law _).mono ?_
  rintro e w1 ⟨rfl, k1⟩
  obtain ⟨k1, B1, hs1⟩ := one_box k1
  have K1 : Hid (Below w.heap.size w w1) := k1
  have H1 := hid_as (HA.out.below k1)
  have B1 : Hid (Box w1 w.heap.size (.int .u8 15) (.int .u16 a1) (.int .u16 a2) (.int .u16 a3) (.slice ao na ac) (.slice eo ne ec)) := B1
  obtain ⟨c0, c1, c2, c3, c4, c5⟩ := B1.out
  clear k1
  go_wp2_with fail
  refine (light_c H1.out).mono ?_
  rintro e w2 ⟨rfl, k2⟩
  have K2 : Hid (Below w.heap.size w w2) := below_and K1.out k2
  rw [hd]
  have H2 := hid_as (HA.out.below K2.out)
  have hs2 : w.heap.size < w2.heap.size := Nat.lt_of_lt_of_le hs1 k2.size
  have B2 : Hid (Box w2 w.heap.size (.int .u8 15) (.int .u16 a1) (.int .u16 a2) (.int .u16 a3) (.slice ao na ac) (.slice eo ne ec)) := B1.out.below k2 hs1
  clear k2 c0 c1 c2 c3 c4 c5 B1 H1
  obtain ⟨c0, c1, c2, c3, c4, c5⟩ := B2.out
  have RR := hid_as (ref_request H2.out HL.out.1 HL.out.2)
  go_wp2_with fail
  refine RR.out.mono ?_
  rintro e w3 ⟨k3, ⟨_, y, rfl, _⟩ | ⟨hf, _⟩⟩
  case inr => exact absurd FA.out hf
  have K3 : Hid (Below w.heap.size w w3) := below_and K2.out k3
  have hs3 : w.heap.size < w3.heap.size := Nat.lt_of_lt_of_le hs2 k3.size
  have B3 : Hid (Box w3 w.heap.size (.int .u8 15) (.int .u16 a1) (.int .u16 a2) (.int .u16 a3) (.slice ao na ac) (.slice eo ne ec)) := B2.out.below k3 hs2
  clear k3 c0 c1 c2 c3 c4 c5 B2 H2 RR
  obtain ⟨c0, c1, c2, c3, c4, c5⟩ := B3.out
  go_upto_region 9 with fail
  have KY := hid_as (below_new K3.out (.cells #[.int .u8 15, .int .u8 0, .int .u16 0, .int .u16 0, .slice none 0 0, .slice none 0 0] 44))
  have KXY := hid_as (below_new (Below.refl _ w3) (.cells #[.int .u8 15, .int .u8 0, .int .u16 0, .int .u16 0, .slice none 0 0, .slice none 0 0] 44))
  have BY := (Box.mk c0 c1 c2 c3 c4 c5).grow (.cells #[.int .u8 15, .int .u8 0, .int .u16 0, .int .u16 0, .slice none 0 0, .slice none 0 0] 44)
  have RY := heap_alloc_new w3 (.cells #[.int .u8 15, .int .u8 0, .int .u16 0, .int .u16 0, .slice none 0 0, .slice none 0 0] 44)
  have hsY : w3.heap.size < (w3.alloc (.cells #[.int .u8 15, .int .u8 0, .int .u16 0, .int .u16 0, .slice none 0 0, .slice none 0 0] 44)).heap.size := by rw [World.size_alloc]; omega
  clear c0 c1 c2 c3 c4 c5
  generalize w3.alloc (.cells #[.int .u8 15, .int .u8 0, .int .u16 0, .int .u16 0, .slice none 0 0, .slice none 0 0] 44) = Y at KY KXY BY RY hsY ⊢
  obtain ⟨c0, c1, c2, c3, c4, c5⟩ := BY
  obtain ⟨⟨d0, d1, d2, d3, d4, d5⟩, hfz⟩ := block6 RY
  have f0 := hfz 0
  have f1 := hfz 1
  have f2 := hfz 2
  have f3 := hfz 3
  have f4 := hfz 4
  have f5 := hfz 5
  clear hfz
  have hsw : w.heap.size < Y.heap.size := Nat.lt_trans hs3 hsY
  have hneX : ¬ (w3.heap.size = w.heap.size) := by omega
  go_upto_region 23 with fail
  go_region_held3 (fun w' => w'.cell? ⟨w.heap.size, 1, none⟩ = some (.int .u16 a1) ∧ w'.cell? ⟨w.heap.size, 4, none⟩ = some (.slice ao na ac)) (first | (simp [World.cell?_setCell_far, hneX, c0, c1, c2, c3, c4, c5]; done)) (fail)
  obtain ⟨Z, hZ⟩ : ∃ Z, Z = ((Y.setCell ⟨w3.heap.size, 2, none⟩ (.int .u16 a1)).setCell ⟨w3.heap.size, 3, none⟩ (.int .u16 na)) := ⟨_, rfl⟩
  rw [← hZ]
  have KZ : Hid (Below w.heap.size w Z) := by unfold Hid; rw [hZ]; exact Below.setCell (Below.setCell (KY.out) (Nat.le_of_lt hs3) _) (Nat.le_of_lt hs3) _
  have KXZ : Hid (Below w3.heap.size w3 Z) := by unfold Hid; rw [hZ]; exact Below.setCell (Below.setCell (KXY.out) (Nat.le_refl _) _) (Nat.le_refl _) _
  have RZ : Hid (Box Z w3.heap.size (.int .u8 15) (.int .u8 0) (.int .u16 a1) (.int .u16 na) (.slice none 0 0) (.slice none 0 0)) := by
    unfold Hid
    rw [hZ]
    exact ⟨(set_else (set_else d0 (by decide)) (by decide)), (set_else (set_else d1 (by decide)) (by decide)), (set_else (set_same d2) (by decide)), (set_same (set_else d3 (by decide))), (set_else (set_else d4 (by decide)) (by decide)), (set_else (set_else d5 (by decide)) (by decide))⟩
  clear hZ c0 c1 c2 c3 c4 c5 d0 d1 d2 d3 d4 d5 f0 f1 f2 f3 f4 f5 KY KXY hsw RY hsY
  have KU := hid_as KZ.out.drew
  have KWU := hid_as KXZ.out.drew
  have RH := hid_as RZ.out.drew
  clear KZ KXZ RZ
  generalize Z.drew = U at KU KWU RH ⊢
  have hsU : w.heap.size < U.heap.size := Nat.lt_of_lt_of_le hs3 KWU.out.size
  have BH := hid_as (B3.out.below KWU.out hs3)
  have IQ := hid_as (HA.out.below KU.out)
  have IR : Hid (IsRp U (.agg #[.int .u8 15, .int .u8 0, .int .u16 a1, .int .u16 na, .slice none 0 0, .slice none 0 0]) ⟨15, 0, a1, na, [], []⟩) := by
    exact ⟨HROK.out, _, _, rfl, Sl.nil U, Sl.nil U⟩
  clear IQ
  obtain ⟨c0, c1, c2, c3, c4, c5⟩ := BH.out
  obtain ⟨d0, d1, d2, d3, d4, d5⟩ := RH.out
  have YR := hid_as (reply_yes IR.out HRF.out)
  go_wp2_with fail
  refine YR.out.mono ?_
  rintro e w4 ⟨v4, rfl, own4, k4⟩
  have HB4 : Hid (Bytes (repBytes ⟨15, 0, a1, na, [], []⟩)) := repBytes_bytes HROK.out HRF.out
  have S4 := hid_as (own_sl own4)
  have K4 : Hid (Below w.heap.size w w4) := below_and KU.out k4
  have hs4 : w.heap.size < w4.heap.size := Nat.lt_of_lt_of_le hsU k4.size
  have hx3 : w3.heap.size < U.heap.size := lt_of_cell d0
  have hx4 : w3.heap.size < w4.heap.size := Nat.lt_of_lt_of_le hx3 k4.size
  have B4 := hid_as (BH.out.below k4 hsU)
  have R4 := hid_as (RH.out.below k4 hx3)
  have IR4 := hid_as (IR.out.below k4)
  have OA := hid_as (orep_c (HA.out.below K4.out) S4.out HB4.out (by have := HLEN.out; omega))
  clear k4 own4 c0 c1 c2 c3 c4 c5 d0 d1 d2 d3 d4 d5 YR BH RH IR
  obtain ⟨c0, c1, c2, c3, c4, c5⟩ := B4.out
  go_wp2_with fail
  refine OA.out.mono ?_
  rintro e w5 ⟨k5, ⟨_, v5, rfl, hv5⟩ | ⟨hno, _⟩⟩
  case inr => exact absurd HANS.out.1 hno
  rw [HANS.out.2] at hv5
  have I5 := hid_as hv5
  obtain ⟨go, gn, gc, ho, hn, hc, e5⟩ : ∃ go gn gc ho hn hc, v5 = .agg #[.int .u8 15, .int .u8 0, .int .u16 a1, .int .u16 na, .slice go gn gc, .slice ho hn hc] := shape_rp' hv5
  subst e5
  have K5 : Hid (Below w.heap.size w w5) := below_and K4.out k5
  have hs5 : w.heap.size < w5.heap.size := Nat.lt_of_lt_of_le hs4 k5.size
  have hx5 : w3.heap.size < w5.heap.size := Nat.lt_of_lt_of_le hx4 k5.size
  have B5 := hid_as (B4.out.below k5 hs4)
  have R5 := hid_as (R4.out.below k5 hx4)
  have IR5 := hid_as (IR4.out.below k5)
  have S5 := hid_as (S4.out.below k5)
  clear hv5 k5 c0 c1 c2 c3 c4 c5 OA B4 R4 IR4 S4
  have d0 := fun (o : Obj) => (R5.out.grow o).c0
  have d1 := fun (o : Obj) => (R5.out.grow o).c1
  have d2 := fun (o : Obj) => (R5.out.grow o).c2
  have d3 := fun (o : Obj) => (R5.out.grow o).c3
  have d4 := fun (o : Obj) => (R5.out.grow o).c4
  have d5 := fun (o : Obj) => (R5.out.grow o).c5
  have XR := hid_as (fun (o : Obj) => hrep_c (I5.out.below (below_new (Below.refl _ w5) o)) (IR5.out.below (below_new (Below.refl _ w5) o)) HL4.out HL5.out)
  go_wp2_with fail
  refine (XR.out _).mono ?_
  rintro e w6 ⟨t, rfl, k6, ht⟩
  have ht : t = true := by simpa using ht
  subst ht
  have kk6 : Below w5.heap.size w5 w6 := below_and (below_new (Below.refl _ w5) _) k6
  have K6 : Hid (Below w.heap.size w w6) := below_and K5.out kk6
  have B6 := hid_as (B5.out.below kk6 hs5)
  have hs6 : w.heap.size < w6.heap.size := Nat.lt_of_lt_of_le hs5 kk6.size
  have S6 := hid_as (S5.out.below kk6)
  clear k6 kk6 d0 d1 d2 d3 d4 d5 XR B5 R5 IR5 S5 I5
  obtain ⟨c0, c1, c2, c3, c4, c5⟩ := B6.out
  have OB : Hid (∀ (W : World) (h : Below w6.heap.size w6 W), Calls Try.prog 21 #[.agg #[.int .u8 oth, .int .u16 a1, .int .u16 a2, .int .u16 a3, .slice ao na ac, .slice eo ne ec], v4] W fun e w' => Below w.heap.size w w' ∧ Below W.heap.size W w' ∧ ∃ (E q0 q1 q2 q3 : Int) (go : Option Addr) (gn gc : Nat) (ho : Option Addr) (hn hc : Nat), e = .returned (.tuple #[.agg #[.int .u8 q0, .int .u8 q1, .int .u16 q2, .int .u16 q3, .slice go gn gc, .slice ho hn hc], .int .i64 E]) ∧ (oth = 15 ∨ (((oth : Int) == 15) = false ∧ E = 30))) := by
    intro W h
    have hq : IsRq W (.agg #[.int .u8 oth, .int .u16 a1, .int .u16 a2, .int .u16 a3, .slice ao na ac, .slice eo ne ec]) ⟨oth, a1, a2, a3, a4, a5⟩ := by
      obtain ⟨ok, bv, rv, hv, s1, s2⟩ := HA.out.below (below_and K6.out h)
      unfold rqV at hv
      injection hv with hv
      simp only [Array.mk.injEq, List.cons.injEq, and_true] at hv
      obtain ⟨_, _, _, _, e1, e2⟩ := hv
      subst e1 e2
      exact ⟨⟨HOT.out, ok.addr, ok.n, ok.addr2, ok.regs⟩, _, _, rfl, s1, s2⟩
    refine (orep_c hq (S6.out.below h) HB4.out (by have := HLEN.out; omega)).mono ?_
    rintro e w7 ⟨k7, ⟨hi, v7, he, hv7⟩ | ⟨_, he⟩⟩
    · obtain ⟨go, gn, gc, ho, hn, hc, e7⟩ := shape_rp' hv7
      subst e7
      exact ⟨below_and K6.out (below_and h k7), k7, 0, _, _, _, _, _, _, _, _, _, _, he, HXX.out.elim Or.inl fun h => absurd hi h.2⟩
    · exact ⟨below_and K6.out (below_and h k7), k7, 30, _, _, _, _, _, _, _, _, _, _, he, HXX.out.elim Or.inl fun h => Or.inr ⟨h.1, rfl⟩⟩
  go_wp2_with fail
  (with_reducible refine (OB.out _ ?_).mono ?_)
  · exact below_new (Below.refl _ w6) _
  rintro e w7 ⟨K7, k7, E, q0, q1, q2, q3, go, gn, gc, ho, hn, hc, rfl, hE⟩
  have K7H := hid_as K7
  have B7 := (B6.out.grow (.cells #[.int .u8 oth, .int .u16 a1, .int .u16 a2, .int .u16 a3, .slice ao na ac, .slice eo ne ec] 26)).below k7 (by rw [World.size_alloc]; omega)
  clear K7 k7 c0 c1 c2 c3 c4 c5
  have c0 := fun (o : Obj) => (B7.grow o).c0
  rcases hE with h | ⟨hne, h⟩
  · subst h
    go_wp2
    go_ret
    exact ⟨rfl, below_new K7H.out _⟩
  · subst h
    go_wp2
    go_ret
    exact ⟨rfl, below_new K7H.out _⟩
set_option linter.unusedSimpArgs false in
set_option linter.unusedVariables false in
set_option maxRecDepth 100000 in
set_option maxHeartbeats 8000000 in
theorem match_16 (a1 a2 a3 na ac ne ec nb bc nr rc oth : Nat) (a4 : List Bool) (a5 : List Nat) (ao eo bo ro : Option Addr) (w : World) (ha : IsRq w (.agg #[.int .u8 16, .int .u16 a1, .int .u16 a2, .int .u16 a3, .slice ao na ac, .slice eo ne ec]) ⟨16, a1, a2, a3, a4, a5⟩) (hl : a4.length ≤ 2500 ∧ a5.length ≤ 200) (hh : nb ≤ 2500) (hi : nr ≤ 200) (fa : Rq.Fits ⟨16, a1, a2, a3, a4, a5⟩) (hna : na = a4.length) (hne : ne = a5.length) (hRF : Rp.Fits ⟨16, 0, a1, ne, [], []⟩) (hRok : Rp.Ok ⟨16, 0, a1, ne, [], []⟩) (hAns : IsAns ⟨16, a1, a2, a3, a4, a5⟩ (repBytes ⟨16, 0, a1, ne, [], []⟩) ∧ readAns ⟨16, a1, a2, a3, a4, a5⟩ (repBytes ⟨16, 0, a1, ne, [], []⟩) = ⟨16, 0, a1, ne, [], []⟩) (hlen : (repBytes ⟨16, 0, a1, ne, [], []⟩).length ≤ 900) (hot : oth < 256) (HX : oth = 16 ∨ (((oth : Int) == 16) = false ∧ ¬ IsAns ⟨oth, a1, a2, a3, a4, a5⟩ (repBytes ⟨16, 0, a1, ne, [], []⟩))) (l4 : (⟨16, 0, a1, ne, [], []⟩ : Rp).bits.length ≤ 1000000) (l5 : (⟨16, 0, a1, ne, [], []⟩ : Rp).regs.length ≤ 1000000) :
    Calls Try.prog 7 #[.agg #[.int .u8 16, .int .u16 a1, .int .u16 a2, .int .u16 a3, .slice ao na ac, .slice eo ne ec], .slice bo nb bc, .slice ro nr rc, .int .u8 0, .int .u8 oth] w fun e w' => e = .returned (.bool true) ∧ Below w.heap.size w w' := by
  have HA := hid_as ha
  have hd := decide_eq_true hl
  have h4 : decide ((2500 : Int) < (nb : Int)) = false := decide_eq_false (by omega)
  have h5 : decide ((200 : Int) < (nr : Int)) = false := decide_eq_false (by omega)
  have HL := hid_as hl
  have FA := hid_as fa
  have HNB := hid_as hh
  have HNR := hid_as hi
  clear ha hh hl hi fa
  have e1 : IntKind.u16.wrap (ne : Int) = (ne : Int) := by rw [IntKind.wrap_u16]; have := HL.out; omega
  have HRF := hid_as hRF
  have HROK := hid_as hRok
  have HANS := hid_as hAns
  have HLEN := hid_as hlen
  have HOT := hid_as hot
  have HXX := hid_as HX
  have HNA := hid_as hna
  have HNE := hid_as hne
  have HL4 := hid_as l4
  have HL5 := hid_as l5
  clear hRF hRok hAns hlen hot HX hna hne l4 l5
  go_enter Try.func7, Try.ntmps7
  go_wp2_with fail
  refine (known_law _).mono ?_
  rintro e w1 ⟨rfl, k1⟩
  obtain ⟨k1, B1, hs1⟩ := one_box k1
  have K1 : Hid (Below w.heap.size w w1) := k1
  have H1 := hid_as (HA.out.below k1)
  have B1 : Hid (Box w1 w.heap.size (.int .u8 16) (.int .u16 a1) (.int .u16 a2) (.int .u16 a3) (.slice ao na ac) (.slice eo ne ec)) := B1
  obtain ⟨c0, c1, c2, c3, c4, c5⟩ := B1.out
  clear k1
  go_wp2_with fail
  refine (light_c H1.out).mono ?_
  rintro e w2 ⟨rfl, k2⟩
  have K2 : Hid (Below w.heap.size w w2) := below_and K1.out k2
  rw [hd]
  have H2 := hid_as (HA.out.below K2.out)
  have hs2 : w.heap.size < w2.heap.size := Nat.lt_of_lt_of_le hs1 k2.size
  have B2 : Hid (Box w2 w.heap.size (.int .u8 16) (.int .u16 a1) (.int .u16 a2) (.int .u16 a3) (.slice ao na ac) (.slice eo ne ec)) := B1.out.below k2 hs1
  clear k2 c0 c1 c2 c3 c4 c5 B1 H1
  obtain ⟨c0, c1, c2, c3, c4, c5⟩ := B2.out
  have RR := hid_as (ref_request H2.out HL.out.1 HL.out.2)
  go_wp2_with fail
  refine RR.out.mono ?_
  rintro e w3 ⟨k3, ⟨_, y, rfl, _⟩ | ⟨hf, _⟩⟩
  case inr => exact absurd FA.out hf
  have K3 : Hid (Below w.heap.size w w3) := below_and K2.out k3
  have hs3 : w.heap.size < w3.heap.size := Nat.lt_of_lt_of_le hs2 k3.size
  have B3 : Hid (Box w3 w.heap.size (.int .u8 16) (.int .u16 a1) (.int .u16 a2) (.int .u16 a3) (.slice ao na ac) (.slice eo ne ec)) := B2.out.below k3 hs2
  clear k3 c0 c1 c2 c3 c4 c5 B2 H2 RR
  obtain ⟨c0, c1, c2, c3, c4, c5⟩ := B3.out
  go_upto_region 9 with fail
  have KY := hid_as (below_new K3.out (.cells #[.int .u8 16, .int .u8 0, .int .u16 0, .int .u16 0, .slice none 0 0, .slice none 0 0] 44))
  have KXY := hid_as (below_new (Below.refl _ w3) (.cells #[.int .u8 16, .int .u8 0, .int .u16 0, .int .u16 0, .slice none 0 0, .slice none 0 0] 44))
  have BY := (Box.mk c0 c1 c2 c3 c4 c5).grow (.cells #[.int .u8 16, .int .u8 0, .int .u16 0, .int .u16 0, .slice none 0 0, .slice none 0 0] 44)
  have RY := heap_alloc_new w3 (.cells #[.int .u8 16, .int .u8 0, .int .u16 0, .int .u16 0, .slice none 0 0, .slice none 0 0] 44)
  have hsY : w3.heap.size < (w3.alloc (.cells #[.int .u8 16, .int .u8 0, .int .u16 0, .int .u16 0, .slice none 0 0, .slice none 0 0] 44)).heap.size := by rw [World.size_alloc]; omega
  clear c0 c1 c2 c3 c4 c5
  generalize w3.alloc (.cells #[.int .u8 16, .int .u8 0, .int .u16 0, .int .u16 0, .slice none 0 0, .slice none 0 0] 44) = Y at KY KXY BY RY hsY ⊢
  obtain ⟨c0, c1, c2, c3, c4, c5⟩ := BY
  obtain ⟨⟨d0, d1, d2, d3, d4, d5⟩, hfz⟩ := block6 RY
  have f0 := hfz 0
  have f1 := hfz 1
  have f2 := hfz 2
  have f3 := hfz 3
  have f4 := hfz 4
  have f5 := hfz 5
  clear hfz
  have hsw : w.heap.size < Y.heap.size := Nat.lt_trans hs3 hsY
  have hneX : ¬ (w3.heap.size = w.heap.size) := by omega
  go_upto_region 25 with fail
  go_region_held3 (fun w' => w'.cell? ⟨w.heap.size, 1, none⟩ = some (.int .u16 a1) ∧ w'.cell? ⟨w.heap.size, 5, none⟩ = some (.slice eo ne ec)) (first | (simp [World.cell?_setCell_far, hneX, c0, c1, c2, c3, c4, c5]; done)) (fail)
  obtain ⟨Z, hZ⟩ : ∃ Z, Z = ((Y.setCell ⟨w3.heap.size, 2, none⟩ (.int .u16 a1)).setCell ⟨w3.heap.size, 3, none⟩ (.int .u16 ne)) := ⟨_, rfl⟩
  rw [← hZ]
  have KZ : Hid (Below w.heap.size w Z) := by unfold Hid; rw [hZ]; exact Below.setCell (Below.setCell (KY.out) (Nat.le_of_lt hs3) _) (Nat.le_of_lt hs3) _
  have KXZ : Hid (Below w3.heap.size w3 Z) := by unfold Hid; rw [hZ]; exact Below.setCell (Below.setCell (KXY.out) (Nat.le_refl _) _) (Nat.le_refl _) _
  have RZ : Hid (Box Z w3.heap.size (.int .u8 16) (.int .u8 0) (.int .u16 a1) (.int .u16 ne) (.slice none 0 0) (.slice none 0 0)) := by
    unfold Hid
    rw [hZ]
    exact ⟨(set_else (set_else d0 (by decide)) (by decide)), (set_else (set_else d1 (by decide)) (by decide)), (set_else (set_same d2) (by decide)), (set_same (set_else d3 (by decide))), (set_else (set_else d4 (by decide)) (by decide)), (set_else (set_else d5 (by decide)) (by decide))⟩
  clear hZ c0 c1 c2 c3 c4 c5 d0 d1 d2 d3 d4 d5 f0 f1 f2 f3 f4 f5 KY KXY hsw RY hsY
  have KU := hid_as KZ.out.drew
  have KWU := hid_as KXZ.out.drew
  have RH := hid_as RZ.out.drew
  clear KZ KXZ RZ
  generalize Z.drew = U at KU KWU RH ⊢
  have hsU : w.heap.size < U.heap.size := Nat.lt_of_lt_of_le hs3 KWU.out.size
  have BH := hid_as (B3.out.below KWU.out hs3)
  have IQ := hid_as (HA.out.below KU.out)
  have IR : Hid (IsRp U (.agg #[.int .u8 16, .int .u8 0, .int .u16 a1, .int .u16 ne, .slice none 0 0, .slice none 0 0]) ⟨16, 0, a1, ne, [], []⟩) := by
    exact ⟨HROK.out, _, _, rfl, Sl.nil U, Sl.nil U⟩
  clear IQ
  obtain ⟨c0, c1, c2, c3, c4, c5⟩ := BH.out
  obtain ⟨d0, d1, d2, d3, d4, d5⟩ := RH.out
  have YR := hid_as (reply_yes IR.out HRF.out)
  go_wp2_with fail
  refine YR.out.mono ?_
  rintro e w4 ⟨v4, rfl, own4, k4⟩
  have HB4 : Hid (Bytes (repBytes ⟨16, 0, a1, ne, [], []⟩)) := repBytes_bytes HROK.out HRF.out
  have S4 := hid_as (own_sl own4)
  have K4 : Hid (Below w.heap.size w w4) := below_and KU.out k4
  have hs4 : w.heap.size < w4.heap.size := Nat.lt_of_lt_of_le hsU k4.size
  have hx3 : w3.heap.size < U.heap.size := lt_of_cell d0
  have hx4 : w3.heap.size < w4.heap.size := Nat.lt_of_lt_of_le hx3 k4.size
  have B4 := hid_as (BH.out.below k4 hsU)
  have R4 := hid_as (RH.out.below k4 hx3)
  have IR4 := hid_as (IR.out.below k4)
  have OA := hid_as (orep_c (HA.out.below K4.out) S4.out HB4.out (by have := HLEN.out; omega))
  clear k4 own4 c0 c1 c2 c3 c4 c5 d0 d1 d2 d3 d4 d5 YR BH RH IR
  obtain ⟨c0, c1, c2, c3, c4, c5⟩ := B4.out
  go_wp2_with fail
  refine OA.out.mono ?_
  rintro e w5 ⟨k5, ⟨_, v5, rfl, hv5⟩ | ⟨hno, _⟩⟩
  case inr => exact absurd HANS.out.1 hno
  rw [HANS.out.2] at hv5
  have I5 := hid_as hv5
  obtain ⟨go, gn, gc, ho, hn, hc, e5⟩ : ∃ go gn gc ho hn hc, v5 = .agg #[.int .u8 16, .int .u8 0, .int .u16 a1, .int .u16 ne, .slice go gn gc, .slice ho hn hc] := shape_rp' hv5
  subst e5
  have K5 : Hid (Below w.heap.size w w5) := below_and K4.out k5
  have hs5 : w.heap.size < w5.heap.size := Nat.lt_of_lt_of_le hs4 k5.size
  have hx5 : w3.heap.size < w5.heap.size := Nat.lt_of_lt_of_le hx4 k5.size
  have B5 := hid_as (B4.out.below k5 hs4)
  have R5 := hid_as (R4.out.below k5 hx4)
  have IR5 := hid_as (IR4.out.below k5)
  have S5 := hid_as (S4.out.below k5)
  clear hv5 k5 c0 c1 c2 c3 c4 c5 OA B4 R4 IR4 S4
  have d0 := fun (o : Obj) => (R5.out.grow o).c0
  have d1 := fun (o : Obj) => (R5.out.grow o).c1
  have d2 := fun (o : Obj) => (R5.out.grow o).c2
  have d3 := fun (o : Obj) => (R5.out.grow o).c3
  have d4 := fun (o : Obj) => (R5.out.grow o).c4
  have d5 := fun (o : Obj) => (R5.out.grow o).c5
  have XR := hid_as (fun (o : Obj) => hrep_c (I5.out.below (below_new (Below.refl _ w5) o)) (IR5.out.below (below_new (Below.refl _ w5) o)) HL4.out HL5.out)
  go_wp2_with fail
  refine (XR.out _).mono ?_
  rintro e w6 ⟨t, rfl, k6, ht⟩
  have ht : t = true := by simpa using ht
  subst ht
  have kk6 : Below w5.heap.size w5 w6 := below_and (below_new (Below.refl _ w5) _) k6
  have K6 : Hid (Below w.heap.size w w6) := below_and K5.out kk6
  have B6 := hid_as (B5.out.below kk6 hs5)
  have hs6 : w.heap.size < w6.heap.size := Nat.lt_of_lt_of_le hs5 kk6.size
  have S6 := hid_as (S5.out.below kk6)
  clear k6 kk6 d0 d1 d2 d3 d4 d5 XR B5 R5 IR5 S5 I5
  obtain ⟨c0, c1, c2, c3, c4, c5⟩ := B6.out
  have OB : Hid (∀ (W : World) (h : Below w6.heap.size w6 W), Calls Try.prog 21 #[.agg #[.int .u8 oth, .int .u16 a1, .int .u16 a2, .int .u16 a3, .slice ao na ac, .slice eo ne ec], v4] W fun e w' => Below w.heap.size w w' ∧ Below W.heap.size W w' ∧ ∃ (E q0 q1 q2 q3 : Int) (go : Option Addr) (gn gc : Nat) (ho : Option Addr) (hn hc : Nat), e = .returned (.tuple #[.agg #[.int .u8 q0, .int .u8 q1, .int .u16 q2, .int .u16 q3, .slice go gn gc, .slice ho hn hc], .int .i64 E]) ∧ (oth = 16 ∨ (((oth : Int) == 16) = false ∧ E = 30))) := by
    intro W h
    have hq : IsRq W (.agg #[.int .u8 oth, .int .u16 a1, .int .u16 a2, .int .u16 a3, .slice ao na ac, .slice eo ne ec]) ⟨oth, a1, a2, a3, a4, a5⟩ := by
      obtain ⟨ok, bv, rv, hv, s1, s2⟩ := HA.out.below (below_and K6.out h)
      unfold rqV at hv
      injection hv with hv
      simp only [Array.mk.injEq, List.cons.injEq, and_true] at hv
      obtain ⟨_, _, _, _, e1, e2⟩ := hv
      subst e1 e2
      exact ⟨⟨HOT.out, ok.addr, ok.n, ok.addr2, ok.regs⟩, _, _, rfl, s1, s2⟩
    refine (orep_c hq (S6.out.below h) HB4.out (by have := HLEN.out; omega)).mono ?_
    rintro e w7 ⟨k7, ⟨hi, v7, he, hv7⟩ | ⟨_, he⟩⟩
    · obtain ⟨go, gn, gc, ho, hn, hc, e7⟩ := shape_rp' hv7
      subst e7
      exact ⟨below_and K6.out (below_and h k7), k7, 0, _, _, _, _, _, _, _, _, _, _, he, HXX.out.elim Or.inl fun h => absurd hi h.2⟩
    · exact ⟨below_and K6.out (below_and h k7), k7, 30, _, _, _, _, _, _, _, _, _, _, he, HXX.out.elim Or.inl fun h => Or.inr ⟨h.1, rfl⟩⟩
  go_wp2_with fail
  (with_reducible refine (OB.out _ ?_).mono ?_)
  · exact below_new (Below.refl _ w6) _
  rintro e w7 ⟨K7, k7, E, q0, q1, q2, q3, go, gn, gc, ho, hn, hc, rfl, hE⟩
  have K7H := hid_as K7
  have B7 := (B6.out.grow (.cells #[.int .u8 oth, .int .u16 a1, .int .u16 a2, .int .u16 a3, .slice ao na ac, .slice eo ne ec] 26)).below k7 (by rw [World.size_alloc]; omega)
  clear K7 k7 c0 c1 c2 c3 c4 c5
  have c0 := fun (o : Obj) => (B7.grow o).c0
  rcases hE with h | ⟨hne, h⟩
  · subst h
    go_wp2
    go_ret
    exact ⟨rfl, below_new K7H.out _⟩
  · subst h
    go_wp2
    go_ret
    exact ⟨rfl, below_new K7H.out _⟩
end Go.Proofs.Ytehbbkdiekgpbaa
