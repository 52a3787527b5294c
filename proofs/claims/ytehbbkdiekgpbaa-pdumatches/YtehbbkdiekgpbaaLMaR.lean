/- The walk of PduMatches: what reads. -/
import Derived.Test.YtehbbkdiekgpbaaLMaB
namespace Go.Proofs.Ytehbbkdiekgpbaa
open Go.RowKit
open Pdu
set_option linter.unusedSimpArgs false in
set_option linter.unusedVariables false in
set_option maxRecDepth 100000 in
set_option maxHeartbeats 8000000 in
theorem match_1 (a1 a2 a3 na ac ne ec nb bc nr rc oth : Nat) (a4 : List Bool) (a5 : List Nat) (ao eo bo ro : Option Addr) (w : World) (ha : IsRq w (.agg #[.int .u8 1, .int .u16 a1, .int .u16 a2, .int .u16 a3, .slice ao na ac, .slice eo ne ec]) ⟨1, a1, a2, a3, a4, a5⟩) (hl : a4.length ≤ 2500 ∧ a5.length ≤ 200) (hh : nb ≤ 2500) (hi : nr ≤ 200) (fa : Rq.Fits ⟨1, a1, a2, a3, a4, a5⟩) (hna : na = a4.length) (hne : ne = a5.length) (bits : List Bool) (hbt : Sl w (.slice bo nb bc) (bls bits)) (hnb : nb = bits.length) (hRF : Rp.Fits ⟨1, 0, 0, 0, (bits ++ List.replicate a2 false).take a2, []⟩) (hRok : Rp.Ok ⟨1, 0, 0, 0, (bits ++ List.replicate a2 false).take a2, []⟩) (hAns : IsAns ⟨1, a1, a2, a3, a4, a5⟩ (repBytes ⟨1, 0, 0, 0, (bits ++ List.replicate a2 false).take a2, []⟩) ∧ readAns ⟨1, a1, a2, a3, a4, a5⟩ (repBytes ⟨1, 0, 0, 0, (bits ++ List.replicate a2 false).take a2, []⟩) = ⟨1, 0, 0, 0, (bits ++ List.replicate a2 false).take a2, []⟩) (hlen : (repBytes ⟨1, 0, 0, 0, (bits ++ List.replicate a2 false).take a2, []⟩).length ≤ 900) (hot : oth < 256) (HX : oth = 1 ∨ (((oth : Int) == 1) = false ∧ ¬ IsAns ⟨oth, a1, a2, a3, a4, a5⟩ (repBytes ⟨1, 0, 0, 0, (bits ++ List.replicate a2 false).take a2, []⟩))) (l4 : (⟨1, 0, 0, 0, (bits ++ List.replicate a2 false).take a2, []⟩ : Rp).bits.length ≤ 1000000) (l5 : (⟨1, 0, 0, 0, (bits ++ List.replicate a2 false).take a2, []⟩ : Rp).regs.length ≤ 1000000) :
    Calls Try.prog 7 #[.agg #[.int .u8 1, .int .u16 a1, .int .u16 a2, .int .u16 a3, .slice ao na ac, .slice eo ne ec], .slice bo nb bc, .slice ro nr rc, .int .u8 0, .int .u8 oth] w fun e w' => e = .returned (.bool true) ∧ Below w.heap.size w w' := by
  have HA := hid_as ha
  have hd := decide_eq_true hl
  have h4 : decide ((2500 : Int) < (nb : Int)) = false := decide_eq_false (by omega)
  have h5 : decide ((200 : Int) < (nr : Int)) = false := decide_eq_false (by omega)
  have HL := hid_as hl
  have FA := hid_as fa
  have HNB := hid_as hh
  have HNR := hid_as hi
  clear ha hh hl hi fa
  have HBT := hid_as hbt
  have HNN := hid_as hnb
  clear hbt hnb
  have HRF := hid_as hRF
  have HROK := hid_as hRok
  have HANS := hid_as hAns
  have HLEN := hid_as hlen
  have HOT := hid_as hot
  have HXX := hid_as HX
  have HNA := hid_as hna
  have HNE := hid_as hne
  have HL4 := hid_as l4
  have HL5 := hid_as l5
  clear hRF hRok hAns hlen hot HX hna hne l4 l5
  go_enter Try.func7, Try.ntmps7
  go_wp2_with fail
  refine (known_law _).mono ?_
  rintro e w1 ⟨rfl, k1⟩
  obtain ⟨k1, B1, hs1⟩ := one_box k1
  have K1 : Hid (Below w.heap.size w w1) := k1
  have H1 := hid_as (HA.out.below k1)
  have B1 : Hid (Box w1 w.heap.size (.int .u8 1) (.int .u16 a1) (.int .u16 a2) (.int .u16 a3) (.slice ao na ac) (.slice eo ne ec)) := B1
  obtain ⟨c0, c1, c2, c3, c4, c5⟩ := B1.out
  clear k1
  go_wp2_with fail
  refine (light_c H1.out).mono ?_
  rintro e w2 ⟨rfl, k2⟩
  have K2 : Hid (Below w.heap.size w w2) := below_and K1.out k2
  rw [hd]
  have H2 := hid_as (HA.out.below K2.out)
  have hs2 : w.heap.size < w2.heap.size := Nat.lt_of_lt_of_le hs1 k2.size
  have B2 : Hid (Box w2 w.heap.size (.int .u8 1) (.int .u16 a1) (.int .u16 a2) (.int .u16 a3) (.slice ao na ac) (.slice eo ne ec)) := B1.out.below k2 hs1
  clear k2 c0 c1 c2 c3 c4 c5 B1 H1
  obtain ⟨c0, c1, c2, c3, c4, c5⟩ := B2.out
  have RR := hid_as (ref_request H2.out HL.out.1 HL.out.2)
  go_wp2_with fail
  refine RR.out.mono ?_
  rintro e w3 ⟨k3, ⟨_, y, rfl, _⟩ | ⟨hf, _⟩⟩
  case inr => exact absurd FA.out hf
  have K3 : Hid (Below w.heap.size w w3) := below_and K2.out k3
  have hs3 : w.heap.size < w3.heap.size := Nat.lt_of_lt_of_le hs2 k3.size
  have B3 : Hid (Box w3 w.heap.size (.int .u8 1) (.int .u16 a1) (.int .u16 a2) (.int .u16 a3) (.slice ao na ac) (.slice eo ne ec)) := B2.out.below k3 hs2
  clear k3 c0 c1 c2 c3 c4 c5 B2 H2 RR
  obtain ⟨c0, c1, c2, c3, c4, c5⟩ := B3.out
  go_upto_region 9 with fail
  have KY := hid_as (below_new K3.out (.cells #[.int .u8 1, .int .u8 0, .int .u16 0, .int .u16 0, .slice none 0 0, .slice none 0 0] 44))
  have KXY := hid_as (below_new (Below.refl _ w3) (.cells #[.int .u8 1, .int .u8 0, .int .u16 0, .int .u16 0, .slice none 0 0, .slice none 0 0] 44))
  have BY := (Box.mk c0 c1 c2 c3 c4 c5).grow (.cells #[.int .u8 1, .int .u8 0, .int .u16 0, .int .u16 0, .slice none 0 0, .slice none 0 0] 44)
  have RY := heap_alloc_new w3 (.cells #[.int .u8 1, .int .u8 0, .int .u16 0, .int .u16 0, .slice none 0 0, .slice none 0 0] 44)
  have hsY : w3.heap.size < (w3.alloc (.cells #[.int .u8 1, .int .u8 0, .int .u16 0, .int .u16 0, .slice none 0 0, .slice none 0 0] 44)).heap.size := by rw [World.size_alloc]; omega
  clear c0 c1 c2 c3 c4 c5
  generalize w3.alloc (.cells #[.int .u8 1, .int .u8 0, .int .u16 0, .int .u16 0, .slice none 0 0, .slice none 0 0] 44) = Y at KY KXY BY RY hsY ⊢
  obtain ⟨c0, c1, c2, c3, c4, c5⟩ := BY
  obtain ⟨⟨d0, d1, d2, d3, d4, d5⟩, hfz⟩ := block6 RY
  have f0 := hfz 0
  have f1 := hfz 1
  have f2 := hfz 2
  have f3 := hfz 3
  have f4 := hfz 4
  have f5 := hfz 5
  clear hfz
  have hsw : w.heap.size < Y.heap.size := Nat.lt_trans hs3 hsY
  have hneX : ¬ (w3.heap.size = w.heap.size) := by omega
  have HA2 : Hid (1 ≤ a2 ∧ a2 ≤ 2000) := by unfold Hid; have hf := FA.out; unfold Rq.Fits FitsN at hf; simp only at hf; omega
  have SB := hid_as (fun (W : World) (h : Below Y.heap.size Y W) => HBT.out.below (below_and KY.out h))
  have a2i : (0 : Int) ≤ (a2 : Int) := by omega
  have RYH := hid_as RY
  go_upto_region 13 with fail
  go_region_held3 (fun w' => w'.cell? ⟨w.heap.size, 2, none⟩ = some (.int .u16 a2)) (first | (simp [World.cell?_setCell_far, hneX, u2]; done) | (simp [World.cell?_setCell_far, hneX, s2]; done) | (simp [c2]; done)) (first | (refine step_app_sl rfl (.const (.slice none 0 0)) (.tmp 54) 23 4 (.bool false) 1 rfl Try.underlying23 Try.infoBool rfl (by decide) Y.heap.size (.slice none 0 0) (.slice bo nb bc) 0 [] (bls bits) rfl rfl (World.ownsRow_nil ..) (SB.out _ (Below.refl _ _).drew) (bls_one _) (by rw [bls_len]; have := HNN.out; have := HNB.out; have := HNR.out; omega) (Nat.le_refl _) ?_; intro v1 x1 own1 k1; have s2 := (Box.mk c0 c1 c2 c3 c4 c5).drew.below k1 hsw |>.c2; have OW1 := hid_as own1; have KK1 := hid_as k1; clear own1 k1) | (refine step_app_zeros rfl (.tmp 55) (.tmp 57) 23 22 4 (.bool false) 1 .u16 .u16 rfl Try.underlying23 Try.underlying22 Try.infoBool rfl rfl (by decide) Y.heap.size _ _ a2 _ rfl rfl OW1.out (by rw [bls_len]; have := HNN.out; have := HNB.out; have := HNR.out; have := HA2.out; omega) KK1.out.size ?_; intro v2 x2 own2 k2; have kk2 := KK1.out.trans k2; have u2 := (Box.mk c0 c1 c2 c3 c4 c5).drew.below kk2 hsw |>.c2; obtain ⟨g, vc, hv2, hvc, hgb, hlies⟩ := own_at own2 (by have := HA2.out; omega); subst hv2; have q1 : (a2 : Int) ≤ (vc : Int) := (by omega); have q2 : a2 ≤ vc := (by omega); have KK2 := hid_as ((Below.refl _ Y).drew.trans kk2); have LI := hid_as hlies; have HGB := hid_as hgb; have hb6 := block6 ((kk2.block _ hsY).trans RYH.out); obtain ⟨⟨j0, j1, j2, j3, j4, j5⟩, hjz⟩ := hb6; have i0 := hjz 0; have i1 := hjz 1; have i2 := hjz 2; have i3 := hjz 3; have i4 := hjz 4; have i5 := hjz 5; clear own2 k2 kk2 hlies hgb hjz hvc))
  obtain ⟨U, hU⟩ : ∃ U, U = x2.setCell ⟨w3.heap.size, 4, none⟩ (.slice (some ⟨g, 0, none⟩) a2 vc) := ⟨_, rfl⟩
  rw [← hU]
  have KKW : Hid (Below w3.heap.size w3 x2) := below_and KXY.out KK2.out
  have KU : Hid (Below w.heap.size w U) := by unfold Hid; rw [hU]; exact Below.setCell (below_and KY.out KK2.out) (Nat.le_of_lt hs3) _
  have KWU : Hid (Below w3.heap.size w3 U) := by unfold Hid; rw [hU]; exact Below.setCell KKW.out (Nat.le_refl _) _
  have RH : Hid (Box U w3.heap.size (.int .u8 1) (.int .u8 0) (.int .u16 0) (.int .u16 0) (.slice (some ⟨g, 0, none⟩) a2 vc) (.slice none 0 0)) := by
    unfold Hid
    rw [hU]
    exact ⟨(set_else j0 (by decide)), (set_else j1 (by decide)), (set_else j2 (by decide)), (set_else j3 (by decide)), (set_same j4), (set_else j5 (by decide))⟩
  have SU : Hid (Sl U (.slice (some ⟨g, 0, none⟩) a2 vc) (bls ((bits ++ List.replicate a2 false).take a2))) := by
    unfold Hid
    rw [hU]
    have h := sl_first (n := a2) (c := vc) (lies_far (g' := w3.heap.size) (o := 4) (u := .slice (some ⟨g, 0, none⟩) a2 vc) LI.out (by have := HGB.out; omega)) (by simp) q2
    rw [cut_bls] at h
    exact h
  clear hU c0 c1 c2 c3 c4 c5 d0 d1 d2 d3 d4 d5 f0 f1 f2 f3 f4 f5 j0 j1 j2 j3 j4 j5 i0 i1 i2 i3 i4 i5 s2 u2 KY KXY hsw RY RYH hsY KK1 KK2 KKW LI HGB OW1 SB
  have hsU : w.heap.size < U.heap.size := Nat.lt_of_lt_of_le hs3 KWU.out.size
  have BH := hid_as (B3.out.below KWU.out hs3)
  have IR : Hid (IsRp U (.agg #[.int .u8 1, .int .u8 0, .int .u16 0, .int .u16 0, .slice (some ⟨g, 0, none⟩) a2 vc, .slice none 0 0]) ⟨1, 0, 0, 0, (bits ++ List.replicate a2 false).take a2, []⟩) := ⟨HROK.out, _, _, rfl, SU.out, Sl.nil U⟩
  clear SU q1 q2
  obtain ⟨c0, c1, c2, c3, c4, c5⟩ := BH.out
  obtain ⟨d0, d1, d2, d3, d4, d5⟩ := RH.out
  have YR := hid_as (reply_yes IR.out HRF.out)
  go_wp2_with fail
  refine YR.out.mono ?_
  rintro e w4 ⟨v4, rfl, own4, k4⟩
  have HB4 : Hid (Bytes (repBytes ⟨1, 0, 0, 0, (bits ++ List.replicate a2 false).take a2, []⟩)) := repBytes_bytes HROK.out HRF.out
  have S4 := hid_as (own_sl own4)
  have K4 : Hid (Below w.heap.size w w4) := below_and KU.out k4
  have hs4 : w.heap.size < w4.heap.size := Nat.lt_of_lt_of_le hsU k4.size
  have hx3 : w3.heap.size < U.heap.size := lt_of_cell d0
  have hx4 : w3.heap.size < w4.heap.size := Nat.lt_of_lt_of_le hx3 k4.size
  have B4 := hid_as (BH.out.below k4 hsU)
  have R4 := hid_as (RH.out.below k4 hx3)
  have IR4 := hid_as (IR.out.below k4)
  have OA := hid_as (orep_c (HA.out.below K4.out) S4.out HB4.out (by have := HLEN.out; omega))
  clear k4 own4 c0 c1 c2 c3 c4 c5 d0 d1 d2 d3 d4 d5 YR BH RH IR
  obtain ⟨c0, c1, c2, c3, c4, c5⟩ := B4.out
  go_wp2_with fail
  refine OA.out.mono ?_
  rintro e w5 ⟨k5, ⟨_, v5, rfl, hv5⟩ | ⟨hno, _⟩⟩
  case inr => exact absurd HANS.out.1 hno
  rw [HANS.out.2] at hv5
  have I5 := hid_as hv5
  obtain ⟨go, gn, gc, ho, hn, hc, e5⟩ : ∃ go gn gc ho hn hc, v5 = .agg #[.int .u8 1, .int .u8 0, .int .u16 0, .int .u16 0, .slice go gn gc, .slice ho hn hc] := shape_rp' hv5
  subst e5
  have K5 : Hid (Below w.heap.size w w5) := below_and K4.out k5
  have hs5 : w.heap.size < w5.heap.size := Nat.lt_of_lt_of_le hs4 k5.size
  have hx5 : w3.heap.size < w5.heap.size := Nat.lt_of_lt_of_le hx4 k5.size
  have B5 := hid_as (B4.out.below k5 hs4)
  have R5 := hid_as (R4.out.below k5 hx4)
  have IR5 := hid_as (IR4.out.below k5)
  have S5 := hid_as (S4.out.below k5)
  clear hv5 k5 c0 c1 c2 c3 c4 c5 OA B4 R4 IR4 S4
  have d0 := fun (o : Obj) => (R5.out.grow o).c0
  have d1 := fun (o : Obj) => (R5.out.grow o).c1
  have d2 := fun (o : Obj) => (R5.out.grow o).c2
  have d3 := fun (o : Obj) => (R5.out.grow o).c3
  have d4 := fun (o : Obj) => (R5.out.grow o).c4
  have d5 := fun (o : Obj) => (R5.out.grow o).c5
  have XR := hid_as (fun (o : Obj) => hrep_c (I5.out.below (below_new (Below.refl _ w5) o)) (IR5.out.below (below_new (Below.refl _ w5) o)) HL4.out HL5.out)
  go_wp2_with fail
  refine (XR.out _).mono ?_
  rintro e w6 ⟨t, rfl, k6, ht⟩
  have ht : t = true := by simpa using ht
  subst ht
  have kk6 : Below w5.heap.size w5 w6 := below_and (below_new (Below.refl _ w5) _) k6
  have K6 : Hid (Below w.heap.size w w6) := below_and K5.out kk6
  have B6 := hid_as (B5.out.below kk6 hs5)
  have hs6 : w.heap.size < w6.heap.size := Nat.lt_of_lt_of_le hs5 kk6.size
  have S6 := hid_as (S5.out.below kk6)
  clear k6 kk6 d0 d1 d2 d3 d4 d5 XR B5 R5 IR5 S5 I5
  obtain ⟨c0, c1, c2, c3, c4, c5⟩ := B6.out
  have OB : Hid (∀ (W : World) (h : Below w6.heap.size w6 W), Calls Try.prog 21 #[.agg #[.int .u8 oth, .int .u16 a1, .int .u16 a2, .int .u16 a3, .slice ao na ac, .slice eo ne ec], v4] W fun e w' => Below w.heap.size w w' ∧ Below W.heap.size W w' ∧ ∃ (E q0 q1 q2 q3 : Int) (go : Option Addr) (gn gc : Nat) (ho : Option Addr) (hn hc : Nat), e = .returned (.tuple #[.agg #[.int .u8 q0, .int .u8 q1, .int .u16 q2, .int .u16 q3, .slice go gn gc, .slice ho hn hc], .int .i64 E]) ∧ (oth = 1 ∨ (((oth : Int) == 1) = false ∧ E = 30))) := by
    intro W h
    have hq : IsRq W (.agg #[.int .u8 oth, .int .u16 a1, .int .u16 a2, .int .u16 a3, .slice ao na ac, .slice eo ne ec]) ⟨oth, a1, a2, a3, a4, a5⟩ := by
      obtain ⟨ok, bv, rv, hv, s1, s2⟩ := HA.out.below (below_and K6.out h)
      unfold rqV at hv
      injection hv with hv
      simp only [Array.mk.injEq, List.cons.injEq, and_true] at hv
      obtain ⟨_, _, _, _, e1, e2⟩ := hv
      subst e1 e2
      exact ⟨⟨HOT.out, ok.addr, ok.n, ok.addr2, ok.regs⟩, _, _, rfl, s1, s2⟩
    refine (orep_c hq (S6.out.below h) HB4.out (by have := HLEN.out; omega)).mono ?_
    rintro e w7 ⟨k7, ⟨hi, v7, he, hv7⟩ | ⟨_, he⟩⟩
    · obtain ⟨go, gn, gc, ho, hn, hc, e7⟩ := shape_rp' hv7
      subst e7
      exact ⟨below_and K6.out (below_and h k7), k7, 0, _, _, _, _, _, _, _, _, _, _, he, HXX.out.elim Or.inl fun h => absurd hi h.2⟩
    · exact ⟨below_and K6.out (below_and h k7), k7, 30, _, _, _, _, _, _, _, _, _, _, he, HXX.out.elim Or.inl fun h => Or.inr ⟨h.1, rfl⟩⟩
  go_wp2_with fail
  (with_reducible refine (OB.out _ ?_).mono ?_)
  · exact below_new (Below.refl _ w6) _
  rintro e w7 ⟨K7, k7, E, q0, q1, q2, q3, go, gn, gc, ho, hn, hc, rfl, hE⟩
  have K7H := hid_as K7
  have B7 := (B6.out.grow (.cells #[.int .u8 oth, .int .u16 a1, .int .u16 a2, .int .u16 a3, .slice ao na ac, .slice eo ne ec] 26)).below k7 (by rw [World.size_alloc]; omega)
  clear K7 k7 c0 c1 c2 c3 c4 c5
  have c0 := fun (o : Obj) => (B7.grow o).c0
  rcases hE with h | ⟨hne, h⟩
  · subst h
    go_wp2
    go_ret
    exact ⟨rfl, below_new K7H.out _⟩
  · subst h
    go_wp2
    go_ret
    exact ⟨rfl, below_new K7H.out _⟩
set_option linter.unusedSimpArgs false in
set_option linter.unusedVariables false in
set_option maxRecDepth 100000 in
set_option maxHeartbeats 8000000 in
theorem match_2 (a1 a2 a3 na ac ne ec nb bc nr rc oth : Nat) (a4 : List Bool) (a5 : List Nat) (ao eo bo ro : Option Addr) (w : World) (ha : IsRq w (.agg #[.int .u8 2, .int .u16 a1, .int .u16 a2, .int .u16 a3, .slice ao na ac, .slice eo ne ec]) ⟨2, a1, a2, a3, a4, a5⟩) (hl : a4.length ≤ 2500 ∧ a5.length ≤ 200) (hh : nb ≤ 2500) (hi : nr ≤ 200) (fa : Rq.Fits ⟨2, a1, a2, a3, a4, a5⟩) (hna : na = a4.length) (hne : ne = a5.length) (bits : List Bool) (hbt : Sl w (.slice bo nb bc) (bls bits)) (hnb : nb = bits.length) (hRF : Rp.Fits ⟨2, 0, 0, 0, (bits ++ List.replicate a2 false).take a2, []⟩) (hRok : Rp.Ok ⟨2, 0, 0, 0, (bits ++ List.replicate a2 false).take a2, []⟩) (hAns : IsAns ⟨2, a1, a2, a3, a4, a5⟩ (repBytes ⟨2, 0, 0, 0, (bits ++ List.replicate a2 false).take a2, []⟩) ∧ readAns ⟨2, a1, a2, a3, a4, a5⟩ (repBytes ⟨2, 0, 0, 0, (bits ++ List.replicate a2 false).take a2, []⟩) = ⟨2, 0, 0, 0, (bits ++ List.replicate a2 false).take a2, []⟩) (hlen : (repBytes ⟨2, 0, 0, 0, (bits ++ List.replicate a2 false).take a2, []⟩).length ≤ 900) (hot : oth < 256) (HX : oth = 2 ∨ (((oth : Int) == 2) = false ∧ ¬ IsAns ⟨oth, a1, a2, a3, a4, a5⟩ (repBytes ⟨2, 0, 0, 0, (bits ++ List.replicate a2 false).take a2, []⟩))) (l4 : (⟨2, 0, 0, 0, (bits ++ List.replicate a2 false).take a2, []⟩ : Rp).bits.length ≤ 1000000) (l5 : (⟨2, 0, 0, 0, (bits ++ List.replicate a2 false).take a2, []⟩ : Rp).regs.length ≤ 1000000) :
    Calls Try.prog 7 #[.agg #[.int .u8 2, .int .u16 a1, .int .u16 a2, .int .u16 a3, .slice ao na ac, .slice eo ne ec], .slice bo nb bc, .slice ro nr rc, .int .u8 0, .int .u8 oth] w fun e w' => e = .returned (.bool true) ∧ Below w.heap.size w w' := by
  have HA := hid_as ha
  have hd := decide_eq_true hl
  have h4 : decide ((2500 : Int) < (nb : Int)) = false := decide_eq_false (by omega)
  have h5 : decide ((200 : Int) < (nr : Int)) = false := decide_eq_false (by omega)
  have HL := hid_as hl
  have FA := hid_as fa
  have HNB := hid_as hh
  have HNR := hid_as hi
  clear ha hh hl hi fa
  have HBT := hid_as hbt
  have HNN := hid_as hnb
  clear hbt hnb
  have HRF := hid_as hRF
  have HROK := hid_as hRok
  have HANS := hid_as hAns
  have HLEN := hid_as hlen
  have HOT := hid_as hot
  have HXX := hid_as HX
  have HNA := hid_as hna
  have HNE := hid_as hne
  have HL4 := hid_as l4
  have HL5 := hid_as l5
  clear hRF hRok hAns hlen hot HX hna hne l4 l5
  go_enter Try.func7, Try.ntmps7
  go_wp2_with fail
  refine (known_law _).mono ?_
  rintro e w1 ⟨rfl, k1⟩
  obtain ⟨k1, B1, hs1⟩ := one_box k1
  have K1 : Hid (Below w.heap.size w w1) := k1
  have H1 := hid_as (HA.out.below k1)
  have B1 : Hid (Box w1 w.heap.size (.int .u8 2) (.int .u16 a1) (.int .u16 a2) (.int .u16 a3) (.slice ao na ac) (.slice eo ne ec)) := B1
  obtain ⟨c0, c1, c2, c3, c4, c5⟩ := B1.out
  clear k1
  go_wp2_with fail
  refine (light_c H1.out).mono ?_
  rintro e w2 ⟨rfl, k2⟩
  have K2 : Hid (Below w.heap.size w w2) := below_and K1.out k2
  rw [hd]
  have H2 := hid_as (HA.out.below K2.out)
  have hs2 : w.heap.size < w2.heap.size := Nat.lt_of_lt_of_le hs1 k2.size
  have B2 : Hid (Box w2 w.heap.size (.int .u8 2) (.int .u16 a1) (.int .u16 a2) (.int .u16 a3) (.slice ao na ac) (.slice eo ne ec)) := B1.out.below k2 hs1
  clear k2 c0 c1 c2 c3 c4 c5 B1 H1
  obtain ⟨c0, c1, c2, c3, c4, c5⟩ := B2.out
  have RR := hid_as (ref_request H2.out HL.out.1 HL.out.2)
  go_wp2_with fail
  refine RR.out.mono ?_
  rintro e w3 ⟨k3, ⟨_, y, rfl, _⟩ | ⟨hf, _⟩⟩
  case inr => exact absurd FA.out hf
  have K3 : Hid (Below w.heap.size w w3) := below_and K2.out k3
  have hs3 : w.heap.size < w3.heap.size := Nat.lt_of_lt_of_le hs2 k3.size
  have B3 : Hid (Box w3 w.heap.size (.int .u8 2) (.int .u16 a1) (.int .u16 a2) (.int .u16 a3) (.slice ao na ac) (.slice eo ne ec)) := B2.out.below k3 hs2
  clear k3 c0 c1 c2 c3 c4 c5 B2 H2 RR
  obtain ⟨c0, c1, c2, c3, c4, c5⟩ := B3.out
  go_upto_region 9 with fail
  have KY := hid_as (below_new K3.out (.cells #[.int .u8 2, .int .u8 0, .int .u16 0, .int .u16 0, .slice none 0 0, .slice none 0 0] 44))
  have KXY := hid_as (below_new (Below.refl _ w3) (.cells #[.int .u8 2, .int .u8 0, .int .u16 0, .int .u16 0, .slice none 0 0, .slice none 0 0] 44))
  have BY := (Box.mk c0 c1 c2 c3 c4 c5).grow (.cells #[.int .u8 2, .int .u8 0, .int .u16 0, .int .u16 0, .slice none 0 0, .slice none 0 0] 44)
  have RY := heap_alloc_new w3 (.cells #[.int .u8 2, .int .u8 0, .int .u16 0, .int .u16 0, .slice none 0 0, .slice none 0 0] 44)
  have hsY : w3.heap.size < (w3.alloc (.cells #[.int .u8 2, .int .u8 0, .int .u16 0, .int .u16 0, .slice none 0 0, .slice none 0 0] 44)).heap.size := by rw [World.size_alloc]; omega
  clear c0 c1 c2 c3 c4 c5
  generalize w3.alloc (.cells #[.int .u8 2, .int .u8 0, .int .u16 0, .int .u16 0, .slice none 0 0, .slice none 0 0] 44) = Y at KY KXY BY RY hsY ⊢
  obtain ⟨c0, c1, c2, c3, c4, c5⟩ := BY
  obtain ⟨⟨d0, d1, d2, d3, d4, d5⟩, hfz⟩ := block6 RY
  have f0 := hfz 0
  have f1 := hfz 1
  have f2 := hfz 2
  have f3 := hfz 3
  have f4 := hfz 4
  have f5 := hfz 5
  clear hfz
  have hsw : w.heap.size < Y.heap.size := Nat.lt_trans hs3 hsY
  have hneX : ¬ (w3.heap.size = w.heap.size) := by omega
  have HA2 : Hid (1 ≤ a2 ∧ a2 ≤ 2000) := by unfold Hid; have hf := FA.out; unfold Rq.Fits FitsN at hf; simp only at hf; omega
  have SB := hid_as (fun (W : World) (h : Below Y.heap.size Y W) => HBT.out.below (below_and KY.out h))
  have a2i : (0 : Int) ≤ (a2 : Int) := by omega
  have RYH := hid_as RY
  go_upto_region 13 with fail
  go_region_held3 (fun w' => w'.cell? ⟨w.heap.size, 2, none⟩ = some (.int .u16 a2)) (first | (simp [World.cell?_setCell_far, hneX, u2]; done) | (simp [World.cell?_setCell_far, hneX, s2]; done) | (simp [c2]; done)) (first | (refine step_app_sl rfl (.const (.slice none 0 0)) (.tmp 54) 23 4 (.bool false) 1 rfl Try.underlying23 Try.infoBool rfl (by decide) Y.heap.size (.slice none 0 0) (.slice bo nb bc) 0 [] (bls bits) rfl rfl (World.ownsRow_nil ..) (SB.out _ (Below.refl _ _).drew) (bls_one _) (by rw [bls_len]; have := HNN.out; have := HNB.out; have := HNR.out; omega) (Nat.le_refl _) ?_; intro v1 x1 own1 k1; have s2 := (Box.mk c0 c1 c2 c3 c4 c5).drew.below k1 hsw |>.c2; have OW1 := hid_as own1; have KK1 := hid_as k1; clear own1 k1) | (refine step_app_zeros rfl (.tmp 55) (.tmp 57) 23 22 4 (.bool false) 1 .u16 .u16 rfl Try.underlying23 Try.underlying22 Try.infoBool rfl rfl (by decide) Y.heap.size _ _ a2 _ rfl rfl OW1.out (by rw [bls_len]; have := HNN.out; have := HNB.out; have := HNR.out; have := HA2.out; omega) KK1.out.size ?_; intro v2 x2 own2 k2; have kk2 := KK1.out.trans k2; have u2 := (Box.mk c0 c1 c2 c3 c4 c5).drew.below kk2 hsw |>.c2; obtain ⟨g, vc, hv2, hvc, hgb, hlies⟩ := own_at own2 (by have := HA2.out; omega); subst hv2; have q1 : (a2 : Int) ≤ (vc : Int) := (by omega); have q2 : a2 ≤ vc := (by omega); have KK2 := hid_as ((Below.refl _ Y).drew.trans kk2); have LI := hid_as hlies; have HGB := hid_as hgb; have hb6 := block6 ((kk2.block _ hsY).trans RYH.out); obtain ⟨⟨j0, j1, j2, j3, j4, j5⟩, hjz⟩ := hb6; have i0 := hjz 0; have i1 := hjz 1; have i2 := hjz 2; have i3 := hjz 3; have i4 := hjz 4; have i5 := hjz 5; clear own2 k2 kk2 hlies hgb hjz hvc))
  obtain ⟨U, hU⟩ : ∃ U, U = x2.setCell ⟨w3.heap.size, 4, none⟩ (.slice (some ⟨g, 0, none⟩) a2 vc) := ⟨_, rfl⟩
  rw [← hU]
  have KKW : Hid (Below w3.heap.size w3 x2) := below_and KXY.out KK2.out
  have KU : Hid (Below w.heap.size w U) := by unfold Hid; rw [hU]; exact Below.setCell (below_and KY.out KK2.out) (Nat.le_of_lt hs3) _
  have KWU : Hid (Below w3.heap.size w3 U) := by unfold Hid; rw [hU]; exact Below.setCell KKW.out (Nat.le_refl _) _
  have RH : Hid (Box U w3.heap.size (.int .u8 2) (.int .u8 0) (.int .u16 0) (.int .u16 0) (.slice (some ⟨g, 0, none⟩) a2 vc) (.slice none 0 0)) := by
    unfold Hid
    rw [hU]
    exact ⟨(set_else j0 (by decide)), (set_else j1 (by decide)), (set_else j2 (by decide)), (set_else j3 (by decide)), (set_same j4), (set_else j5 (by decide))⟩
  have SU : Hid (Sl U (.slice (some ⟨g, 0, none⟩) a2 vc) (bls ((bits ++ List.replicate a2 false).take a2))) := by
    unfold Hid
    rw [hU]
    have h := sl_first (n := a2) (c := vc) (lies_far (g' := w3.heap.size) (o := 4) (u := .slice (some ⟨g, 0, none⟩) a2 vc) LI.out (by have := HGB.out; omega)) (by simp) q2
    rw [cut_bls] at h
    exact h
  clear hU c0 c1 c2 c3 c4 c5 d0 d1 d2 d3 d4 d5 f0 f1 f2 f3 f4 f5 j0 j1 j2 j3 j4 j5 i0 i1 i2 i3 i4 i5 s2 u2 KY KXY hsw RY RYH hsY KK1 KK2 KKW LI HGB OW1 SB
  have hsU : w.heap.size < U.heap.size := Nat.lt_of_lt_of_le hs3 KWU.out.size
  have BH := hid_as (B3.out.below KWU.out hs3)
  have IR : Hid (IsRp U (.agg #[.int .u8 2, .int .u8 0, .int .u16 0, .int .u16 0, .slice (some ⟨g, 0, none⟩) a2 vc, .slice none 0 0]) ⟨2, 0, 0, 0, (bits ++ List.replicate a2 false).take a2, []⟩) := ⟨HROK.out, _, _, rfl, SU.out, Sl.nil U⟩
  clear SU q1 q2
  obtain ⟨c0, c1, c2, c3, c4, c5⟩ := BH.out
  obtain ⟨d0, d1, d2, d3, d4, d5⟩ := RH.out
  have YR := hid_as (reply_yes IR.out HRF.out)
  go_wp2_with fail
  refine YR.out.mono ?_
  rintro e w4 ⟨v4, rfl, own4, k4⟩
  have HB4 : Hid (Bytes (repBytes ⟨2, 0, 0, 0, (bits ++ List.replicate a2 false).take a2, []⟩)) := repBytes_bytes HROK.out HRF.out
  have S4 := hid_as (own_sl own4)
  have K4 : Hid (Below w.heap.size w w4) := below_and KU.out k4
  have hs4 : w.heap.size < w4.heap.size := Nat.lt_of_lt_of_le hsU k4.size
  have hx3 : w3.heap.size < U.heap.size := lt_of_cell d0
  have hx4 : w3.heap.size < w4.heap.size := Nat.lt_of_lt_of_le hx3 k4.size
  have B4 := hid_as (BH.out.below k4 hsU)
  have R4 := hid_as (RH.out.below k4 hx3)
  have IR4 := hid_as (IR.out.below k4)
  have OA := hid_as (orep_c (HA.out.below K4.out) S4.out HB4.out (by have := HLEN.out; omega))
  clear k4 own4 c0 c1 c2 c3 c4 c5 d0 d1 d2 d3 d4 d5 YR BH RH IR
  obtain ⟨c0, c1, c2, c3, c4, c5⟩ := B4.out
  go_wp2_with fail
  refine OA.out.mono ?_
  rintro e w5 ⟨k5, ⟨_, v5, rfl, hv5⟩ | ⟨hno, _⟩⟩
  case inr => exact absurd HANS.out.1 hno
  rw [HANS.out.2] at hv5
  have I5 := hid_as hv5
  obtain ⟨go, gn, gc, ho, hn, hc, e5⟩ : ∃ go gn gc ho hn hc, v5 = .agg #[.int .u8 2, .int .u8 0, .int .u16 0, .int .u16 0, .slice go gn gc, .slice ho hn hc] := shape_rp' hv5
  subst e5
  have K5 : Hid (Below w.heap.size w w5) := below_and K4.out k5
  have hs5 : w.heap.size < w5.heap.size := Nat.lt_of_lt_of_le hs4 k5.size
  have hx5 : w3.heap.size < w5.heap.size := Nat.lt_of_lt_of_le hx4 k5.size
  have B5 := hid_as (B4.out.below k5 hs4)
  have R5 := hid_as (R4.out.below k5 hx4)
  have IR5 := hid_as (IR4.out.below k5)
  have S5 := hid_as (S4.out.below k5)
  clear hv5 k5 c0 c1 c2 c3 c4 c5 OA B4 R4 IR4 S4
  have d0 := fun (o : Obj) => (R5.out.grow o).c0
  have d1 := fun (o : Obj) => (R5.out.grow o).c1
  have d2 := fun (o : Obj) => (R5.out.grow o).c2
  have d3 := fun (o : Obj) => (R5.out.grow o).c3
  have d4 := fun (o : Obj) => (R5.out.grow o).c4
  have d5 := fun (o : Obj) => (R5.out.grow o).c5
  have XR := hid_as (fun (o : Obj) => hrep_c (I5.out.below (below_new (Below.refl _ w5) o)) (IR5.out.below (below_new (Below.refl _ w5) o)) HL4.out HL5.out)
  go_wp2_with fail
  refine (XR.out _).mono ?_
  rintro e w6 ⟨t, rfl, k6, ht⟩
  have ht : t = true := by simpa using ht
  subst ht
  have kk6 : Below w5.heap.size w5 w6 := below_and (below_new (Below.refl _ w5) _) k6
  have K6 : Hid (Below w.heap.size w w6) := below_and K5.out kk6
  have B6 := hid_as (B5.out.below kk6 hs5)
  have hs6 : w.heap.size < w6.heap.size := Nat.lt_of_lt_of_le hs5 kk6.size
  have S6 := hid_as (S5.out.below kk6)
  clear k6 kk6 d0 d1 d2 d3 d4 d5 XR B5 R5 IR5 S5 I5
  obtain ⟨c0, c1, c2, c3, c4, c5⟩ := B6.out
  have OB : Hid (∀ (W : World) (h : Below w6.heap.size w6 W), Calls Try.prog 21 #[.agg #[.int .u8 oth, .int .u16 a1, .int .u16 a2, .int .u16 a3, .slice ao na ac, .slice eo ne ec], v4] W fun e w' => Below w.heap.size w w' ∧ Below W.heap.size W w' ∧ ∃ (E q0 q1 q2 q3 : Int) (go : Option Addr) (gn gc : Nat) (ho : Option Addr) (hn hc : Nat), e = .returned (.tuple #[.agg #[.int .u8 q0, .int .u8 q1, .int .u16 q2, .int .u16 q3, .slice go gn gc, .slice ho hn hc], .int .i64 E]) ∧ (oth = 2 ∨ (((oth : Int) == 2) = false ∧ E = 30))) := by
    intro W h
    have hq : IsRq W (.agg #[.int .u8 oth, .int .u16 a1, .int .u16 a2, .int .u16 a3, .slice ao na ac, .slice eo ne ec]) ⟨oth, a1, a2, a3, a4, a5⟩ := by
      obtain ⟨ok, bv, rv, hv, s1, s2⟩ := HA.out.below (below_and K6.out h)
      unfold rqV at hv
      injection hv with hv
      simp only [Array.mk.injEq, List.cons.injEq, and_true] at hv
      obtain ⟨_, _, _, _, e1, e2⟩ := hv
      subst e1 e2
      exact ⟨⟨HOT.out, ok.addr, ok.n, ok.addr2, ok.regs⟩, _, _, rfl, s1, s2⟩
    refine (orep_c hq (S6.out.below h) HB4.out (by have := HLEN.out; omega)).mono ?_
    rintro e w7 ⟨k7, ⟨hi, v7, he, hv7⟩ | ⟨_, he⟩⟩
    · obtain ⟨go, gn, gc, ho, hn, hc, e7⟩ := shape_rp' hv7
      subst e7
      exact ⟨below_and K6.out (below_and h k7), k7, 0, _, _, _, _, _, _, _, _, _, _, he, HXX.out.elim Or.inl fun h => absurd hi h.2⟩
    · exact ⟨below_and K6.out (below_and h k7), k7, 30, _, _, _, _, _, _, _, _, _, _, he, HXX.out.elim Or.inl fun h => Or.inr ⟨h.1, rfl⟩⟩
  go_wp2_with fail
  (with_reducible refine (OB.out _ ?_).mono ?_)
  · exact below_new (Below.refl _ w6) _
  rintro e w7 ⟨K7, k7, E, q0, q1, q2, q3, go, gn, gc, ho, hn, hc, rfl, hE⟩
  have K7H := hid_as K7
  have B7 := (B6.out.grow (.cells #[.int .u8 oth, .int .u16 a1, .int .u16 a2, .int .u16 a3, .slice ao na ac, .slice eo ne ec] 26)).below k7 (by rw [World.size_alloc]; omega)
  clear K7 k7 c0 c1 c2 c3 c4 c5
  have c0 := fun (o : Obj) => (B7.grow o).c0
  rcases hE with h | ⟨hne, h⟩
  · subst h
    go_wp2
    go_ret
    exact ⟨rfl, below_new K7H.out _⟩
  · subst h
    go_wp2
    go_ret
    exact ⟨rfl, below_new K7H.out _⟩
set_option linter.unusedSimpArgs false in
set_option linter.unusedVariables false in
set_option maxRecDepth 100000 in
set_option maxHeartbeats 8000000 in
theorem match_3 (a1 a2 a3 na ac ne ec nb bc nr rc oth : Nat) (a4 : List Bool) (a5 : List Nat) (ao eo bo ro : Option Addr) (w : World) (ha : IsRq w (.agg #[.int .u8 3, .int .u16 a1, .int .u16 a2, .int .u16 a3, .slice ao na ac, .slice eo ne ec]) ⟨3, a1, a2, a3, a4, a5⟩) (hl : a4.length ≤ 2500 ∧ a5.length ≤ 200) (hh : nb ≤ 2500) (hi : nr ≤ 200) (fa : Rq.Fits ⟨3, a1, a2, a3, a4, a5⟩) (hna : na = a4.length) (hne : ne = a5.length) (regs : List Nat) (hbt : Sl w (.slice ro nr rc) (u16s regs)) (hnb : nr = regs.length) (hRF : Rp.Fits ⟨3, 0, 0, 0, [], (regs ++ List.replicate a2 0).take a2⟩) (hRok : Rp.Ok ⟨3, 0, 0, 0, [], (regs ++ List.replicate a2 0).take a2⟩) (hAns : IsAns ⟨3, a1, a2, a3, a4, a5⟩ (repBytes ⟨3, 0, 0, 0, [], (regs ++ List.replicate a2 0).take a2⟩) ∧ readAns ⟨3, a1, a2, a3, a4, a5⟩ (repBytes ⟨3, 0, 0, 0, [], (regs ++ List.replicate a2 0).take a2⟩) = ⟨3, 0, 0, 0, [], (regs ++ List.replicate a2 0).take a2⟩) (hlen : (repBytes ⟨3, 0, 0, 0, [], (regs ++ List.replicate a2 0).take a2⟩).length ≤ 900) (hot : oth < 256) (HX : oth = 3 ∨ (((oth : Int) == 3) = false ∧ ¬ IsAns ⟨oth, a1, a2, a3, a4, a5⟩ (repBytes ⟨3, 0, 0, 0, [], (regs ++ List.replicate a2 0).take a2⟩))) (l4 : (⟨3, 0, 0, 0, [], (regs ++ List.replicate a2 0).take a2⟩ : Rp).bits.length ≤ 1000000) (l5 : (⟨3, 0, 0, 0, [], (regs ++ List.replicate a2 0).take a2⟩ : Rp).regs.length ≤ 1000000) :
    Calls Try.prog 7 #[.agg #[.int .u8 3, .int .u16 a1, .int .u16 a2, .int .u16 a3, .slice ao na ac, .slice eo ne ec], .slice bo nb bc, .slice ro nr rc, .int .u8 0, .int .u8 oth] w fun e w' => e = .returned (.bool true) ∧ Below w.heap.size w w' := by
  have HA := hid_as ha
  have hd := decide_eq_true hl
  have h4 : decide ((2500 : Int) < (nb : Int)) = false := decide_eq_false (by omega)
  have h5 : decide ((200 : Int) < (nr : Int)) = false := decide_eq_false (by omega)
  have HL := hid_as hl
  have FA := hid_as fa
  have HNB := hid_as hh
  have HNR := hid_as hi
  clear ha hh hl hi fa
  have HBT := hid_as hbt
  have HNN := hid_as hnb
  clear hbt hnb
  have HRF := hid_as hRF
  have HROK := hid_as hRok
  have HANS := hid_as hAns
  have HLEN := hid_as hlen
  have HOT := hid_as hot
  have HXX := hid_as HX
  have HNA := hid_as hna
  have HNE := hid_as hne
  have HL4 := hid_as l4
  have HL5 := hid_as l5
  clear hRF hRok hAns hlen hot HX hna hne l4 l5
  go_enter Try.func7, Try.ntmps7
  go_wp2_with fail
  refine (known_law _).mono ?_
  rintro e w1 ⟨rfl, k1⟩
  obtain ⟨k1, B1, hs1⟩ := one_box k1
  have K1 : Hid (Below w.heap.size w w1) := k1
  have H1 := hid_as (HA.out.below k1)
  have B1 : Hid (Box w1 w.heap.size (.int .u8 3) (.int .u16 a1) (.int .u16 a2) (.int .u16 a3) (.slice ao na ac) (.slice eo ne ec)) := B1
  obtain ⟨c0, c1, c2, c3, c4, c5⟩ := B1.out
  clear k1
  go_wp2_with fail
  refine (light_c H1.out).mono ?_
  rintro e w2 ⟨rfl, k2⟩
  have K2 : Hid (Below w.heap.size w w2) := below_and K1.out k2
  rw [hd]
  have H2 := hid_as (HA.out.below K2.out)
  have hs2 : w.heap.size < w2.heap.size := Nat.lt_of_lt_of_le hs1 k2.size
  have B2 : Hid (Box w2 w.heap.size (.int .u8 3) (.int .u16 a1) (.int .u16 a2) (.int .u16 a3) (.slice ao na ac) (.slice eo ne ec)) := B1.out.below k2 hs1
  clear k2 c0 c1 c2 c3 c4 c5 B1 H1
  obtain ⟨c0, c1, c2, c3, c4, c5⟩ := B2.out
  have RR := hid_as (ref_request H2.out HL.out.1 HL.out.2)
  go_wp2_with fail
  refine RR.out.mono ?_
  rintro e w3 ⟨k3, ⟨_, y, rfl, _⟩ | ⟨hf, _⟩⟩
  case inr => exact absurd FA.out hf
  have K3 : Hid (Below w.heap.size w w3) := below_and K2.out k3
  have hs3 : w.heap.size < w3.heap.size := Nat.lt_of_lt_of_le hs2 k3.size
  have B3 : Hid (Box w3 w.heap.size (.int .u8 3) (.int .u16 a1) (.int .u16 a2) (.int .u16 a3) (.slice ao na ac) (.slice eo ne ec)) := B2.out.below k3 hs2
  clear k3 c0 c1 c2 c3 c4 c5 B2 H2 RR
  obtain ⟨c0, c1, c2, c3, c4, c5⟩ := B3.out
  go_upto_region 9 with fail
  have KY := hid_as (below_new K3.out (.cells #[.int .u8 3, .int .u8 0, .int .u16 0, .int .u16 0, .slice none 0 0, .slice none 0 0] 44))
  have KXY := hid_as (below_new (Below.refl _ w3) (.cells #[.int .u8 3, .int .u8 0, .int .u16 0, .int .u16 0, .slice none 0 0, .slice none 0 0] 44))
  have BY := (Box.mk c0 c1 c2 c3 c4 c5).grow (.cells #[.int .u8 3, .int .u8 0, .int .u16 0, .int .u16 0, .slice none 0 0, .slice none 0 0] 44)
  have RY := heap_alloc_new w3 (.cells #[.int .u8 3, .int .u8 0, .int .u16 0, .int .u16 0, .slice none 0 0, .slice none 0 0] 44)
  have hsY : w3.heap.size < (w3.alloc (.cells #[.int .u8 3, .int .u8 0, .int .u16 0, .int .u16 0, .slice none 0 0, .slice none 0 0] 44)).heap.size := by rw [World.size_alloc]; omega
  clear c0 c1 c2 c3 c4 c5
  generalize w3.alloc (.cells #[.int .u8 3, .int .u8 0, .int .u16 0, .int .u16 0, .slice none 0 0, .slice none 0 0] 44) = Y at KY KXY BY RY hsY ⊢
  obtain ⟨c0, c1, c2, c3, c4, c5⟩ := BY
  obtain ⟨⟨d0, d1, d2, d3, d4, d5⟩, hfz⟩ := block6 RY
  have f0 := hfz 0
  have f1 := hfz 1
  have f2 := hfz 2
  have f3 := hfz 3
  have f4 := hfz 4
  have f5 := hfz 5
  clear hfz
  have hsw : w.heap.size < Y.heap.size := Nat.lt_trans hs3 hsY
  have hneX : ¬ (w3.heap.size = w.heap.size) := by omega
  have HA2 : Hid (1 ≤ a2 ∧ a2 ≤ 2000) := by unfold Hid; have hf := FA.out; unfold Rq.Fits FitsN at hf; simp only at hf; omega
  have SB := hid_as (fun (W : World) (h : Below Y.heap.size Y W) => HBT.out.below (below_and KY.out h))
  have a2i : (0 : Int) ≤ (a2 : Int) := by omega
  have RYH := hid_as RY
  go_upto_region 17 with fail
  go_region_held3 (fun w' => w'.cell? ⟨w.heap.size, 2, none⟩ = some (.int .u16 a2)) (first | (simp [World.cell?_setCell_far, hneX, u2]; done) | (simp [World.cell?_setCell_far, hneX, s2]; done) | (simp [c2]; done)) (first | (refine step_app_sl rfl (.const (.slice none 0 0)) (.tmp 67) 24 22 (.int .u16 0) 2 rfl Try.underlying24 Try.infoWord rfl (by decide) Y.heap.size (.slice none 0 0) (.slice ro nr rc) 0 [] (u16s regs) rfl rfl (World.ownsRow_nil ..) (SB.out _ (Below.refl _ _).drew) (u16s_one _) (by rw [u16s_len]; have := HNN.out; have := HNB.out; have := HNR.out; omega) (Nat.le_refl _) ?_; intro v1 x1 own1 k1; have s2 := (Box.mk c0 c1 c2 c3 c4 c5).drew.below k1 hsw |>.c2; have OW1 := hid_as own1; have KK1 := hid_as k1; clear own1 k1) | (refine step_app_zeros rfl (.tmp 68) (.tmp 70) 24 22 22 (.int .u16 0) 2 .u16 .u16 rfl Try.underlying24 Try.underlying22 Try.infoWord rfl rfl (by decide) Y.heap.size _ _ a2 _ rfl rfl OW1.out (by rw [u16s_len]; have := HNN.out; have := HNB.out; have := HNR.out; have := HA2.out; omega) KK1.out.size ?_; intro v2 x2 own2 k2; have kk2 := KK1.out.trans k2; have u2 := (Box.mk c0 c1 c2 c3 c4 c5).drew.below kk2 hsw |>.c2; obtain ⟨g, vc, hv2, hvc, hgb, hlies⟩ := own_at own2 (by have := HA2.out; omega); subst hv2; have q1 : (a2 : Int) ≤ (vc : Int) := (by omega); have q2 : a2 ≤ vc := (by omega); have KK2 := hid_as ((Below.refl _ Y).drew.trans kk2); have LI := hid_as hlies; have HGB := hid_as hgb; have hb6 := block6 ((kk2.block _ hsY).trans RYH.out); obtain ⟨⟨j0, j1, j2, j3, j4, j5⟩, hjz⟩ := hb6; have i0 := hjz 0; have i1 := hjz 1; have i2 := hjz 2; have i3 := hjz 3; have i4 := hjz 4; have i5 := hjz 5; clear own2 k2 kk2 hlies hgb hjz hvc))
  obtain ⟨U, hU⟩ : ∃ U, U = x2.setCell ⟨w3.heap.size, 5, none⟩ (.slice (some ⟨g, 0, none⟩) a2 vc) := ⟨_, rfl⟩
  rw [← hU]
  have KKW : Hid (Below w3.heap.size w3 x2) := below_and KXY.out KK2.out
  have KU : Hid (Below w.heap.size w U) := by unfold Hid; rw [hU]; exact Below.setCell (below_and KY.out KK2.out) (Nat.le_of_lt hs3) _
  have KWU : Hid (Below w3.heap.size w3 U) := by unfold Hid; rw [hU]; exact Below.setCell KKW.out (Nat.le_refl _) _
  have RH : Hid (Box U w3.heap.size (.int .u8 3) (.int .u8 0) (.int .u16 0) (.int .u16 0) (.slice none 0 0) (.slice (some ⟨g, 0, none⟩) a2 vc)) := by
    unfold Hid
    rw [hU]
    exact ⟨(set_else j0 (by decide)), (set_else j1 (by decide)), (set_else j2 (by decide)), (set_else j3 (by decide)), (set_else j4 (by decide)), (set_same j5)⟩
  have SU : Hid (Sl U (.slice (some ⟨g, 0, none⟩) a2 vc) (u16s ((regs ++ List.replicate a2 0).take a2))) := by
    unfold Hid
    rw [hU]
    have h := sl_first (n := a2) (c := vc) (lies_far (g' := w3.heap.size) (o := 5) (u := .slice (some ⟨g, 0, none⟩) a2 vc) LI.out (by have := HGB.out; omega)) (by simp) q2
    rw [cut_u16s] at h
    exact h
  clear hU c0 c1 c2 c3 c4 c5 d0 d1 d2 d3 d4 d5 f0 f1 f2 f3 f4 f5 j0 j1 j2 j3 j4 j5 i0 i1 i2 i3 i4 i5 s2 u2 KY KXY hsw RY RYH hsY KK1 KK2 KKW LI HGB OW1 SB
  have hsU : w.heap.size < U.heap.size := Nat.lt_of_lt_of_le hs3 KWU.out.size
  have BH := hid_as (B3.out.below KWU.out hs3)
  have IR : Hid (IsRp U (.agg #[.int .u8 3, .int .u8 0, .int .u16 0, .int .u16 0, .slice none 0 0, .slice (some ⟨g, 0, none⟩) a2 vc]) ⟨3, 0, 0, 0, [], (regs ++ List.replicate a2 0).take a2⟩) := ⟨HROK.out, _, _, rfl, Sl.nil U, SU.out⟩
  clear SU q1 q2
  obtain ⟨c0, c1, c2, c3, c4, c5⟩ := BH.out
  obtain ⟨d0, d1, d2, d3, d4, d5⟩ := RH.out
  have YR := hid_as (reply_yes IR.out HRF.out)
  go_wp2_with fail
  refine YR.out.mono ?_
  rintro e w4 ⟨v4, rfl, own4, k4⟩
  have HB4 : Hid (Bytes (repBytes ⟨3, 0, 0, 0, [], (regs ++ List.replicate a2 0).take a2⟩)) := repBytes_bytes HROK.out HRF.out
  have S4 := hid_as (own_sl own4)
  have K4 : Hid (Below w.heap.size w w4) := below_and KU.out k4
  have hs4 : w.heap.size < w4.heap.size := Nat.lt_of_lt_of_le hsU k4.size
  have hx3 : w3.heap.size < U.heap.size := lt_of_cell d0
  have hx4 : w3.heap.size < w4.heap.size := Nat.lt_of_lt_of_le hx3 k4.size
  have B4 := hid_as (BH.out.below k4 hsU)
  have R4 := hid_as (RH.out.below k4 hx3)
  have IR4 := hid_as (IR.out.below k4)
  have OA := hid_as (orep_c (HA.out.below K4.out) S4.out HB4.out (by have := HLEN.out; omega))
  clear k4 own4 c0 c1 c2 c3 c4 c5 d0 d1 d2 d3 d4 d5 YR BH RH IR
  obtain ⟨c0, c1, c2, c3, c4, c5⟩ := B4.out
  go_wp2_with fail
  refine OA.out.mono ?_
  rintro e w5 ⟨k5, ⟨_, v5, rfl, hv5⟩ | ⟨hno, _⟩⟩
  case inr => exact absurd HANS.out.1 hno
  rw [HANS.out.2] at hv5
  have I5 := hid_as hv5
  obtain ⟨go, gn, gc, ho, hn, hc, e5⟩ : ∃ go gn gc ho hn hc, v5 = .agg #[.int .u8 3, .int .u8 0, .int .u16 0, .int .u16 0, .slice go gn gc, .slice ho hn hc] := shape_rp' hv5
  subst e5
  have K5 : Hid (Below w.heap.size w w5) := below_and K4.out k5
  have hs5 : w.heap.size < w5.heap.size := Nat.lt_of_lt_of_le hs4 k5.size
  have hx5 : w3.heap.size < w5.heap.size := Nat.lt_of_lt_of_le hx4 k5.size
  have B5 := hid_as (B4.out.below k5 hs4)
  have R5 := hid_as (R4.out.below k5 hx4)
  have IR5 := hid_as (IR4.out.below k5)
  have S5 := hid_as (S4.out.below k5)
  clear hv5 k5 c0 c1 c2 c3 c4 c5 OA B4 R4 IR4 S4
  have d0 := fun (o : Obj) => (R5.out.grow o).c0
  have d1 := fun (o : Obj) => (R5.out.grow o).c1
  have d2 := fun (o : Obj) => (R5.out.grow o).c2
  have d3 := fun (o : Obj) => (R5.out.grow o).c3
  have d4 := fun (o : Obj) => (R5.out.grow o).c4
  have d5 := fun (o : Obj) => (R5.out.grow o).c5
  have XR := hid_as (fun (o : Obj) => hrep_c (I5.out.below (below_new (Below.refl _ w5) o)) (IR5.out.below (below_new (Below.refl _ w5) o)) HL4.out HL5.out)
  go_wp2_with fail
  refine (XR.out _).mono ?_
  rintro e w6 ⟨t, rfl, k6, ht⟩
  have ht : t = true := by simpa using ht
  subst ht
  have kk6 : Below w5.heap.size w5 w6 := below_and (below_new (Below.refl _ w5) _) k6
  have K6 : Hid (Below w.heap.size w w6) := below_and K5.out kk6
  have B6 := hid_as (B5.out.below kk6 hs5)
  have hs6 : w.heap.size < w6.heap.size := Nat.lt_of_lt_of_le hs5 kk6.size
  have S6 := hid_as (S5.out.below kk6)
  clear k6 kk6 d0 d1 d2 d3 d4 d5 XR B5 R5 IR5 S5 I5
  obtain ⟨c0, c1, c2, c3, c4, c5⟩ := B6.out
  have OB : Hid (∀ (W : World) (h : Below w6.heap.size w6 W), Calls Try.prog 21 #[.agg #[.int .u8 oth, .int .u16 a1, .int .u16 a2, .int .u16 a3, .slice ao na ac, .slice eo ne ec], v4] W fun e w' => Below w.heap.size w w' ∧ Below W.heap.size W w' ∧ ∃ (E q0 q1 q2 q3 : Int) (go : Option Addr) (gn gc : Nat) (ho : Option Addr) (hn hc : Nat), e = .returned (.tuple #[.agg #[.int .u8 q0, .int .u8 q1, .int .u16 q2, .int .u16 q3, .slice go gn gc, .slice ho hn hc], .int .i64 E]) ∧ (oth = 3 ∨ (((oth : Int) == 3) = false ∧ E = 30))) := by
    intro W h
    have hq : IsRq W (.agg #[.int .u8 oth, .int .u16 a1, .int .u16 a2, .int .u16 a3, .slice ao na ac, .slice eo ne ec]) ⟨oth, a1, a2, a3, a4, a5⟩ := by
      obtain ⟨ok, bv, rv, hv, s1, s2⟩ := HA.out.below (below_and K6.out h)
      unfold rqV at hv
      injection hv with hv
      simp only [Array.mk.injEq, List.cons.injEq, and_true] at hv
      obtain ⟨_, _, _, _, e1, e2⟩ := hv
      subst e1 e2
      exact ⟨⟨HOT.out, ok.addr, ok.n, ok.addr2, ok.regs⟩, _, _, rfl, s1, s2⟩
    refine (orep_c hq (S6.out.below h) HB4.out (by have := HLEN.out; omega)).mono ?_
    rintro e w7 ⟨k7, ⟨hi, v7, he, hv7⟩ | ⟨_, he⟩⟩
    · obtain ⟨go, gn, gc, ho, hn, hc, e7⟩ := shape_rp' hv7
      subst e7
      exact ⟨below_and K6.out (below_and h k7), k7, 0, _, _, _, _, _, _, _, _, _, _, he, HXX.out.elim Or.inl fun h => absurd hi h.2⟩
    · exact ⟨below_and K6.out (below_and h k7), k7, 30, _, _, _, _, _, _, _, _, _, _, he, HXX.out.elim Or.inl fun h => Or.inr ⟨h.1, rfl⟩⟩
  go_wp2_with fail
  (with_reducible refine (OB.out _ ?_).mono ?_)
  · exact below_new (Below.refl _ w6) _
  rintro e w7 ⟨K7, k7, E, q0, q1, q2, q3, go, gn, gc, ho, hn, hc, rfl, hE⟩
  have K7H := hid_as K7
  have B7 := (B6.out.grow (.cells #[.int .u8 oth, .int .u16 a1, .int .u16 a2, .int .u16 a3, .slice ao na ac, .slice eo ne ec] 26)).below k7 (by rw [World.size_alloc]; omega)
  clear K7 k7 c0 c1 c2 c3 c4 c5
  have c0 := fun (o : Obj) => (B7.grow o).c0
  rcases hE with h | ⟨hne, h⟩
  · subst h
    go_wp2
    go_ret
    exact ⟨rfl, below_new K7H.out _⟩
  · subst h
    go_wp2
    go_ret
    exact ⟨rfl, below_new K7H.out _⟩
set_option linter.unusedSimpArgs false in
set_option linter.unusedVariables false in
set_option maxRecDepth 100000 in
set_option maxHeartbeats 8000000 in
theorem match_4 (a1 a2 a3 na ac ne ec nb bc nr rc oth : Nat) (a4 : List Bool) (a5 : List Nat) (ao eo bo ro : Option Addr) (w : World) (ha : IsRq w (.agg #[.int .u8 4, .int .u16 a1, .int .u16 a2, .int .u16 a3, .slice ao na ac, .slice eo ne ec]) ⟨4, a1, a2, a3, a4, a5⟩) (hl : a4.length ≤ 2500 ∧ a5.length ≤ 200) (hh : nb ≤ 2500) (hi : nr ≤ 200) (fa : Rq.Fits ⟨4, a1, a2, a3, a4, a5⟩) (hna : na = a4.length) (hne : ne = a5.length) (regs : List Nat) (hbt : Sl w (.slice ro nr rc) (u16s regs)) (hnb : nr = regs.length) (hRF : Rp.Fits ⟨4, 0, 0, 0, [], (regs ++ List.replicate a2 0).take a2⟩) (hRok : Rp.Ok ⟨4, 0, 0, 0, [], (regs ++ List.replicate a2 0).take a2⟩) (hAns : IsAns ⟨4, a1, a2, a3, a4, a5⟩ (repBytes ⟨4, 0, 0, 0, [], (regs ++ List.replicate a2 0).take a2⟩) ∧ readAns ⟨4, a1, a2, a3, a4, a5⟩ (repBytes ⟨4, 0, 0, 0, [], (regs ++ List.replicate a2 0).take a2⟩) = ⟨4, 0, 0, 0, [], (regs ++ List.replicate a2 0).take a2⟩) (hlen : (repBytes ⟨4, 0, 0, 0, [], (regs ++ List.replicate a2 0).take a2⟩).length ≤ 900) (hot : oth < 256) (HX : oth = 4 ∨ (((oth : Int) == 4) = false ∧ ¬ IsAns ⟨oth, a1, a2, a3, a4, a5⟩ (repBytes ⟨4, 0, 0, 0, [], (regs ++ List.replicate a2 0).take a2⟩))) (l4 : (⟨4, 0, 0, 0, [], (regs ++ List.replicate a2 0).take a2⟩ : Rp).bits.length ≤ 1000000) (l5 : (⟨4, 0, 0, 0, [], (regs ++ List.replicate a2 0).take a2⟩ : Rp).regs.length ≤ 1000000) :
    Calls Try.prog 7 #[.agg #[.int .u8 4, .int .u16 a1, .int .u16 a2, .int .u16 a3, .slice ao na ac, .slice eo ne ec], .slice bo nb bc, .slice ro nr rc, .int .u8 0, .int .u8 oth] w fun e w' => e = .returned (.bool true) ∧ Below w.heap.size w w' := by
  have HA := hid_as ha
  have hd := decide_eq_true hl
  have h4 : decide ((2500 : Int) < (nb : Int)) = false := decide_eq_false (by omega)
  have h5 : decide ((200 : Int) < (nr : Int)) = false := decide_eq_false (by omega)
  have HL := hid_as hl
  have FA := hid_as fa
  have HNB := hid_as hh
  have HNR := hid_as hi
  clear ha hh hl hi fa
  have HBT := hid_as hbt
  have HNN := hid_as hnb
  clear hbt hnb
  have HRF := hid_as hRF
  have HROK := hid_as hRok
  have HANS := hid_as hAns
  have HLEN := hid_as hlen
  have HOT := hid_as hot
  have HXX := hid_as HX
  have HNA := hid_as hna
  have HNE := hid_as hne
  have HL4 := hid_as l4
  have HL5 := hid_as l5
  clear hRF hRok hAns hlen hot HX hna hne l4 l5
  go_enter Try.func7, Try.ntmps7
  go_wp2_with fail
  refine (known_law _).mono ?_
  rintro e w1 ⟨rfl, k1⟩
  obtain ⟨k1, B1, hs1⟩ := one_box k1
  have K1 : Hid (Below w.heap.size w w1) := k1
  have H1 := hid_as (HA.out.below k1)
  have B1 : Hid (Box w1 w.heap.size (.int .u8 4) (.int .u16 a1) (.int .u16 a2) (.int .u16 a3) (.slice ao na ac) (.slice eo ne ec)) := B1
  obtain ⟨c0, c1, c2, c3, c4, c5⟩ := B1.out
  clear k1
  go_wp2_with fail
  refine (light_c H1.out).mono ?_
  rintro e w2 ⟨rfl, k2⟩
  have K2 : Hid (Below w.heap.size w w2) := below_and K1.out k2
  rw [hd]
  have H2 := hid_as (HA.out.below K2.out)
  have hs2 : w.heap.size < w2.heap.size := Nat.lt_of_lt_of_le hs1 k2.size
  have B2 : Hid (Box w2 w.heap.size (.int .u8 4) (.int .u16 a1) (.int .u16 a2) (.int .u16 a3) (.slice ao na ac) (.slice eo ne ec)) := B1.out.below k2 hs1
  clear k2 c0 c1 c2 c3 c4 c5 B1 H1
  obtain ⟨c0, c1, c2, c3, c4, c5⟩ := B2.out
  have RR := hid_as (ref_request H2.out HL.out.1 HL.out.2)
  go_wp2_with fail
  refine RR.out.mono ?_
  rintro e w3 ⟨k3, ⟨_, y, rfl, _⟩ | ⟨hf, _⟩⟩
  case inr => exact absurd FA.out hf
  have K3 : Hid (Below w.heap.size w w3) := below_and K2.out k3
  have hs3 : w.heap.size < w3.heap.size := Nat.lt_of_lt_of_le hs2 k3.size
  have B3 : Hid (Box w3 w.heap.size (.int .u8 4) (.int .u16 a1) (.int .u16 a2) (.int .u16 a3) (.slice ao na ac) (.slice eo ne ec)) := B2.out.below k3 hs2
  clear k3 c0 c1 c2 c3 c4 c5 B2 H2 RR
  obtain ⟨c0, c1, c2, c3, c4, c5⟩ := B3.out
  go_upto_region 9 with fail
  have KY := hid_as (below_new K3.out (.cells #[.int .u8 4, .int .u8 0, .int .u16 0, .int .u16 0, .slice none 0 0, .slice none 0 0] 44))
  have KXY := hid_as (below_new (Below.refl _ w3) (.cells #[.int .u8 4, .int .u8 0, .int .u16 0, .int .u16 0, .slice none 0 0, .slice none 0 0] 44))
  have BY := (Box.mk c0 c1 c2 c3 c4 c5).grow (.cells #[.int .u8 4, .int .u8 0, .int .u16 0, .int .u16 0, .slice none 0 0, .slice none 0 0] 44)
  have RY := heap_alloc_new w3 (.cells #[.int .u8 4, .int .u8 0, .int .u16 0, .int .u16 0, .slice none 0 0, .slice none 0 0] 44)
  have hsY : w3.heap.size < (w3.alloc (.cells #[.int .u8 4, .int .u8 0, .int .u16 0, .int .u16 0, .slice none 0 0, .slice none 0 0] 44)).heap.size := by rw [World.size_alloc]; omega
  clear c0 c1 c2 c3 c4 c5
  generalize w3.alloc (.cells #[.int .u8 4, .int .u8 0, .int .u16 0, .int .u16 0, .slice none 0 0, .slice none 0 0] 44) = Y at KY KXY BY RY hsY ⊢
  obtain ⟨c0, c1, c2, c3, c4, c5⟩ := BY
  obtain ⟨⟨d0, d1, d2, d3, d4, d5⟩, hfz⟩ := block6 RY
  have f0 := hfz 0
  have f1 := hfz 1
  have f2 := hfz 2
  have f3 := hfz 3
  have f4 := hfz 4
  have f5 := hfz 5
  clear hfz
  have hsw : w.heap.size < Y.heap.size := Nat.lt_trans hs3 hsY
  have hneX : ¬ (w3.heap.size = w.heap.size) := by omega
  have HA2 : Hid (1 ≤ a2 ∧ a2 ≤ 2000) := by unfold Hid; have hf := FA.out; unfold Rq.Fits FitsN at hf; simp only at hf; omega
  have SB := hid_as (fun (W : World) (h : Below Y.heap.size Y W) => HBT.out.below (below_and KY.out h))
  have a2i : (0 : Int) ≤ (a2 : Int) := by omega
  have RYH := hid_as RY
  go_upto_region 17 with fail
  go_region_held3 (fun w' => w'.cell? ⟨w.heap.size, 2, none⟩ = some (.int .u16 a2)) (first | (simp [World.cell?_setCell_far, hneX, u2]; done) | (simp [World.cell?_setCell_far, hneX, s2]; done) | (simp [c2]; done)) (first | (refine step_app_sl rfl (.const (.slice none 0 0)) (.tmp 67) 24 22 (.int .u16 0) 2 rfl Try.underlying24 Try.infoWord rfl (by decide) Y.heap.size (.slice none 0 0) (.slice ro nr rc) 0 [] (u16s regs) rfl rfl (World.ownsRow_nil ..) (SB.out _ (Below.refl _ _).drew) (u16s_one _) (by rw [u16s_len]; have := HNN.out; have := HNB.out; have := HNR.out; omega) (Nat.le_refl _) ?_; intro v1 x1 own1 k1; have s2 := (Box.mk c0 c1 c2 c3 c4 c5).drew.below k1 hsw |>.c2; have OW1 := hid_as own1; have KK1 := hid_as k1; clear own1 k1) | (refine step_app_zeros rfl (.tmp 68) (.tmp 70) 24 22 22 (.int .u16 0) 2 .u16 .u16 rfl Try.underlying24 Try.underlying22 Try.infoWord rfl rfl (by decide) Y.heap.size _ _ a2 _ rfl rfl OW1.out (by rw [u16s_len]; have := HNN.out; have := HNB.out; have := HNR.out; have := HA2.out; omega) KK1.out.size ?_; intro v2 x2 own2 k2; have kk2 := KK1.out.trans k2; have u2 := (Box.mk c0 c1 c2 c3 c4 c5).drew.below kk2 hsw |>.c2; obtain ⟨g, vc, hv2, hvc, hgb, hlies⟩ := own_at own2 (by have := HA2.out; omega); subst hv2; have q1 : (a2 : Int) ≤ (vc : Int) := (by omega); have q2 : a2 ≤ vc := (by omega); have KK2 := hid_as ((Below.refl _ Y).drew.trans kk2); have LI := hid_as hlies; have HGB := hid_as hgb; have hb6 := block6 ((kk2.block _ hsY).trans RYH.out); obtain ⟨⟨j0, j1, j2, j3, j4, j5⟩, hjz⟩ := hb6; have i0 := hjz 0; have i1 := hjz 1; have i2 := hjz 2; have i3 := hjz 3; have i4 := hjz 4; have i5 := hjz 5; clear own2 k2 kk2 hlies hgb hjz hvc))
  obtain ⟨U, hU⟩ : ∃ U, U = x2.setCell ⟨w3.heap.size, 5, none⟩ (.slice (some ⟨g, 0, none⟩) a2 vc) := ⟨_, rfl⟩
  rw [← hU]
  have KKW : Hid (Below w3.heap.size w3 x2) := below_and KXY.out KK2.out
  have KU : Hid (Below w.heap.size w U) := by unfold Hid; rw [hU]; exact Below.setCell (below_and KY.out KK2.out) (Nat.le_of_lt hs3) _
  have KWU : Hid (Below w3.heap.size w3 U) := by unfold Hid; rw [hU]; exact Below.setCell KKW.out (Nat.le_refl _) _
  have RH : Hid (Box U w3.heap.size (.int .u8 4) (.int .u8 0) (.int .u16 0) (.int .u16 0) (.slice none 0 0) (.slice (some ⟨g, 0, none⟩) a2 vc)) := by
    unfold Hid
    rw [hU]
    exact ⟨(set_else j0 (by decide)), (set_else j1 (by decide)), (set_else j2 (by decide)), (set_else j3 (by decide)), (set_else j4 (by decide)), (set_same j5)⟩
  have SU : Hid (Sl U (.slice (some ⟨g, 0, none⟩) a2 vc) (u16s ((regs ++ List.replicate a2 0).take a2))) := by
    unfold Hid
    rw [hU]
    have h := sl_first (n := a2) (c := vc) (lies_far (g' := w3.heap.size) (o := 5) (u := .slice (some ⟨g, 0, none⟩) a2 vc) LI.out (by have := HGB.out; omega)) (by simp) q2
    rw [cut_u16s] at h
    exact h
  clear hU c0 c1 c2 c3 c4 c5 d0 d1 d2 d3 d4 d5 f0 f1 f2 f3 f4 f5 j0 j1 j2 j3 j4 j5 i0 i1 i2 i3 i4 i5 s2 u2 KY KXY hsw RY RYH hsY KK1 KK2 KKW LI HGB OW1 SB
  have hsU : w.heap.size < U.heap.size := Nat.lt_of_lt_of_le hs3 KWU.out.size
  have BH := hid_as (B3.out.below KWU.out hs3)
  have IR : Hid (IsRp U (.agg #[.int .u8 4, .int .u8 0, .int .u16 0, .int .u16 0, .slice none 0 0, .slice (some ⟨g, 0, none⟩) a2 vc]) ⟨4, 0, 0, 0, [], (regs ++ List.replicate a2 0).take a2⟩) := ⟨HROK.out, _, _, rfl, Sl.nil U, SU.out⟩
  clear SU q1 q2
  obtain ⟨c0, c1, c2, c3, c4, c5⟩ := BH.out
  obtain ⟨d0, d1, d2, d3, d4, d5⟩ := RH.out
  have YR := hid_as (reply_yes IR.out HRF.out)
  go_wp2_with fail
  refine YR.out.mono ?_
  rintro e w4 ⟨v4, rfl, own4, k4⟩
  have HB4 : Hid (Bytes (repBytes ⟨4, 0, 0, 0, [], (regs ++ List.replicate a2 0).take a2⟩)) := repBytes_bytes HROK.out HRF.out
  have S4 := hid_as (own_sl own4)
  have K4 : Hid (Below w.heap.size w w4) := below_and KU.out k4
  have hs4 : w.heap.size < w4.heap.size := Nat.lt_of_lt_of_le hsU k4.size
  have hx3 : w3.heap.size < U.heap.size := lt_of_cell d0
  have hx4 : w3.heap.size < w4.heap.size := Nat.lt_of_lt_of_le hx3 k4.size
  have B4 := hid_as (BH.out.below k4 hsU)
  have R4 := hid_as (RH.out.below k4 hx3)
  have IR4 := hid_as (IR.out.below k4)
  have OA := hid_as (orep_c (HA.out.below K4.out) S4.out HB4.out (by have := HLEN.out; omega))
  clear k4 own4 c0 c1 c2 c3 c4 c5 d0 d1 d2 d3 d4 d5 YR BH RH IR
  obtain ⟨c0, c1, c2, c3, c4, c5⟩ := B4.out
  go_wp2_with fail
  refine OA.out.mono ?_
  rintro e w5 ⟨k5, ⟨_, v5, rfl, hv5⟩ | ⟨hno, _⟩⟩
  case inr => exact absurd HANS.out.1 hno
  rw [HANS.out.2] at hv5
  have I5 := hid_as hv5
  obtain ⟨go, gn, gc, ho, hn, hc, e5⟩ : ∃ go gn gc ho hn hc, v5 = .agg #[.int .u8 4, .int .u8 0, .int .u16 0, .int .u16 0, .slice go gn gc, .slice ho hn hc] := shape_rp' hv5
  subst e5
  have K5 : Hid (Below w.heap.size w w5) := below_and K4.out k5
  have hs5 : w.heap.size < w5.heap.size := Nat.lt_of_lt_of_le hs4 k5.size
  have hx5 : w3.heap.size < w5.heap.size := Nat.lt_of_lt_of_le hx4 k5.size
  have B5 := hid_as (B4.out.below k5 hs4)
  have R5 := hid_as (R4.out.below k5 hx4)
  have IR5 := hid_as (IR4.out.below k5)
  have S5 := hid_as (S4.out.below k5)
  clear hv5 k5 c0 c1 c2 c3 c4 c5 OA B4 R4 IR4 S4
  have d0 := fun (o : Obj) => (R5.out.grow o).c0
  have d1 := fun (o : Obj) => (R5.out.grow o).c1
  have d2 := fun (o : Obj) => (R5.out.grow o).c2
  have d3 := fun (o : Obj) => (R5.out.grow o).c3
  have d4 := fun (o : Obj) => (R5.out.grow o).c4
  have d5 := fun (o : Obj) => (R5.out.grow o).c5
  have XR := hid_as (fun (o : Obj) => hrep_c (I5.out.below (below_new (Below.refl _ w5) o)) (IR5.out.below (below_new (Below.refl _ w5) o)) HL4.out HL5.out)
  go_wp2_with fail
  refine (XR.out _).mono ?_
  rintro e w6 ⟨t, rfl, k6, ht⟩
  have ht : t = true := by simpa using ht
  subst ht
  have kk6 : Below w5.heap.size w5 w6 := below_and (below_new (Below.refl _ w5) _) k6
  have K6 : Hid (Below w.heap.size w w6) := below_and K5.out kk6
  have B6 := hid_as (B5.out.below kk6 hs5)
  have hs6 : w.heap.size < w6.heap.size := Nat.lt_of_lt_of_le hs5 kk6.size
  have S6 := hid_as (S5.out.below kk6)
  clear k6 kk6 d0 d1 d2 d3 d4 d5 XR B5 R5 IR5 S5 I5
  obtain ⟨c0, c1, c2, c3, c4, c5⟩ := B6.out
  have OB : Hid (∀ (W : World) (h : Below w6.heap.size w6 W), Calls Try.prog 21 #[.agg #[.int .u8 oth, .int .u16 a1, .int .u16 a2, .int .u16 a3, .slice ao na ac, .slice eo ne ec], v4] W fun e w' => Below w.heap.size w w' ∧ Below W.heap.size W w' ∧ ∃ (E q0 q1 q2 q3 : Int) (go : Option Addr) (gn gc : Nat) (ho : Option Addr) (hn hc : Nat), e = .returned (.tuple #[.agg #[.int .u8 q0, .int .u8 q1, .int .u16 q2, .int .u16 q3, .slice go gn gc, .slice ho hn hc], .int .i64 E]) ∧ (oth = 4 ∨ (((oth : Int) == 4) = false ∧ E = 30))) := by
    intro W h
    have hq : IsRq W (.agg #[.int .u8 oth, .int .u16 a1, .int .u16 a2, .int .u16 a3, .slice ao na ac, .slice eo ne ec]) ⟨oth, a1, a2, a3, a4, a5⟩ := by
      obtain ⟨ok, bv, rv, hv, s1, s2⟩ := HA.out.below (below_and K6.out h)
      unfold rqV at hv
      injection hv with hv
      simp only [Array.mk.injEq, List.cons.injEq, and_true] at hv
      obtain ⟨_, _, _, _, e1, e2⟩ := hv
      subst e1 e2
      exact ⟨⟨HOT.out, ok.addr, ok.n, ok.addr2, ok.regs⟩, _, _, rfl, s1, s2⟩
    refine (orep_c hq (S6.out.below h) HB4.out (by have := HLEN.out; omega)).mono ?_
    rintro e w7 ⟨k7, ⟨hi, v7, he, hv7⟩ | ⟨_, he⟩⟩
    · obtain ⟨go, gn, gc, ho, hn, hc, e7⟩ := shape_rp' hv7
      subst e7
      exact ⟨below_and K6.out (below_and h k7), k7, 0, _, _, _, _, _, _, _, _, _, _, he, HXX.out.elim Or.inl fun h => absurd hi h.2⟩
    · exact ⟨below_and K6.out (below_and h k7), k7, 30, _, _, _, _, _, _, _, _, _, _, he, HXX.out.elim Or.inl fun h => Or.inr ⟨h.1, rfl⟩⟩
  go_wp2_with fail
  (with_reducible refine (OB.out _ ?_).mono ?_)
  · exact below_new (Below.refl _ w6) _
  rintro e w7 ⟨K7, k7, E, q0, q1, q2, q3, go, gn, gc, ho, hn, hc, rfl, hE⟩
  have K7H := hid_as K7
  have B7 := (B6.out.grow (.cells #[.int .u8 oth, .int .u16 a1, .int .u16 a2, .int .u16 a3, .slice ao na ac, .slice eo ne ec] 26)).below k7 (by rw [World.size_alloc]; omega)
  clear K7 k7 c0 c1 c2 c3 c4 c5
  have c0 := fun (o : Obj) => (B7.grow o).c0
  rcases hE with h | ⟨hne, h⟩
  · subst h
    go_wp2
    go_ret
    exact ⟨rfl, below_new K7H.out _⟩
  · subst h
    go_wp2
    go_ret
    exact ⟨rfl, below_new K7H.out _⟩
set_option linter.unusedSimpArgs false in
set_option linter.unusedVariables false in
set_option maxRecDepth 100000 in
set_option maxHeartbeats 8000000 in
theorem match_23 (a1 a2 a3 na ac ne ec nb bc nr rc oth : Nat) (a4 : List Bool) (a5 : List Nat) (ao eo bo ro : Option Addr) (w : World) (ha : IsRq w (.agg #[.int .u8 23, .int .u16 a1, .int .u16 a2, .int .u16 a3, .slice ao na ac, .slice eo ne ec]) ⟨23, a1, a2, a3, a4, a5⟩) (hl : a4.length ≤ 2500 ∧ a5.length ≤ 200) (hh : nb ≤ 2500) (hi : nr ≤ 200) (fa : Rq.Fits ⟨23, a1, a2, a3, a4, a5⟩) (hna : na = a4.length) (hne : ne = a5.length) (regs : List Nat) (hbt : Sl w (.slice ro nr rc) (u16s regs)) (hnb : nr = regs.length) (hRF : Rp.Fits ⟨23, 0, 0, 0, [], (regs ++ List.replicate a2 0).take a2⟩) (hRok : Rp.Ok ⟨23, 0, 0, 0, [], (regs ++ List.replicate a2 0).take a2⟩) (hAns : IsAns ⟨23, a1, a2, a3, a4, a5⟩ (repBytes ⟨23, 0, 0, 0, [], (regs ++ List.replicate a2 0).take a2⟩) ∧ readAns ⟨23, a1, a2, a3, a4, a5⟩ (repBytes ⟨23, 0, 0, 0, [], (regs ++ List.replicate a2 0).take a2⟩) = ⟨23, 0, 0, 0, [], (regs ++ List.replicate a2 0).take a2⟩) (hlen : (repBytes ⟨23, 0, 0, 0, [], (regs ++ List.replicate a2 0).take a2⟩).length ≤ 900) (hot : oth < 256) (HX : oth = 23 ∨ (((oth : Int) == 23) = false ∧ ¬ IsAns ⟨oth, a1, a2, a3, a4, a5⟩ (repBytes ⟨23, 0, 0, 0, [], (regs ++ List.replicate a2 0).take a2⟩))) (l4 : (⟨23, 0, 0, 0, [], (regs ++ List.replicate a2 0).take a2⟩ : Rp).bits.length ≤ 1000000) (l5 : (⟨23, 0, 0, 0, [], (regs ++ List.replicate a2 0).take a2⟩ : Rp).regs.length ≤ 1000000) :
    Calls Try.prog 7 #[.agg #[.int .u8 23, .int .u16 a1, .int .u16 a2, .int .u16 a3, .slice ao na ac, .slice eo ne ec], .slice bo nb bc, .slice ro nr rc, .int .u8 0, .int .u8 oth] w fun e w' => e = .returned (.bool true) ∧ Below w.heap.size w w' := by
  have HA := hid_as ha
  have hd := decide_eq_true hl
  have h4 : decide ((2500 : Int) < (nb : Int)) = false := decide_eq_false (by omega)
  have h5 : decide ((200 : Int) < (nr : Int)) = false := decide_eq_false (by omega)
  have HL := hid_as hl
  have FA := hid_as fa
  have HNB := hid_as hh
  have HNR := hid_as hi
  clear ha hh hl hi fa
  have HBT := hid_as hbt
  have HNN := hid_as hnb
  clear hbt hnb
  have HRF := hid_as hRF
  have HROK := hid_as hRok
  have HANS := hid_as hAns
  have HLEN := hid_as hlen
  have HOT := hid_as hot
  have HXX := hid_as HX
  have HNA := hid_as hna
  have HNE := hid_as hne
  have HL4 := hid_as l4
  have HL5 := hid_as l5
  clear hRF hRok hAns hlen hot HX hna hne l4 l5
  go_enter Try.func7, Try.ntmps7
  go_wp2_with fail
  refine (known_law _).mono ?_
  rintro e w1 ⟨rfl, k1⟩
  obtain ⟨k1, B1, hs1⟩ := one_box k1
  have K1 : Hid (Below w.heap.size w w1) := k1
  have H1 := hid_as (HA.out.below k1)
  have B1 : Hid (Box w1 w.heap.size (.int .u8 23) (.int .u16 a1) (.int .u16 a2) (.int .u16 a3) (.slice ao na ac) (.slice eo ne ec)) := B1
  obtain ⟨c0, c1, c2, c3, c4, c5⟩ := B1.out
  clear k1
  go_wp2_with fail
  refine (light_c H1.out).mono ?_
  rintro e w2 ⟨rfl, k2⟩
  have K2 : Hid (Below w.heap.size w w2) := below_and K1.out k2
  rw [hd]
  have H2 := hid_as (HA.out.below K2.out)
  have hs2 : w.heap.size < w2.heap.size := Nat.lt_of_lt_of_le hs1 k2.size
  have B2 : Hid (Box w2 w.heap.size (.int .u8 23) (.int .u16 a1) (.int .u16 a2) (.int .u16 a3) (.slice ao na ac) (.slice eo ne ec)) := B1.out.below k2 hs1
  clear k2 c0 c1 c2 c3 c4 c5 B1 H1
  obtain ⟨c0, c1, c2, c3, c4, c5⟩ := B2.out
  have RR := hid_as (ref_request H2.out HL.out.1 HL.out.2)
  go_wp2_with fail
  refine RR.out.mono ?_
  rintro e w3 ⟨k3, ⟨_, y, rfl, _⟩ | ⟨hf, _⟩⟩
  case inr => exact absurd FA.out hf
  have K3 : Hid (Below w.heap.size w w3) := below_and K2.out k3
  have hs3 : w.heap.size < w3.heap.size := Nat.lt_of_lt_of_le hs2 k3.size
  have B3 : Hid (Box w3 w.heap.size (.int .u8 23) (.int .u16 a1) (.int .u16 a2) (.int .u16 a3) (.slice ao na ac) (.slice eo ne ec)) := B2.out.below k3 hs2
  clear k3 c0 c1 c2 c3 c4 c5 B2 H2 RR
  obtain ⟨c0, c1, c2, c3, c4, c5⟩ := B3.out
  go_upto_region 9 with fail
  have KY := hid_as (below_new K3.out (.cells #[.int .u8 23, .int .u8 0, .int .u16 0, .int .u16 0, .slice none 0 0, .slice none 0 0] 44))
  have KXY := hid_as (below_new (Below.refl _ w3) (.cells #[.int .u8 23, .int .u8 0, .int .u16 0, .int .u16 0, .slice none 0 0, .slice none 0 0] 44))
  have BY := (Box.mk c0 c1 c2 c3 c4 c5).grow (.cells #[.int .u8 23, .int .u8 0, .int .u16 0, .int .u16 0, .slice none 0 0, .slice none 0 0] 44)
  have RY := heap_alloc_new w3 (.cells #[.int .u8 23, .int .u8 0, .int .u16 0, .int .u16 0, .slice none 0 0, .slice none 0 0] 44)
  have hsY : w3.heap.size < (w3.alloc (.cells #[.int .u8 23, .int .u8 0, .int .u16 0, .int .u16 0, .slice none 0 0, .slice none 0 0] 44)).heap.size := by rw [World.size_alloc]; omega
  clear c0 c1 c2 c3 c4 c5
  generalize w3.alloc (.cells #[.int .u8 23, .int .u8 0, .int .u16 0, .int .u16 0, .slice none 0 0, .slice none 0 0] 44) = Y at KY KXY BY RY hsY ⊢
  obtain ⟨c0, c1, c2, c3, c4, c5⟩ := BY
  obtain ⟨⟨d0, d1, d2, d3, d4, d5⟩, hfz⟩ := block6 RY
  have f0 := hfz 0
  have f1 := hfz 1
  have f2 := hfz 2
  have f3 := hfz 3
  have f4 := hfz 4
  have f5 := hfz 5
  clear hfz
  have hsw : w.heap.size < Y.heap.size := Nat.lt_trans hs3 hsY
  have hneX : ¬ (w3.heap.size = w.heap.size) := by omega
  have HA2 : Hid (1 ≤ a2 ∧ a2 ≤ 2000) := by unfold Hid; have hf := FA.out; unfold Rq.Fits FitsN at hf; simp only at hf; omega
  have SB := hid_as (fun (W : World) (h : Below Y.heap.size Y W) => HBT.out.below (below_and KY.out h))
  have a2i : (0 : Int) ≤ (a2 : Int) := by omega
  have RYH := hid_as RY
  go_upto_region 17 with fail
  go_region_held3 (fun w' => w'.cell? ⟨w.heap.size, 2, none⟩ = some (.int .u16 a2)) (first | (simp [World.cell?_setCell_far, hneX, u2]; done) | (simp [World.cell?_setCell_far, hneX, s2]; done) | (simp [c2]; done)) (first | (refine step_app_sl rfl (.const (.slice none 0 0)) (.tmp 67) 24 22 (.int .u16 0) 2 rfl Try.underlying24 Try.infoWord rfl (by decide) Y.heap.size (.slice none 0 0) (.slice ro nr rc) 0 [] (u16s regs) rfl rfl (World.ownsRow_nil ..) (SB.out _ (Below.refl _ _).drew) (u16s_one _) (by rw [u16s_len]; have := HNN.out; have := HNB.out; have := HNR.out; omega) (Nat.le_refl _) ?_; intro v1 x1 own1 k1; have s2 := (Box.mk c0 c1 c2 c3 c4 c5).drew.below k1 hsw |>.c2; have OW1 := hid_as own1; have KK1 := hid_as k1; clear own1 k1) | (refine step_app_zeros rfl (.tmp 68) (.tmp 70) 24 22 22 (.int .u16 0) 2 .u16 .u16 rfl Try.underlying24 Try.underlying22 Try.infoWord rfl rfl (by decide) Y.heap.size _ _ a2 _ rfl rfl OW1.out (by rw [u16s_len]; have := HNN.out; have := HNB.out; have := HNR.out; have := HA2.out; omega) KK1.out.size ?_; intro v2 x2 own2 k2; have kk2 := KK1.out.trans k2; have u2 := (Box.mk c0 c1 c2 c3 c4 c5).drew.below kk2 hsw |>.c2; obtain ⟨g, vc, hv2, hvc, hgb, hlies⟩ := own_at own2 (by have := HA2.out; omega); subst hv2; have q1 : (a2 : Int) ≤ (vc : Int) := (by omega); have q2 : a2 ≤ vc := (by omega); have KK2 := hid_as ((Below.refl _ Y).drew.trans kk2); have LI := hid_as hlies; have HGB := hid_as hgb; have hb6 := block6 ((kk2.block _ hsY).trans RYH.out); obtain ⟨⟨j0, j1, j2, j3, j4, j5⟩, hjz⟩ := hb6; have i0 := hjz 0; have i1 := hjz 1; have i2 := hjz 2; have i3 := hjz 3; have i4 := hjz 4; have i5 := hjz 5; clear own2 k2 kk2 hlies hgb hjz hvc))
  obtain ⟨U, hU⟩ : ∃ U, U = x2.setCell ⟨w3.heap.size, 5, none⟩ (.slice (some ⟨g, 0, none⟩) a2 vc) := ⟨_, rfl⟩
  rw [← hU]
  have KKW : Hid (Below w3.heap.size w3 x2) := below_and KXY.out KK2.out
  have KU : Hid (Below w.heap.size w U) := by unfold Hid; rw [hU]; exact Below.setCell (below_and KY.out KK2.out) (Nat.le_of_lt hs3) _
  have KWU : Hid (Below w3.heap.size w3 U) := by unfold Hid; rw [hU]; exact Below.setCell KKW.out (Nat.le_refl _) _
  have RH : Hid (Box U w3.heap.size (.int .u8 23) (.int .u8 0) (.int .u16 0) (.int .u16 0) (.slice none 0 0) (.slice (some ⟨g, 0, none⟩) a2 vc)) := by
    unfold Hid
    rw [hU]
    exact ⟨(set_else j0 (by decide)), (set_else j1 (by decide)), (set_else j2 (by decide)), (set_else j3 (by decide)), (set_else j4 (by decide)), (set_same j5)⟩
  have SU : Hid (Sl U (.slice (some ⟨g, 0, none⟩) a2 vc) (u16s ((regs ++ List.replicate a2 0).take a2))) := by
    unfold Hid
    rw [hU]
    have h := sl_first (n := a2) (c := vc) (lies_far (g' := w3.heap.size) (o := 5) (u := .slice (some ⟨g, 0, none⟩) a2 vc) LI.out (by have := HGB.out; omega)) (by simp) q2
    rw [cut_u16s] at h
    exact h
  clear hU c0 c1 c2 c3 c4 c5 d0 d1 d2 d3 d4 d5 f0 f1 f2 f3 f4 f5 j0 j1 j2 j3 j4 j5 i0 i1 i2 i3 i4 i5 s2 u2 KY KXY hsw RY RYH hsY KK1 KK2 KKW LI HGB OW1 SB
  have hsU : w.heap.size < U.heap.size := Nat.lt_of_lt_of_le hs3 KWU.out.size
  have BH := hid_as (B3.out.below KWU.out hs3)
  have IR : Hid (IsRp U (.agg #[.int .u8 23, .int .u8 0, .int .u16 0, .int .u16 0, .slice none 0 0, .slice (some ⟨g, 0, none⟩) a2 vc]) ⟨23, 0, 0, 0, [], (regs ++ List.replicate a2 0).take a2⟩) := ⟨HROK.out, _, _, rfl, Sl.nil U, SU.out⟩
  clear SU q1 q2
  obtain ⟨c0, c1, c2, c3, c4, c5⟩ := BH.out
  obtain ⟨d0, d1, d2, d3, d4, d5⟩ := RH.out
  have YR := hid_as (reply_yes IR.out HRF.out)
  go_wp2_with fail
  refine YR.out.mono ?_
  rintro e w4 ⟨v4, rfl, own4, k4⟩
  have HB4 : Hid (Bytes (repBytes ⟨23, 0, 0, 0, [], (regs ++ List.replicate a2 0).take a2⟩)) := repBytes_bytes HROK.out HRF.out
  have S4 := hid_as (own_sl own4)
  have K4 : Hid (Below w.heap.size w w4) := below_and KU.out k4
  have hs4 : w.heap.size < w4.heap.size := Nat.lt_of_lt_of_le hsU k4.size
  have hx3 : w3.heap.size < U.heap.size := lt_of_cell d0
  have hx4 : w3.heap.size < w4.heap.size := Nat.lt_of_lt_of_le hx3 k4.size
  have B4 := hid_as (BH.out.below k4 hsU)
  have R4 := hid_as (RH.out.below k4 hx3)
  have IR4 := hid_as (IR.out.below k4)
  have OA := hid_as (orep_c (HA.out.below K4.out) S4.out HB4.out (by have := HLEN.out; omega))
  clear k4 own4 c0 c1 c2 c3 c4 c5 d0 d1 d2 d3 d4 d5 YR BH RH IR
  obtain ⟨c0, c1, c2, c3, c4, c5⟩ := B4.out
  go_wp2_with fail
  refine OA.out.mono ?_
  rintro e w5 ⟨k5, ⟨_, v5, rfl, hv5⟩ | ⟨hno, _⟩⟩
  case inr => exact absurd HANS.out.1 hno
  rw [HANS.out.2] at hv5
  have I5 := hid_as hv5
  obtain ⟨go, gn, gc, ho, hn, hc, e5⟩ : ∃ go gn gc ho hn hc, v5 = .agg #[.int .u8 23, .int .u8 0, .int .u16 0, .int .u16 0, .slice go gn gc, .slice ho hn hc] := shape_rp' hv5
  subst e5
  have K5 : Hid (Below w.heap.size w w5) := below_and K4.out k5
  have hs5 : w.heap.size < w5.heap.size := Nat.lt_of_lt_of_le hs4 k5.size
  have hx5 : w3.heap.size < w5.heap.size := Nat.lt_of_lt_of_le hx4 k5.size
  have B5 := hid_as (B4.out.below k5 hs4)
  have R5 := hid_as (R4.out.below k5 hx4)
  have IR5 := hid_as (IR4.out.below k5)
  have S5 := hid_as (S4.out.below k5)
  clear hv5 k5 c0 c1 c2 c3 c4 c5 OA B4 R4 IR4 S4
  have d0 := fun (o : Obj) => (R5.out.grow o).c0
  have d1 := fun (o : Obj) => (R5.out.grow o).c1
  have d2 := fun (o : Obj) => (R5.out.grow o).c2
  have d3 := fun (o : Obj) => (R5.out.grow o).c3
  have d4 := fun (o : Obj) => (R5.out.grow o).c4
  have d5 := fun (o : Obj) => (R5.out.grow o).c5
  have XR := hid_as (fun (o : Obj) => hrep_c (I5.out.below (below_new (Below.refl _ w5) o)) (IR5.out.below (below_new (Below.refl _ w5) o)) HL4.out HL5.out)
  go_wp2_with fail
  refine (XR.out _).mono ?_
  rintro e w6 ⟨t, rfl, k6, ht⟩
  have ht : t = true := by simpa using ht
  subst ht
  have kk6 : Below w5.heap.size w5 w6 := below_and (below_new (Below.refl _ w5) _) k6
  have K6 : Hid (Below w.heap.size w w6) := below_and K5.out kk6
  have B6 := hid_as (B5.out.below kk6 hs5)
  have hs6 : w.heap.size < w6.heap.size := Nat.lt_of_lt_of_le hs5 kk6.size
  have S6 := hid_as (S5.out.below kk6)
  clear k6 kk6 d0 d1 d2 d3 d4 d5 XR B5 R5 IR5 S5 I5
  obtain ⟨c0, c1, c2, c3, c4, c5⟩ := B6.out
  have OB : Hid (∀ (W : World) (h : Below w6.heap.size w6 W), Calls Try.prog 21 #[.agg #[.int .u8 oth, .int .u16 a1, .int .u16 a2, .int .u16 a3, .slice ao na ac, .slice eo ne ec], v4] W fun e w' => Below w.heap.size w w' ∧ Below W.heap.size W w' ∧ ∃ (E q0 q1 q2 q3 : Int) (go : Option Addr) (gn gc : Nat) (ho : Option Addr) (hn hc : Nat), e = .returned (.tuple #[.agg #[.int .u8 q0, .int .u8 q1, .int .u16 q2, .int .u16 q3, .slice go gn gc, .slice ho hn hc], .int .i64 E]) ∧ (oth = 23 ∨ (((oth : Int) == 23) = false ∧ E = 30))) := by
    intro W h
    have hq : IsRq W (.agg #[.int .u8 oth, .int .u16 a1, .int .u16 a2, .int .u16 a3, .slice ao na ac, .slice eo ne ec]) ⟨oth, a1, a2, a3, a4, a5⟩ := by
      obtain ⟨ok, bv, rv, hv, s1, s2⟩ := HA.out.below (below_and K6.out h)
      unfold rqV at hv
      injection hv with hv
      simp only [Array.mk.injEq, List.cons.injEq, and_true] at hv
      obtain ⟨_, _, _, _, e1, e2⟩ := hv
      subst e1 e2
      exact ⟨⟨HOT.out, ok.addr, ok.n, ok.addr2, ok.regs⟩, _, _, rfl, s1, s2⟩
    refine (orep_c hq (S6.out.below h) HB4.out (by have := HLEN.out; omega)).mono ?_
    rintro e w7 ⟨k7, ⟨hi, v7, he, hv7⟩ | ⟨_, he⟩⟩
    · obtain ⟨go, gn, gc, ho, hn, hc, e7⟩ := shape_rp' hv7
      subst e7
      exact ⟨below_and K6.out (below_and h k7), k7, 0, _, _, _, _, _, _, _, _, _, _, he, HXX.out.elim Or.inl fun h => absurd hi h.2⟩
    · exact ⟨below_and K6.out (below_and h k7), k7, 30, _, _, _, _, _, _, _, _, _, _, he, HXX.out.elim Or.inl fun h => Or.inr ⟨h.1, rfl⟩⟩
  go_wp2_with fail
  (with_reducible refine (OB.out _ ?_).mono ?_)
  · exact below_new (Below.refl _ w6) _
  rintro e w7 ⟨K7, k7, E, q0, q1, q2, q3, go, gn, gc, ho, hn, hc, rfl, hE⟩
  have K7H := hid_as K7
  have B7 := (B6.out.grow (.cells #[.int .u8 oth, .int .u16 a1, .int .u16 a2, .int .u16 a3, .slice ao na ac, .slice eo ne ec] 26)).below k7 (by rw [World.size_alloc]; omega)
  clear K7 k7 c0 c1 c2 c3 c4 c5
  have c0 := fun (o : Obj) => (B7.grow o).c0
  rcases hE with h | ⟨hne, h⟩
  · subst h
    go_wp2
    go_ret
    exact ⟨rfl, below_new K7H.out _⟩
  · subst h
    go_wp2
    go_ret
    exact ⟨rfl, below_new K7H.out _⟩
end Go.Proofs.Ytehbbkdiekgpbaa
