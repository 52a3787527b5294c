/- The law that a step hangs on what is handed in alone (stage 17). -/
import Derived.Test.YtbpnaenineinmaaP2
import Derived.Test.YtbpnaenineinmaaM2
namespace Go.Proofs.Ytbpnaenineinmaa
open Go.RowKit
open Fb
/-- What is kept lies in block g. -/
abbrev Kr (w : World) (g : Nat) (a b c : Int) : Prop := w.heap[g]? = some (.cells #[.int .i64 a, .int .i64 b, .int .i64 c] 23 (0, 0))
theorem Kr.cells {w : World} {g : Nat} {a b c : Int} (h : Kr w g a b c) : w.cell? ⟨g, 0, none⟩ = some (.int .i64 a) ∧ w.cell? ⟨g, 1, none⟩ = some (.int .i64 b) ∧ w.cell? ⟨g, 2, none⟩ = some (.int .i64 c) ∧ ∀ j, w.frozen? ⟨g, j, none⟩ = false :=
  ⟨cell_row (l := [.int .i64 a, .int .i64 b, .int .i64 c]) h rfl, cell_row (l := [.int .i64 a, .int .i64 b, .int .i64 c]) h rfl, cell_row (l := [.int .i64 a, .int .i64 b, .int .i64 c]) h rfl, fun _ => frozen_row (l := [.int .i64 a, .int .i64 b, .int .i64 c]) h⟩
theorem Kr.lt {w : World} {g : Nat} {a b c : Int} (h : Kr w g a b c) : g < w.heap.size := (Array.getElem?_eq_some_iff.1 h).1
theorem Kr.below {w u : World} {g : Nat} {a b c : Int} (h : Kr w g a b c) (k : Below w.heap.size w u) : Kr u g a b c := (k.block g h.lt).trans h
set_option maxRecDepth 100000 in
set_option maxHeartbeats 4000000 in
theorem apart_w {w : World} {ia oa : Option Addr} {n m ic oc : Nat} {l q : List Int} (wh k0 k1 k2 t : Int) (hi : Sl w (.slice ia n ic) (i64s l)) (hn : n = l.length) (hn9 : n ≤ 9223372036854775807) (ho : Sl w (.slice oa m oc) (i64s q)) (hm : m = q.length) (hm9 : m ≤ 9223372036854775807) :
    Calls Try.prog 8 #[.int .i64 wh, .slice ia n ic, .agg #[.int .i64 k0, .int .i64 k1, .int .i64 k2], .slice oa m oc, .int .i64 t] w fun e w' => e = .returned (.bool true) ∧ Below w.heap.size w w' := by
  have I := hid_as hi
  have O := hid_as ho
  have HN := hid_as hn
  have HM := hid_as hm
  clear hi ho hn hm
  have KA : Hid (Below w.heap.size w (w.alloc (.cells #[.int .i64 k0, .int .i64 k1, .int .i64 k2] 23))) := below_new (Below.refl _ _) _
  have KH : Hid (Kr (w.alloc (.cells #[.int .i64 k0, .int .i64 k1, .int .i64 k2] 23)) w.heap.size k0 k1 k2) := heap_alloc_new w _
  by_cases h20 : n ≤ 20 ∧ m ≤ 20
  case neg =>
    by_cases h21 : n ≤ 20
    · have g1 : ¬ (20 : Int) < n := by omega
      have g2 : (20 : Int) < m := by omega
      clear h20
      go_enter Try.func8, Try.ntmps8
      go_upto_region 1 with fail
      generalize (w.alloc (.cells #[.int .i64 k0, .int .i64 k1, .int .i64 k2] 23)) = W0 at *
      have KN := hid_as (known_c W0)
      go_wp2_with fail
      refine KN.out.mono ?_
      rintro e w1 ⟨rfl, b1⟩
      have B := hid_as (below_and KA.out b1)
      go_wp2
      go_ret
      exact ⟨rfl, B.out⟩
    · have g1 : (20 : Int) < n := by omega
      clear h20
      go_enter Try.func8, Try.ntmps8
      go_upto_region 1 with fail
      generalize (w.alloc (.cells #[.int .i64 k0, .int .i64 k1, .int .i64 k2] 23)) = W0 at *
      have KN := hid_as (known_c W0)
      go_wp2_with fail
      refine KN.out.mono ?_
      rintro e w1 ⟨rfl, b1⟩
      have B := hid_as (below_and KA.out b1)
      go_wp2
      go_ret
      exact ⟨rfl, B.out⟩
  obtain ⟨h20, h21⟩ := h20
  have g1 : ¬ (20 : Int) < n := by omega
  have g2 : ¬ (20 : Int) < m := by omega
  obtain ⟨kk, hkk⟩ : ∃ kk : Nat, wh % 10 = (kk : Int) := ⟨(wh % 10).toNat, by omega⟩
  have hk10 : kk < 10 := by omega
  have hk10' : (kk : Int) < 10 := by omega
  have PL := hid_as (fun U => place_10 wh U)
  rw [hkk] at PL
  clear hkk
  go_enter Try.func8, Try.ntmps8
  go_upto_region 1 with fail
  generalize (w.alloc (.cells #[.int .i64 k0, .int .i64 k1, .int .i64 k2] 23)) = W0 at *
  have KN := hid_as (known_c W0)
  go_wp2_with fail
  refine KN.out.mono ?_
  rintro e w1 ⟨rfl, b1⟩
  have B1 := hid_as b1
  have NC := hid_as (names_c w1)
  clear b1 KN
  go_wp2_with fail
  refine NC.out.mono ?_
  rintro e w2 ⟨rfl, b2, s2, c2⟩
  have B2 := hid_as (below_and B1.out b2)
  have ck := c2 kk hk10
  clear B1 NC b2 s2 c2
  obtain ⟨N, hN⟩ : ∃ N, N = nm kk := ⟨_, rfl⟩
  rw [← hN] at ck
  have HNM := hid_as hN
  clear hN
  go_wp2_with fail
  refine (PL.out _).mono ?_
  rintro e w' ⟨rfl, hw⟩
  subst w'
  clear PL
  have BW := hid_as (KA.out.trans (B2.out.mono (by have := KA.out.size; omega)))
  obtain ⟨va, w3, ha, oa3, b3, _, _⟩ := app_nums (w := w2) (base := w2.heap.size) (q := []) (World.ownsRow_nil ..) (I.out.below BW.out) (by rw [← HN.out]; omega) (Nat.le_refl _)
  obtain ⟨vb, w4, hb, ob4, b4, _, _⟩ := app_nums (w := w3) (base := w3.heap.size) (q := []) (World.ownsRow_nil ..) ((O.out.below BW.out).below b3) (by rw [← HM.out]; omega) (Nat.le_refl _)
  simp only [Nat.zero_add, List.nil_append, ← HN.out, ← HM.out] at oa3 ob4
  have HA := hid_as ha
  have HB := hid_as hb
  have B34 := hid_as (below_and b3 b4)
  have SA := hid_as ((own_sl oa3).below b4)
  have SB := hid_as (own_sl ob4)
  obtain ⟨aa, ca, rfl⟩ := own_shape oa3
  obtain ⟨ab, cb, rfl⟩ := own_shape ob4
  have SI := hid_as ((I.out.below BW.out).below B34.out)
  have SO := hid_as ((O.out.below BW.out).below B34.out)
  have KX := hid_as ((KH.out.below B2.out).below B34.out)
  have BX := hid_as (below_and BW.out B34.out)
  clear ha hb oa3 ob4 b3 b4 I O KH BW B34 B2 KA
  go_upto_region 7 with (first | (at_builtin; refine Lib.wpList_append_run w2 rfl _ _ _ _ rfl _ _ rfl rfl _ _ HA.out ?_) | (at_builtin; refine Lib.wpList_append_run w3 rfl _ _ _ _ rfl _ _ rfl rfl _ _ HB.out ?_))
  clear HA HB ck
  obtain ⟨kx, hkx⟩ : ∃ kx, kx = w.heap.size := ⟨_, rfl⟩
  rw [← hkx] at KX ⊢
  clear hkx
  have X := hid_as (step_any kk hk10 k0 k1 k2 t SA.out HN.out hn9 SB.out HM.out hm9)
  have Y := hid_as (fun U (k : Below w4.heap.size w4 U) => step_any kk hk10 k0 k1 k2 t (SI.out.below k) HN.out hn9 (SO.out.below k) HM.out hm9)
  have OK := hid_as (stp_ok kk l q k0 k1 k2 t)
  have OL := hid_as (show (stp kk l q k0 k1 k2 t).o.length ≤ 3 by rw [stp_len]; exact pO_le3 kk)
  obtain ⟨r, hr⟩ : ∃ r, r = stp kk l q k0 k1 k2 t := ⟨_, rfl⟩
  simp only [← hr, ← HNM.out] at X Y OK OL
  clear hr HNM
  obtain ⟨p0, p1, p2, _⟩ := KX.out.cells
  go_wp2_with fail
  refine X.out.mono ?_
  rintro e w5 ⟨b1, rfl, hb1, r1, k5⟩
  clear X p0 p1 p2
  obtain ⟨ro, x0, x1, x2⟩ := r
  simp only at r1 OK Y OL
  have RN : Hid (Row64 (w5.alloc (.cells #[.int .i64 x0, .int .i64 x1, .int .i64 x2] 23)) b1 ro) := row_below r1 (below_new (Below.refl _ _) _)
  have KN : Hid (Kr (w5.alloc (.cells #[.int .i64 x0, .int .i64 x1, .int .i64 x2] 23)) w5.heap.size x0 x1 x2) := heap_alloc_new w5 _
  have BN : Hid (Below w4.heap.size w4 (w5.alloc (.cells #[.int .i64 x0, .int .i64 x1, .int .i64 x2] 23))) := below_new k5 _
  have LT : Hid (w4.heap.size ≤ b1 ∧ b1 < w5.heap.size) := ⟨hb1, row_lt r1⟩
  clear r1 k5 hb1
  go_upto_region 8 with fail
  generalize (w5.alloc (.cells #[.int .i64 x0, .int .i64 x1, .int .i64 x2] 23)) = w6 at *
  generalize w5.heap.size = ky at *
  obtain ⟨L, hL⟩ : ∃ L, L = ro.length := ⟨_, rfl⟩
  rw [← hL]
  have HL := hid_as hL
  clear hL
  have hL9 : L ≤ 3 := by rw [HL.out]; exact OL.out
  go_wp2
  go_loopw [16] (fun i wr => ∃ j : Nat, j ≤ L ∧ i = .int .i64 j ∧ Row64 wr b1 (p7 ro j) ∧ Turn b1 w6 wr) (fun i _ => L - (intOf i).toNat)
  case atStart => exact ⟨0, by omega, rfl, by rw [p7_zero]; exact RN.out, Turn.refl _ _⟩
  case round =>
    obtain ⟨j, hj, rfl, hR, hT⟩ := hrel
    have R := hid_as hR
    have T := hid_as hT
    clear hR hT RN
    by_cases hjl : j < L
    · have hjl' : (j : Int) < (L : Int) := by omega
      obtain ⟨z, hz⟩ : ∃ z, z = ro.getD j 0 := ⟨_, rfl⟩
      have zo := OK.out (ro.getD j 0) (getD_mem (by rw [← HL.out]; exact hjl))
      rw [← hz] at zo
      have cj : wr.cell? ⟨b1, j, none⟩ = some (.int .i64 z) := cell_row R.out (i64s_get (by rw [p7_at _ _ _ (by rw [← HL.out]; exact hjl), if_neg (by omega), hz]))
      have cf : wr.frozen? ⟨b1, j, none⟩ = false := frozen_row R.out
      have NX : Hid (Row64 (wr.setCell ⟨b1, j, none⟩ (.int .i64 (z + 7))) b1 (p7 ro (j + 1))) := by
        have := row_set (j := j) R.out (z + 7)
        rw [hz, p7_next _ _ (by rw [← HL.out]; exact hjl)] at this
        rw [hz]; exact this
      clear hz
      go_wp2
      go_roundw
      case rel => exact ⟨j + 1, by omega, by go_num, NX.out, T.out.set j _⟩
      case measure => simp [intOf]; omega
    · obtain rfl : L = j := by omega
      have RR := hid_as R.out
      have KY : Hid (Kr wr ky x0 x1 x2) := (T.out.block ky KN.out.lt (fun e => by have := LT.out; simp at e; omega)).trans KN.out
      have BY := hid_as (BN.out.trans (T.out.below LT.out.1 BN.out.size))
      have KX2 := hid_as (KX.out.below BY.out)
      have Z := hid_as (Y.out wr BY.out)
      clear R T KN BN Y KX
      obtain ⟨p0, p1, p2, _⟩ := KX2.out.cells
      go_wp2_with fail
      refine Z.out.mono ?_
      rintro e w7 ⟨b2, rfl, hb2, r2, k7⟩
      clear Z p0 p1 p2
      simp only at r2
      have R1 : Hid (Row64 (w7.alloc (.cells #[.int .i64 x0, .int .i64 x1, .int .i64 x2] 23)) b1 (p7 ro L)) := row_below (row_below RR.out k7) (below_new (Below.refl _ _) _)
      have R2 : Hid (Row64 (w7.alloc (.cells #[.int .i64 x0, .int .i64 x1, .int .i64 x2] 23)) b2 ro) := row_below r2 (below_new (Below.refl _ _) _)
      have K1 : Hid (Kr (w7.alloc (.cells #[.int .i64 x0, .int .i64 x1, .int .i64 x2] 23)) ky x0 x1 x2) := (KY.out.below k7).below (below_new (Below.refl _ _) _)
      have K2 : Hid (Kr (w7.alloc (.cells #[.int .i64 x0, .int .i64 x1, .int .i64 x2] 23)) w7.heap.size x0 x1 x2) := heap_alloc_new w7 _
      have BZ : Hid (Below w4.heap.size w4 (w7.alloc (.cells #[.int .i64 x0, .int .i64 x1, .int .i64 x2] 23))) := below_new (below_and BY.out k7) _
      clear RR KY BY KX2 k7 r2 hb2
      rw [← HL.out]
      go_upto_region 13 with fail
      generalize (w7.alloc (.cells #[.int .i64 x0, .int .i64 x1, .int .i64 x2] 23)) = w8 at *
      generalize w7.heap.size = kz at *
      have hE := eq3_yes x0 x1 x2
      have NA := hid_as (nums_c (SA.out.below BZ.out) (SI.out.below BZ.out) (by rw [← HN.out]; omega))
      have NB := hid_as (fun U (k : Same w8 U) => nums_c ((SB.out.below BZ.out).same k) ((SO.out.below BZ.out).same k) (by rw [← HM.out]; omega))
      simp only [decide_true] at NA NB
      obtain ⟨p0, p1, p2, _⟩ := K1.out.cells
      obtain ⟨s0, s1, s2, _⟩ := K2.out.cells
      go_wp2_with fail
      refine NA.out.mono ?_
      rintro e w9 ⟨rfl, s9⟩
      have S9 := hid_as s9
      clear NA s9 p0 p1 p2 s0 s1 s2 hE
      go_wp2_with fail
      refine (NB.out _ S9.out).mono ?_
      rintro e w10 ⟨rfl, s10⟩
      have S := hid_as (S9.out.trans s10)
      clear NB s10 S9
      go_wp2
      go_loopw [19] (fun i wr2 => ∃ j : Nat, j ≤ L ∧ i = .int .i64 j ∧ Same w8 wr2) (fun i _ => L - (intOf i).toNat)
      case atStart => exact ⟨0, by omega, rfl, S.out⟩
      case round =>
        obtain ⟨j, hj, rfl, hS⟩ := hrel
        have SS := hid_as hS
        clear hS S
        by_cases hjl : j < L
        · have hjl' : (j : Int) < (L : Int) := by omega
          obtain ⟨z, hz⟩ : ∃ z, z = ro.getD j 0 := ⟨_, rfl⟩
          have zo := OK.out (ro.getD j 0) (getD_mem (by rw [← HL.out]; exact hjl))
          rw [← hz] at zo
          have cj : wr.cell? ⟨b1, j, none⟩ = some (.int .i64 (z + 7)) := cell_row (row_below R1.out SS.out.below) (i64s_get (by rw [p7_at _ _ _ (by rw [← HL.out]; exact hjl), if_pos (by omega), hz]))
          have ck : wr.cell? ⟨b2, j, none⟩ = some (.int .i64 z) := cell_row (row_below R2.out SS.out.below) (i64s_get (by rw [hz, List.getD_eq_getElem?_getD, List.getElem?_eq_getElem (by rw [← HL.out]; exact hjl)]; rfl))
          clear hz
          go_upto_region 18 with fail
          go_quiet (fail)
          go_wp2
          go_roundw
          case rel => exact ⟨j + 1, by omega, by go_num, SS.out.trans (Same.drewN _ _)⟩
          case measure => simp [intOf]; omega
        · have FIN := hid_as (below_and BX.out (below_and BZ.out SS.out.below))
          go_wp2
          go_ret
          exact ⟨rfl, FIN.out⟩
end Go.Proofs.Ytbpnaenineinmaa
