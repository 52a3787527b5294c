/- The law of counters (stage 17). -/
import Derived.Test.YtbpnaenineinmaaP1
import Derived.Test.YtbpnaenineinmaaFF4
namespace Go.Proofs.Ytbpnaenineinmaa
open Go.RowKit
open Fb
def inp (f0 f1 : Bool) (pv : Int) (k : Nat) : List Int := [if 0 < k then b01 f0 else 0, if 1 < k then b01 f1 else 0, pv]
set_option maxRecDepth 100000 in
set_option maxHeartbeats 8000000 in
theorem counts_3 {w : World} {la : Option Addr} {n lc : Nat} {f : Nat → Nat → Bool} (wh pv0 first : Int) (hwh : wh % 2 = 0) (hL : Bl w la 3 n f) (hn9 : n ≤ 9223372036854775807) :
    Calls Try.prog 6 #[.int .i64 wh, .slice la n lc, .int .i64 pv0, .int .i64 first] w fun e w' => e = .returned (.bool true) ∧ Below w.heap.size w w' := by
  have L := hid_as hL
  have KN := hid_as (known_c w)
  have PL := hid_as (fun U => place_2 wh U)
  rw [hwh] at PL
  clear hL hwh
  by_cases h80 : n ≤ 80
  · have h80' : ¬ (80 : Int) < n := by omega
    go_enter Try.func6, Try.ntmps6
    go_wp2_with fail
    refine KN.out.mono ?_
    rintro e w1 ⟨rfl, k1⟩
    have K1 := hid_as k1
    clear KN k1
    go_wp2_with fail
    refine (PL.out _).mono ?_
    rintro e w' ⟨rfl, hw⟩
    subst w'
    clear PL
    have KA : Hid (Below w.heap.size w (w1.alloc (.cells #[.string ⟨#[67, 84, 85]⟩, .string ⟨#[67, 84, 68]⟩] 9))) := below_new K1.out _
    go_upto_region 6 with fail
    generalize (w1.alloc (.cells #[.string ⟨#[67, 84, 85]⟩, .string ⟨#[67, 84, 68]⟩] 9)) = w2 at *
    have WR := hid_as (rwrap_3 pv0 w2)
    go_wp2_with fail
    refine WR.out.mono ?_
    rintro e w3 ⟨rfl, k3⟩
    have K3 := hid_as (below_and KA.out k3)
    have WS := hid_as (rwrap_3 first w3)
    clear WR KA k3 K1
    go_wp2_with fail
    refine WS.out.mono ?_
    rintro e w4 ⟨rfl, k4⟩
    have K4 := hid_as (below_and K3.out k4)
    have hpv := w16_ok pv0
    have hc0 := w16_ok first
    generalize w16 pv0 = pv at *
    generalize w16 first = cz at *
    clear WS K3 k4
    have L0 : Hid (Lf w ((w4.alloc (.cells #[.int .i64 0, .int .i64 cz] 2)).alloc (.cells #[.int .i64 0, .int .i64 0, .int .i64 0] 23)) (w4.heap.size + 1) w4.heap.size 0 0 0 [0, cz]) := ⟨(two_new w4 _ _).2.1, (two_new w4 _ _).1, by have := K4.out.size; omega, below_new (below_new K4.out _) _⟩
    go_upto_region 11 with fail
    generalize ((w4.alloc (.cells #[.int .i64 0, .int .i64 cz] 2)).alloc (.cells #[.int .i64 0, .int .i64 0, .int .i64 0] 23)) = w5 at *
    generalize w4.heap.size + 1 = kb at *
    generalize w4.heap.size = bz at *
    go_wp2
    go_loopw [10, 11, 13, 14] (fun cv u wv i wr => ∃ (j : Nat) (c : Int) (b : Nat) (was : Bool) (y : Int), j ≤ n ∧ i = .int .i64 j ∧ cv = .int .i64 c ∧ u = .slice (some ⟨b, 0, none⟩) 2 2 ∧ wv = .bool was ∧ (-32768 ≤ c ∧ c ≤ 32767) ∧ Lf w wr kb b (b01 was) 0 0 [y, c]) (fun _ _ _ i _ => n - (intOf i).toNat)
    case atStart => exact ⟨0, cz, bz, false, 0, by omega, rfl, rfl, rfl, rfl, hc0, L0.out⟩
    case round =>
      obtain ⟨j, c, b, was, y, hj, rfl, rfl, rfl, rfl, hc, hE⟩ := hrel
      have EV := hid_as hE
      clear hE L0 hc0
      by_cases hjn : j < n
      · have hjn' : (j : Int) < (n : Int) := by omega
        obtain ⟨lb, lo, rfl, hcell⟩ := L.out (by omega)
        have C := hid_as (fun U (k : Below w.heap.size w U) => (⟨by have := (k.cell (p := ⟨lb, lo + j * 3 + 0, none⟩) (lt_of_cell (hcell j 0 hjn (by omega)))).trans (hcell j 0 hjn (by omega)); simpa using this, (k.cell (p := ⟨lb, lo + j * 3 + 1, none⟩) (lt_of_cell (hcell j 1 hjn (by omega)))).trans (hcell j 1 hjn (by omega))⟩ : U.cell? ⟨lb, lo + j * 3, none⟩ = some (.bool (f j 0)) ∧ U.cell? ⟨lb, lo + j * 3 + 1, none⟩ = some (.bool (f j 1))))
        generalize f j 0 = f0 at *
        generalize f j 1 = f1 at *
        clear hcell
        have R0 : Hid (Row64 (wr.alloc (.cells #[.int .i64 0, .int .i64 0, .int .i64 pv] 2)) wr.heap.size (inp f0 f1 pv 0)) := row_new wr (inp f0 f1 pv 0)
        have B0 : Hid (Below wr.heap.size wr (wr.alloc (.cells #[.int .i64 0, .int .i64 0, .int .i64 pv] 2))) := below_new (Below.refl _ _) _
        go_upto_region 15 with fail
        generalize (wr.alloc (.cells #[.int .i64 0, .int .i64 0, .int .i64 pv] 2)) = W0 at *
        obtain ⟨ib, hib⟩ : ∃ ib, ib = wr.heap.size := ⟨_, rfl⟩
        rw [← hib] at R0 ⊢
        have HIB := hid_as hib
        clear hib
        go_wp2
        go_loopw [16] (fun kv wr2 => ∃ kk : Nat, kk ≤ 2 ∧ kv = .int .i64 kk ∧ Row64 wr2 ib (inp f0 f1 pv kk) ∧ Turn ib W0 wr2) (fun kv _ => 2 - (intOf kv).toNat)
        case atStart => exact ⟨0, by omega, rfl, R0.out, Turn.refl _ _⟩
        case round =>
          obtain ⟨kk, hkk, rfl, hR, hT⟩ := hrel
          have R := hid_as hR
          have T := hid_as hT
          have hbi : Hid (b < ib ∧ kb < ib ∧ w.heap.size ≤ ib) := ⟨by rw [HIB.out]; exact row_lt EV.out.row, by rw [HIB.out]; exact EV.out.lt, by rw [HIB.out]; exact EV.out.bl.size⟩
          have LW := hid_as ((EV.out.below B0.out).turn hT (Nat.ne_of_lt hbi.out.2.1) (Nat.ne_of_lt hbi.out.1) hbi.out.2.2)
          obtain ⟨q0, q1⟩ := C.out _ LW.out.bl
          clear hR hT
          have hcc : kk = 0 ∨ kk = 1 ∨ kk = 2 := by omega
          rcases hcc with rfl | rfl | rfl
          · have hz := cell_row (k := 0) R.out rfl
            have hf := frozen_row (k := 0) R.out
            clear C
            cases f0
            · go_wp2
              go_roundw
              case rel => exact ⟨1, by omega, rfl, R.out, T.out⟩
              case measure => simp [intOf]
            · go_wp2
              go_roundw
              case rel => exact ⟨1, by omega, rfl, row_set (j := 0) R.out 1, T.out.set 0 _⟩
              case measure => simp [intOf]
          · have hz := cell_row (k := 1) R.out rfl
            have hf := frozen_row (k := 1) R.out
            clear C
            cases f1
            · go_wp2
              go_roundw
              case rel => exact ⟨2, by omega, rfl, R.out, T.out⟩
              case measure => simp [intOf]
            · go_wp2
              go_roundw
              case rel => exact ⟨2, by omega, rfl, row_set (j := 1) R.out 1, T.out.set 1 _⟩
              case measure => simp [intOf]
          · have RI : Hid (Row64 wr ib [b01 f0, b01 f1, pv]) := R.out
            clear R T C
            cases f1
            · cases f0
              · skip
                have X := hid_as (fun U R kk hk => step_3 (w := U) (r := ⟨[b01 (decide (pv ≤ c)), c], b01 false, 0, 0⟩) (b01 was) 0 0 (j : Int) (row_sl (l := [b01 false, b01 false, pv]) (b := ib) (n := 3) R rfl) rfl (by decide) (row_sl (row_below (show Row64 wr b [y, c] from kk) hk) (n := 2) rfl) rfl (by decide) (by rw [ctu_is hpv hc]; simp [ctu]))
                unfold nm nml tx at X
                have c0 := LW.out.c0
                have c1 := LW.out.c1
                have c2 := LW.out.c2
                go_wp2_with fail
                refine (X.out _ RI.out LW.out.row (Below.refl _ _)).mono ?_
                rintro e w5 ⟨b5, rfl, hb5, r5, k5⟩
                have N := hid_as (LW.out.step (x0 := b01 false) (x1 := 0) (x2 := 0) k5 hb5 r5)
                have L5 := hid_as (LW.out.below k5)
                have d0 := L5.out.c0
                have d1 := L5.out.c1
                have d2 := L5.out.c2
                have dz := L5.out.fz
                clear X k5 r5 hb5 c0 c1 c2 L5
                go_upto_region 30 with fail
                generalize (((w5.setCell ⟨kb, 0, none⟩ (.int .i64 (b01 false))).setCell ⟨kb, 1, none⟩ (.int .i64 0)).setCell ⟨kb, 2, none⟩ (.int .i64 0)) = w6 at *
                have e0 := cell_row (k := 0) N.out.row rfl
                have e1 := cell_row (k := 1) N.out.row rfl
                have hbb : (b01 (decide (pv ≤ c)) == 1) = decide (pv ≤ c) := by cases decide (pv ≤ c) <;> rfl
                generalize b01 (decide (pv ≤ c)) = yy at *
                clear d0 d1 d2 dz
                go_wp2
                go_roundw
                case rel => exact ⟨j + 1, c, b5, false, yy, by omega, by go_num, rfl, rfl, rfl, by omega, N.out⟩
                case measure => simp [intOf]; omega
              · cases was
                · by_cases hcc : c < 32767
                  · have hm : ¬ (32767 : Int) < c + 1 := by omega
                    have X := hid_as (fun U R kk hk => step_3 (w := U) (r := ⟨[b01 (decide (pv ≤ (c + 1))), (c + 1)], b01 true, 0, 0⟩) (b01 false) 0 0 (j : Int) (row_sl (l := [b01 true, b01 false, pv]) (b := ib) (n := 3) R rfl) rfl (by decide) (row_sl (row_below (show Row64 wr b [y, c] from kk) hk) (n := 2) rfl) rfl (by decide) (by rw [ctu_is hpv hc]; simp [ctu, tr, b01]; omega))
                    unfold nm nml tx at X
                    have c0 := LW.out.c0
                    have c1 := LW.out.c1
                    have c2 := LW.out.c2
                    go_wp2_with fail
                    refine (X.out _ RI.out LW.out.row (Below.refl _ _)).mono ?_
                    rintro e w5 ⟨b5, rfl, hb5, r5, k5⟩
                    have N := hid_as (LW.out.step (x0 := b01 true) (x1 := 0) (x2 := 0) k5 hb5 r5)
                    have L5 := hid_as (LW.out.below k5)
                    have d0 := L5.out.c0
                    have d1 := L5.out.c1
                    have d2 := L5.out.c2
                    have dz := L5.out.fz
                    clear X k5 r5 hb5 c0 c1 c2 L5
                    go_upto_region 30 with fail
                    generalize (((w5.setCell ⟨kb, 0, none⟩ (.int .i64 (b01 true))).setCell ⟨kb, 1, none⟩ (.int .i64 0)).setCell ⟨kb, 2, none⟩ (.int .i64 0)) = w6 at *
                    have e0 := cell_row (k := 0) N.out.row rfl
                    have e1 := cell_row (k := 1) N.out.row rfl
                    have hbb : (b01 (decide (pv ≤ (c + 1))) == 1) = decide (pv ≤ (c + 1)) := by cases decide (pv ≤ (c + 1)) <;> rfl
                    generalize b01 (decide (pv ≤ (c + 1))) = yy at *
                    clear d0 d1 d2 dz
                    go_wp2
                    go_roundw
                    case rel => exact ⟨j + 1, (c + 1), b5, true, yy, by omega, by go_num, rfl, rfl, rfl, by omega, N.out⟩
                    case measure => simp [intOf]; omega
                  · obtain rfl : c = 32767 := by omega
                    have X := hid_as (fun U R kk hk => step_3 (w := U) (r := ⟨[b01 (decide (pv ≤ 32767)), 32767], b01 true, 0, 0⟩) (b01 false) 0 0 (j : Int) (row_sl (l := [b01 true, b01 false, pv]) (b := ib) (n := 3) R rfl) rfl (by decide) (row_sl (row_below (show Row64 wr b [y, 32767] from kk) hk) (n := 2) rfl) rfl (by decide) (by rw [ctu_is hpv (by omega)]; simp [ctu, tr, b01, show min (32768 : Int) 32767 = 32767 from rfl]))
                    unfold nm nml tx at X
                    have c0 := LW.out.c0
                    have c1 := LW.out.c1
                    have c2 := LW.out.c2
                    go_wp2_with fail
                    refine (X.out _ RI.out LW.out.row (Below.refl _ _)).mono ?_
                    rintro e w5 ⟨b5, rfl, hb5, r5, k5⟩
                    have N := hid_as (LW.out.step (x0 := b01 true) (x1 := 0) (x2 := 0) k5 hb5 r5)
                    have L5 := hid_as (LW.out.below k5)
                    have d0 := L5.out.c0
                    have d1 := L5.out.c1
                    have d2 := L5.out.c2
                    have dz := L5.out.fz
                    clear X k5 r5 hb5 c0 c1 c2 L5
                    go_upto_region 30 with fail
                    generalize (((w5.setCell ⟨kb, 0, none⟩ (.int .i64 (b01 true))).setCell ⟨kb, 1, none⟩ (.int .i64 0)).setCell ⟨kb, 2, none⟩ (.int .i64 0)) = w6 at *
                    have e0 := cell_row (k := 0) N.out.row rfl
                    have e1 := cell_row (k := 1) N.out.row rfl
                    have hbb : (b01 (decide (pv ≤ 32767)) == 1) = decide (pv ≤ 32767) := by cases decide (pv ≤ 32767) <;> rfl
                    generalize b01 (decide (pv ≤ 32767)) = yy at *
                    clear d0 d1 d2 dz
                    go_wp2
                    go_roundw
                    case rel => exact ⟨j + 1, 32767, b5, true, yy, by omega, by go_num, rfl, rfl, rfl, by omega, N.out⟩
                    case measure => simp [intOf]; omega
                · skip
                  have X := hid_as (fun U R kk hk => step_3 (w := U) (r := ⟨[b01 (decide (pv ≤ c)), c], b01 true, 0, 0⟩) (b01 true) 0 0 (j : Int) (row_sl (l := [b01 true, b01 false, pv]) (b := ib) (n := 3) R rfl) rfl (by decide) (row_sl (row_below (show Row64 wr b [y, c] from kk) hk) (n := 2) rfl) rfl (by decide) (by rw [ctu_is hpv hc]; simp [ctu, tr, b01]))
                  unfold nm nml tx at X
                  have c0 := LW.out.c0
                  have c1 := LW.out.c1
                  have c2 := LW.out.c2
                  go_wp2_with fail
                  refine (X.out _ RI.out LW.out.row (Below.refl _ _)).mono ?_
                  rintro e w5 ⟨b5, rfl, hb5, r5, k5⟩
                  have N := hid_as (LW.out.step (x0 := b01 true) (x1 := 0) (x2 := 0) k5 hb5 r5)
                  have L5 := hid_as (LW.out.below k5)
                  have d0 := L5.out.c0
                  have d1 := L5.out.c1
                  have d2 := L5.out.c2
                  have dz := L5.out.fz
                  clear X k5 r5 hb5 c0 c1 c2 L5
                  go_upto_region 30 with fail
                  generalize (((w5.setCell ⟨kb, 0, none⟩ (.int .i64 (b01 true))).setCell ⟨kb, 1, none⟩ (.int .i64 0)).setCell ⟨kb, 2, none⟩ (.int .i64 0)) = w6 at *
                  have e0 := cell_row (k := 0) N.out.row rfl
                  have e1 := cell_row (k := 1) N.out.row rfl
                  have hbb : (b01 (decide (pv ≤ c)) == 1) = decide (pv ≤ c) := by cases decide (pv ≤ c) <;> rfl
                  generalize b01 (decide (pv ≤ c)) = yy at *
                  clear d0 d1 d2 dz
                  go_wp2
                  go_roundw
                  case rel => exact ⟨j + 1, c, b5, true, yy, by omega, by go_num, rfl, rfl, rfl, by omega, N.out⟩
                  case measure => simp [intOf]; omega
            · skip
              have X := hid_as (fun U R kk hk => step_3 (w := U) (r := ⟨[b01 (decide (pv ≤ 0)), 0], b01 f0, 0, 0⟩) (b01 was) 0 0 (j : Int) (row_sl (l := [b01 f0, b01 true, pv]) (b := ib) (n := 3) R rfl) rfl (by decide) (row_sl (row_below (show Row64 wr b [y, c] from kk) hk) (n := 2) rfl) rfl (by decide) (by rw [ctu_is hpv hc]; simp [ctu]))
              unfold nm nml tx at X
              have c0 := LW.out.c0
              have c1 := LW.out.c1
              have c2 := LW.out.c2
              go_wp2_with fail
              refine (X.out _ RI.out LW.out.row (Below.refl _ _)).mono ?_
              rintro e w5 ⟨b5, rfl, hb5, r5, k5⟩
              have N := hid_as (LW.out.step (x0 := b01 f0) (x1 := 0) (x2 := 0) k5 hb5 r5)
              have L5 := hid_as (LW.out.below k5)
              have d0 := L5.out.c0
              have d1 := L5.out.c1
              have d2 := L5.out.c2
              have dz := L5.out.fz
              clear X k5 r5 hb5 c0 c1 c2 L5
              go_upto_region 30 with fail
              generalize (((w5.setCell ⟨kb, 0, none⟩ (.int .i64 (b01 f0))).setCell ⟨kb, 1, none⟩ (.int .i64 0)).setCell ⟨kb, 2, none⟩ (.int .i64 0)) = w6 at *
              have e0 := cell_row (k := 0) N.out.row rfl
              have e1 := cell_row (k := 1) N.out.row rfl
              have hbb : (b01 (decide (pv ≤ 0)) == 1) = decide (pv ≤ 0) := by cases decide (pv ≤ 0) <;> rfl
              generalize b01 (decide (pv ≤ 0)) = yy at *
              clear d0 d1 d2 dz
              go_wp2
              go_roundw
              case rel => exact ⟨j + 1, 0, b5, f0, yy, by omega, by go_num, rfl, rfl, rfl, by omega, N.out⟩
              case measure => simp [intOf]; omega
      · obtain rfl : j = n := by omega
        have B := hid_as EV.out.bl
        go_wp2
        go_ret
        exact ⟨rfl, B.out⟩
  · have h80' : (80 : Int) < n := by omega
    go_enter Try.func6, Try.ntmps6
    go_wp2_with fail
    refine KN.out.mono ?_
    rintro e w1 ⟨rfl, k1⟩
    go_wp2
    go_ret
    exact ⟨rfl, k1⟩
set_option maxRecDepth 100000 in
set_option maxHeartbeats 8000000 in
theorem counts_4 {w : World} {la : Option Addr} {n lc : Nat} {f : Nat → Nat → Bool} (wh pv0 first : Int) (hwh : wh % 2 = 1) (hL : Bl w la 3 n f) (hn9 : n ≤ 9223372036854775807) :
    Calls Try.prog 6 #[.int .i64 wh, .slice la n lc, .int .i64 pv0, .int .i64 first] w fun e w' => e = .returned (.bool true) ∧ Below w.heap.size w w' := by
  have L := hid_as hL
  have KN := hid_as (known_c w)
  have PL := hid_as (fun U => place_2 wh U)
  rw [hwh] at PL
  clear hL hwh
  by_cases h80 : n ≤ 80
  · have h80' : ¬ (80 : Int) < n := by omega
    go_enter Try.func6, Try.ntmps6
    go_wp2_with fail
    refine KN.out.mono ?_
    rintro e w1 ⟨rfl, k1⟩
    have K1 := hid_as k1
    clear KN k1
    go_wp2_with fail
    refine (PL.out _).mono ?_
    rintro e w' ⟨rfl, hw⟩
    subst w'
    clear PL
    have KA : Hid (Below w.heap.size w (w1.alloc (.cells #[.string ⟨#[67, 84, 85]⟩, .string ⟨#[67, 84, 68]⟩] 9))) := below_new K1.out _
    go_upto_region 6 with fail
    generalize (w1.alloc (.cells #[.string ⟨#[67, 84, 85]⟩, .string ⟨#[67, 84, 68]⟩] 9)) = w2 at *
    have WR := hid_as (rwrap_3 pv0 w2)
    go_wp2_with fail
    refine WR.out.mono ?_
    rintro e w3 ⟨rfl, k3⟩
    have K3 := hid_as (below_and KA.out k3)
    have WS := hid_as (rwrap_3 first w3)
    clear WR KA k3 K1
    go_wp2_with fail
    refine WS.out.mono ?_
    rintro e w4 ⟨rfl, k4⟩
    have K4 := hid_as (below_and K3.out k4)
    have hpv := w16_ok pv0
    have hc0 := w16_ok first
    generalize w16 pv0 = pv at *
    generalize w16 first = cz at *
    clear WS K3 k4
    have L0 : Hid (Lf w ((w4.alloc (.cells #[.int .i64 0, .int .i64 cz] 2)).alloc (.cells #[.int .i64 0, .int .i64 0, .int .i64 0] 23)) (w4.heap.size + 1) w4.heap.size 0 0 0 [0, cz]) := ⟨(two_new w4 _ _).2.1, (two_new w4 _ _).1, by have := K4.out.size; omega, below_new (below_new K4.out _) _⟩
    go_upto_region 11 with fail
    generalize ((w4.alloc (.cells #[.int .i64 0, .int .i64 cz] 2)).alloc (.cells #[.int .i64 0, .int .i64 0, .int .i64 0] 23)) = w5 at *
    generalize w4.heap.size + 1 = kb at *
    generalize w4.heap.size = bz at *
    go_wp2
    go_loopw [10, 11, 13, 14] (fun cv u wv i wr => ∃ (j : Nat) (c : Int) (b : Nat) (was : Bool) (y : Int), j ≤ n ∧ i = .int .i64 j ∧ cv = .int .i64 c ∧ u = .slice (some ⟨b, 0, none⟩) 2 2 ∧ wv = .bool was ∧ (-32768 ≤ c ∧ c ≤ 32767) ∧ Lf w wr kb b (b01 was) 0 0 [y, c]) (fun _ _ _ i _ => n - (intOf i).toNat)
    case atStart => exact ⟨0, cz, bz, false, 0, by omega, rfl, rfl, rfl, rfl, hc0, L0.out⟩
    case round =>
      obtain ⟨j, c, b, was, y, hj, rfl, rfl, rfl, rfl, hc, hE⟩ := hrel
      have EV := hid_as hE
      clear hE L0 hc0
      by_cases hjn : j < n
      · have hjn' : (j : Int) < (n : Int) := by omega
        obtain ⟨lb, lo, rfl, hcell⟩ := L.out (by omega)
        have C := hid_as (fun U (k : Below w.heap.size w U) => (⟨by have := (k.cell (p := ⟨lb, lo + j * 3 + 0, none⟩) (lt_of_cell (hcell j 0 hjn (by omega)))).trans (hcell j 0 hjn (by omega)); simpa using this, (k.cell (p := ⟨lb, lo + j * 3 + 1, none⟩) (lt_of_cell (hcell j 1 hjn (by omega)))).trans (hcell j 1 hjn (by omega))⟩ : U.cell? ⟨lb, lo + j * 3, none⟩ = some (.bool (f j 0)) ∧ U.cell? ⟨lb, lo + j * 3 + 1, none⟩ = some (.bool (f j 1))))
        generalize f j 0 = f0 at *
        generalize f j 1 = f1 at *
        clear hcell
        have R0 : Hid (Row64 (wr.alloc (.cells #[.int .i64 0, .int .i64 0, .int .i64 pv] 2)) wr.heap.size (inp f0 f1 pv 0)) := row_new wr (inp f0 f1 pv 0)
        have B0 : Hid (Below wr.heap.size wr (wr.alloc (.cells #[.int .i64 0, .int .i64 0, .int .i64 pv] 2))) := below_new (Below.refl _ _) _
        go_upto_region 15 with fail
        generalize (wr.alloc (.cells #[.int .i64 0, .int .i64 0, .int .i64 pv] 2)) = W0 at *
        obtain ⟨ib, hib⟩ : ∃ ib, ib = wr.heap.size := ⟨_, rfl⟩
        rw [← hib] at R0 ⊢
        have HIB := hid_as hib
        clear hib
        go_wp2
        go_loopw [16] (fun kv wr2 => ∃ kk : Nat, kk ≤ 2 ∧ kv = .int .i64 kk ∧ Row64 wr2 ib (inp f0 f1 pv kk) ∧ Turn ib W0 wr2) (fun kv _ => 2 - (intOf kv).toNat)
        case atStart => exact ⟨0, by omega, rfl, R0.out, Turn.refl _ _⟩
        case round =>
          obtain ⟨kk, hkk, rfl, hR, hT⟩ := hrel
          have R := hid_as hR
          have T := hid_as hT
          have hbi : Hid (b < ib ∧ kb < ib ∧ w.heap.size ≤ ib) := ⟨by rw [HIB.out]; exact row_lt EV.out.row, by rw [HIB.out]; exact EV.out.lt, by rw [HIB.out]; exact EV.out.bl.size⟩
          have LW := hid_as ((EV.out.below B0.out).turn hT (Nat.ne_of_lt hbi.out.2.1) (Nat.ne_of_lt hbi.out.1) hbi.out.2.2)
          obtain ⟨q0, q1⟩ := C.out _ LW.out.bl
          clear hR hT
          have hcc : kk = 0 ∨ kk = 1 ∨ kk = 2 := by omega
          rcases hcc with rfl | rfl | rfl
          · have hz := cell_row (k := 0) R.out rfl
            have hf := frozen_row (k := 0) R.out
            clear C
            cases f0
            · go_wp2
              go_roundw
              case rel => exact ⟨1, by omega, rfl, R.out, T.out⟩
              case measure => simp [intOf]
            · go_wp2
              go_roundw
              case rel => exact ⟨1, by omega, rfl, row_set (j := 0) R.out 1, T.out.set 0 _⟩
              case measure => simp [intOf]
          · have hz := cell_row (k := 1) R.out rfl
            have hf := frozen_row (k := 1) R.out
            clear C
            cases f1
            · go_wp2
              go_roundw
              case rel => exact ⟨2, by omega, rfl, R.out, T.out⟩
              case measure => simp [intOf]
            · go_wp2
              go_roundw
              case rel => exact ⟨2, by omega, rfl, row_set (j := 1) R.out 1, T.out.set 1 _⟩
              case measure => simp [intOf]
          · have RI : Hid (Row64 wr ib [b01 f0, b01 f1, pv]) := R.out
            clear R T C
            cases f1
            · cases f0
              · skip
                have X := hid_as (fun U R kk hk => step_4 (w := U) (r := ⟨[b01 (decide (c ≤ 0)), c], b01 false, 0, 0⟩) (b01 was) 0 0 (j : Int) (row_sl (l := [b01 false, b01 false, pv]) (b := ib) (n := 3) R rfl) rfl (by decide) (row_sl (row_below (show Row64 wr b [y, c] from kk) hk) (n := 2) rfl) rfl (by decide) (by rw [ctd_is hpv hc]; simp [ctd]))
                unfold nm nml tx at X
                have c0 := LW.out.c0
                have c1 := LW.out.c1
                have c2 := LW.out.c2
                go_wp2_with fail
                refine (X.out _ RI.out LW.out.row (Below.refl _ _)).mono ?_
                rintro e w5 ⟨b5, rfl, hb5, r5, k5⟩
                have N := hid_as (LW.out.step (x0 := b01 false) (x1 := 0) (x2 := 0) k5 hb5 r5)
                have L5 := hid_as (LW.out.below k5)
                have d0 := L5.out.c0
                have d1 := L5.out.c1
                have d2 := L5.out.c2
                have dz := L5.out.fz
                clear X k5 r5 hb5 c0 c1 c2 L5
                go_upto_region 30 with fail
                generalize (((w5.setCell ⟨kb, 0, none⟩ (.int .i64 (b01 false))).setCell ⟨kb, 1, none⟩ (.int .i64 0)).setCell ⟨kb, 2, none⟩ (.int .i64 0)) = w6 at *
                have e0 := cell_row (k := 0) N.out.row rfl
                have e1 := cell_row (k := 1) N.out.row rfl
                have hbb : (b01 (decide (c ≤ 0)) == 1) = decide (c ≤ 0) := by cases decide (c ≤ 0) <;> rfl
                generalize b01 (decide (c ≤ 0)) = yy at *
                clear d0 d1 d2 dz
                go_wp2
                go_roundw
                case rel => exact ⟨j + 1, c, b5, false, yy, by omega, by go_num, rfl, rfl, rfl, by omega, N.out⟩
                case measure => simp [intOf]; omega
              · cases was
                · by_cases hcc : -32768 < c
                  · have hm : ¬ c - 1 < (-32768 : Int) := by omega
                    have X := hid_as (fun U R kk hk => step_4 (w := U) (r := ⟨[b01 (decide ((c - 1) ≤ 0)), (c - 1)], b01 true, 0, 0⟩) (b01 false) 0 0 (j : Int) (row_sl (l := [b01 true, b01 false, pv]) (b := ib) (n := 3) R rfl) rfl (by decide) (row_sl (row_below (show Row64 wr b [y, c] from kk) hk) (n := 2) rfl) rfl (by decide) (by rw [ctd_is hpv hc]; simp [ctd, tr, b01]; omega))
                    unfold nm nml tx at X
                    have c0 := LW.out.c0
                    have c1 := LW.out.c1
                    have c2 := LW.out.c2
                    go_wp2_with fail
                    refine (X.out _ RI.out LW.out.row (Below.refl _ _)).mono ?_
                    rintro e w5 ⟨b5, rfl, hb5, r5, k5⟩
                    have N := hid_as (LW.out.step (x0 := b01 true) (x1 := 0) (x2 := 0) k5 hb5 r5)
                    have L5 := hid_as (LW.out.below k5)
                    have d0 := L5.out.c0
                    have d1 := L5.out.c1
                    have d2 := L5.out.c2
                    have dz := L5.out.fz
                    clear X k5 r5 hb5 c0 c1 c2 L5
                    go_upto_region 30 with fail
                    generalize (((w5.setCell ⟨kb, 0, none⟩ (.int .i64 (b01 true))).setCell ⟨kb, 1, none⟩ (.int .i64 0)).setCell ⟨kb, 2, none⟩ (.int .i64 0)) = w6 at *
                    have e0 := cell_row (k := 0) N.out.row rfl
                    have e1 := cell_row (k := 1) N.out.row rfl
                    have hbb : (b01 (decide ((c - 1) ≤ 0)) == 1) = decide ((c - 1) ≤ 0) := by cases decide ((c - 1) ≤ 0) <;> rfl
                    generalize b01 (decide ((c - 1) ≤ 0)) = yy at *
                    clear d0 d1 d2 dz
                    go_wp2
                    go_roundw
                    case rel => exact ⟨j + 1, (c - 1), b5, true, yy, by omega, by go_num, rfl, rfl, rfl, by omega, N.out⟩
                    case measure => simp [intOf]; omega
                  · obtain rfl : c = -32768 := by omega
                    have X := hid_as (fun U R kk hk => step_4 (w := U) (r := ⟨[b01 (decide ((-32768) ≤ 0)), (-32768)], b01 true, 0, 0⟩) (b01 false) 0 0 (j : Int) (row_sl (l := [b01 true, b01 false, pv]) (b := ib) (n := 3) R rfl) rfl (by decide) (row_sl (row_below (show Row64 wr b [y, -32768] from kk) hk) (n := 2) rfl) rfl (by decide) (by rw [ctd_is hpv (by omega)]; simp [ctd, tr, b01, show max (-32769 : Int) (-32768) = -32768 from rfl]))
                    unfold nm nml tx at X
                    have c0 := LW.out.c0
                    have c1 := LW.out.c1
                    have c2 := LW.out.c2
                    go_wp2_with fail
                    refine (X.out _ RI.out LW.out.row (Below.refl _ _)).mono ?_
                    rintro e w5 ⟨b5, rfl, hb5, r5, k5⟩
                    have N := hid_as (LW.out.step (x0 := b01 true) (x1 := 0) (x2 := 0) k5 hb5 r5)
                    have L5 := hid_as (LW.out.below k5)
                    have d0 := L5.out.c0
                    have d1 := L5.out.c1
                    have d2 := L5.out.c2
                    have dz := L5.out.fz
                    clear X k5 r5 hb5 c0 c1 c2 L5
                    go_upto_region 30 with fail
                    generalize (((w5.setCell ⟨kb, 0, none⟩ (.int .i64 (b01 true))).setCell ⟨kb, 1, none⟩ (.int .i64 0)).setCell ⟨kb, 2, none⟩ (.int .i64 0)) = w6 at *
                    have e0 := cell_row (k := 0) N.out.row rfl
                    have e1 := cell_row (k := 1) N.out.row rfl
                    have hbb : (b01 (decide ((-32768) ≤ 0)) == 1) = decide ((-32768) ≤ 0) := by cases decide ((-32768) ≤ 0) <;> rfl
                    generalize b01 (decide ((-32768) ≤ 0)) = yy at *
                    clear d0 d1 d2 dz
                    go_wp2
                    go_roundw
                    case rel => exact ⟨j + 1, (-32768), b5, true, yy, by omega, by go_num, rfl, rfl, rfl, by omega, N.out⟩
                    case measure => simp [intOf]; omega
                · skip
                  have X := hid_as (fun U R kk hk => step_4 (w := U) (r := ⟨[b01 (decide (c ≤ 0)), c], b01 true, 0, 0⟩) (b01 true) 0 0 (j : Int) (row_sl (l := [b01 true, b01 false, pv]) (b := ib) (n := 3) R rfl) rfl (by decide) (row_sl (row_below (show Row64 wr b [y, c] from kk) hk) (n := 2) rfl) rfl (by decide) (by rw [ctd_is hpv hc]; simp [ctd, tr, b01]))
                  unfold nm nml tx at X
                  have c0 := LW.out.c0
                  have c1 := LW.out.c1
                  have c2 := LW.out.c2
                  go_wp2_with fail
                  refine (X.out _ RI.out LW.out.row (Below.refl _ _)).mono ?_
                  rintro e w5 ⟨b5, rfl, hb5, r5, k5⟩
                  have N := hid_as (LW.out.step (x0 := b01 true) (x1 := 0) (x2 := 0) k5 hb5 r5)
                  have L5 := hid_as (LW.out.below k5)
                  have d0 := L5.out.c0
                  have d1 := L5.out.c1
                  have d2 := L5.out.c2
                  have dz := L5.out.fz
                  clear X k5 r5 hb5 c0 c1 c2 L5
                  go_upto_region 30 with fail
                  generalize (((w5.setCell ⟨kb, 0, none⟩ (.int .i64 (b01 true))).setCell ⟨kb, 1, none⟩ (.int .i64 0)).setCell ⟨kb, 2, none⟩ (.int .i64 0)) = w6 at *
                  have e0 := cell_row (k := 0) N.out.row rfl
                  have e1 := cell_row (k := 1) N.out.row rfl
                  have hbb : (b01 (decide (c ≤ 0)) == 1) = decide (c ≤ 0) := by cases decide (c ≤ 0) <;> rfl
                  generalize b01 (decide (c ≤ 0)) = yy at *
                  clear d0 d1 d2 dz
                  go_wp2
                  go_roundw
                  case rel => exact ⟨j + 1, c, b5, true, yy, by omega, by go_num, rfl, rfl, rfl, by omega, N.out⟩
                  case measure => simp [intOf]; omega
            · skip
              have X := hid_as (fun U R kk hk => step_4 (w := U) (r := ⟨[b01 (decide (pv ≤ 0)), pv], b01 f0, 0, 0⟩) (b01 was) 0 0 (j : Int) (row_sl (l := [b01 f0, b01 true, pv]) (b := ib) (n := 3) R rfl) rfl (by decide) (row_sl (row_below (show Row64 wr b [y, c] from kk) hk) (n := 2) rfl) rfl (by decide) (by rw [ctd_is hpv hc]; simp [ctd]))
              unfold nm nml tx at X
              have c0 := LW.out.c0
              have c1 := LW.out.c1
              have c2 := LW.out.c2
              go_wp2_with fail
              refine (X.out _ RI.out LW.out.row (Below.refl _ _)).mono ?_
              rintro e w5 ⟨b5, rfl, hb5, r5, k5⟩
              have N := hid_as (LW.out.step (x0 := b01 f0) (x1 := 0) (x2 := 0) k5 hb5 r5)
              have L5 := hid_as (LW.out.below k5)
              have d0 := L5.out.c0
              have d1 := L5.out.c1
              have d2 := L5.out.c2
              have dz := L5.out.fz
              clear X k5 r5 hb5 c0 c1 c2 L5
              go_upto_region 30 with fail
              generalize (((w5.setCell ⟨kb, 0, none⟩ (.int .i64 (b01 f0))).setCell ⟨kb, 1, none⟩ (.int .i64 0)).setCell ⟨kb, 2, none⟩ (.int .i64 0)) = w6 at *
              have e0 := cell_row (k := 0) N.out.row rfl
              have e1 := cell_row (k := 1) N.out.row rfl
              have hbb : (b01 (decide (pv ≤ 0)) == 1) = decide (pv ≤ 0) := by cases decide (pv ≤ 0) <;> rfl
              generalize b01 (decide (pv ≤ 0)) = yy at *
              clear d0 d1 d2 dz
              go_wp2
              go_roundw
              case rel => exact ⟨j + 1, pv, b5, f0, yy, by omega, by go_num, rfl, rfl, rfl, by omega, N.out⟩
              case measure => simp [intOf]; omega
      · obtain rfl : j = n := by omega
        have B := hid_as EV.out.bl
        go_wp2
        go_ret
        exact ⟨rfl, B.out⟩
  · have h80' : (80 : Int) < n := by omega
    go_enter Try.func6, Try.ntmps6
    go_wp2_with fail
    refine KN.out.mono ?_
    rintro e w1 ⟨rfl, k1⟩
    go_wp2
    go_ret
    exact ⟨rfl, k1⟩
theorem counts_w {w : World} {la : Option Addr} {n lc : Nat} {f : Nat → Nat → Bool} (wh pv0 first : Int) (hL : Bl w la 3 n f) (hn9 : n ≤ 9223372036854775807) :
    Calls Try.prog 6 #[.int .i64 wh, .slice la n lc, .int .i64 pv0, .int .i64 first] w fun e w' => e = .returned (.bool true) ∧ Below w.heap.size w w' := by
  have h : wh % 2 = 0 ∨ wh % 2 = 1 := by omega
  rcases h with h | h
  · exact counts_3 wh pv0 first h hL hn9
  · exact counts_4 wh pv0 first h hL hn9
end Go.Proofs.Ytbpnaenineinmaa
