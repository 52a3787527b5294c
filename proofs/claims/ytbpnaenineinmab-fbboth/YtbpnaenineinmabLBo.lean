/- The law of a counter both ways (stage 17). -/
import Derived.Test.YtbpnaenineinmabP1
import Derived.Test.YtbpnaenineinmabFF5
import Derived.Deep.CutRange
import Derived.Deep.CutBlock
namespace Go.Proofs.Ytbpnaenineinmab
open Go.RowKit
open Fb
def inq (f0 f1 f2 f3 : Bool) (pv : Int) (k : Nat) : List Int := [if 0 < k then b01 f0 else 0, if 1 < k then b01 f1 else 0, if 2 < k then b01 f2 else 0, if 3 < k then b01 f3 else 0, pv]
def cnt (r l up dn : Bool) (pv cv : Int) : Int := if r then 0 else if l then pv else if up && !dn then min (cv + 1) 32767 else if dn && !up then max (cv - 1) (-32768) else cv
theorem cnt_ok {r l up dn : Bool} {pv cv : Int} (hp : -32768 ≤ pv ∧ pv ≤ 32767) (hc : -32768 ≤ cv ∧ cv ≤ 32767) : -32768 ≤ cnt r l up dn pv cv ∧ cnt r l up dn pv cv ≤ 32767 := by
  unfold cnt
  split
  · omega
  split
  · omega
  split
  · omega
  split
  · omega
  · omega
theorem ctud_is {f0 f1 f2 f3 up dn : Bool} {pv c y z t C : Int} (hp : -32768 ≤ pv ∧ pv ≤ 32767) (hc : -32768 ≤ c ∧ c ≤ 32767) (hC : C = cnt f2 f3 (f0 && !up) (f1 && !dn) pv c) : (⟨[b01 (decide (pv ≤ C)), b01 (decide (C ≤ 0)), C], b01 f0, b01 f1, 0⟩ : Rs) = stp 5 [b01 f0, b01 f1, b01 f2, b01 f3, pv] [y, z, c] (b01 up) (b01 dn) 0 t := by
  simp only [stp, List.getD_cons_zero, List.getD_cons_succ]
  rw [w16_is hp.1 hp.2, w16_is hc.1 hc.2, show w32 0 = 0 from rfl]
  subst hC
  have e : ∀ b : Bool, tr (b01 b) = b := fun b => by cases b <;> rfl
  have e2 : ∀ b : Bool, tr (w32 (b01 b)) = b := fun b => by cases b <;> rfl
  simp only [e, e2, ctud, cnt]
  rfl
theorem Lf.same {w wr u : World} {kb b : Nat} {k0 k1 k2 : Int} {l : List Int} (h : Lf w wr kb b k0 k1 k2 l) (k : Same wr u) : Lf w u kb b k0 k1 k2 l := h.below k.below
set_option maxRecDepth 100000 in
set_option maxHeartbeats 8000000 in
theorem both_w {w : World} {la : Option Addr} {n lc : Nat} {f : Nat → Nat → Bool} (pv0 first : Int) (hL : Bl w la 4 n f) (hn9 : n ≤ 9223372036854775807) :
    Calls Try.prog 3 #[.slice la n lc, .int .i64 pv0, .int .i64 first] w fun e w' => e = .returned (.bool true) ∧ Below w.heap.size w w' := by
  have L := hid_as hL
  have KN := hid_as (known_c w)
  clear hL
  by_cases h80 : n ≤ 80
  · have h80' : ¬ (80 : Int) < n := by omega
    go_enter Try.func3, Try.ntmps3
    go_wp2_with fail
    refine KN.out.mono ?_
    rintro e w2 ⟨rfl, k1⟩
    have KA := hid_as k1
    clear KN k1
    have WR := hid_as (rwrap_3 pv0 w2)
    go_wp2_with fail
    refine WR.out.mono ?_
    rintro e w3 ⟨rfl, k3⟩
    have K3 := hid_as (below_and KA.out k3)
    have WS := hid_as (rwrap_3 first w3)
    clear WR KA k3
    go_wp2_with fail
    refine WS.out.mono ?_
    rintro e w4 ⟨rfl, k4⟩
    have K4 := hid_as (below_and K3.out k4)
    have hpv := w16_ok pv0
    have hc0 := w16_ok first
    generalize w16 pv0 = pv at *
    generalize w16 first = cz at *
    clear WS K3 k4
    have L0 : Hid (Lf w ((w4.alloc (.cells #[.int .i64 0, .int .i64 0, .int .i64 cz] 2)).alloc (.cells #[.int .i64 0, .int .i64 0, .int .i64 0] 26)) (w4.heap.size + 1) w4.heap.size 0 0 0 [0, 0, cz]) := ⟨(two_new w4 _ _).2.1, (two_new w4 _ _).1, by have := K4.out.size; omega, below_new (below_new K4.out _) _⟩
    go_upto_region 9 with fail
    generalize ((w4.alloc (.cells #[.int .i64 0, .int .i64 0, .int .i64 cz] 2)).alloc (.cells #[.int .i64 0, .int .i64 0, .int .i64 0] 26)) = w5 at *
    generalize w4.heap.size + 1 = kb at *
    generalize w4.heap.size = bz at *
    go_wp2
    go_loopw [7, 8, 10, 11, 12] (fun cv u upv dnv i wr => ∃ (j : Nat) (c : Int) (b : Nat) (up dn : Bool) (y z : Int), j ≤ n ∧ i = .int .i64 j ∧ cv = .int .i64 c ∧ u = .slice (some ⟨b, 0, none⟩) 3 3 ∧ upv = .bool up ∧ dnv = .bool dn ∧ (-32768 ≤ c ∧ c ≤ 32767) ∧ Lf w wr kb b (b01 up) (b01 dn) 0 [y, z, c]) (fun _ _ _ _ i _ => n - (intOf i).toNat)
    case atStart => exact ⟨0, cz, bz, false, false, 0, 0, by omega, rfl, rfl, rfl, rfl, rfl, hc0, L0.out⟩
    case round =>
      obtain ⟨j, c, b, up, dn, y, z, hj, rfl, rfl, rfl, rfl, rfl, hc, hE⟩ := hrel
      have EV := hid_as hE
      clear hE L0 hc0
      by_cases hjn : j < n
      · have hjn' : (j : Int) < (n : Int) := by omega
        obtain ⟨lb, lo, rfl, hcell⟩ := L.out (by omega)
        have C := hid_as (fun U (k : Below w.heap.size w U) => (⟨by have := (k.cell (p := ⟨lb, lo + j * 4 + 0, none⟩) (lt_of_cell (hcell j 0 hjn (by omega)))).trans (hcell j 0 hjn (by omega)); simpa using this, (k.cell (p := ⟨lb, lo + j * 4 + 1, none⟩) (lt_of_cell (hcell j 1 hjn (by omega)))).trans (hcell j 1 hjn (by omega)), (k.cell (p := ⟨lb, lo + j * 4 + 2, none⟩) (lt_of_cell (hcell j 2 hjn (by omega)))).trans (hcell j 2 hjn (by omega)), (k.cell (p := ⟨lb, lo + j * 4 + 3, none⟩) (lt_of_cell (hcell j 3 hjn (by omega)))).trans (hcell j 3 hjn (by omega))⟩ : U.cell? ⟨lb, lo + j * 4, none⟩ = some (.bool (f j 0)) ∧ U.cell? ⟨lb, lo + j * 4 + 1, none⟩ = some (.bool (f j 1)) ∧ U.cell? ⟨lb, lo + j * 4 + 2, none⟩ = some (.bool (f j 2)) ∧ U.cell? ⟨lb, lo + j * 4 + 3, none⟩ = some (.bool (f j 3))))
        generalize f j 0 = f0 at *
        generalize f j 1 = f1 at *
        generalize f j 2 = f2 at *
        generalize f j 3 = f3 at *
        clear hcell
        have R0 : Hid (Row64 (wr.alloc (.cells #[.int .i64 0, .int .i64 0, .int .i64 0, .int .i64 0, .int .i64 pv] 2)) wr.heap.size (inq f0 f1 f2 f3 pv 0)) := row_new wr (inq f0 f1 f2 f3 pv 0)
        have B0 : Hid (Below wr.heap.size wr (wr.alloc (.cells #[.int .i64 0, .int .i64 0, .int .i64 0, .int .i64 0, .int .i64 pv] 2))) := below_new (Below.refl _ _) _
        go_upto_region 14 with fail
        generalize (wr.alloc (.cells #[.int .i64 0, .int .i64 0, .int .i64 0, .int .i64 0, .int .i64 pv] 2)) = W0 at *
        obtain ⟨ib, hib⟩ : ∃ ib, ib = wr.heap.size := ⟨_, rfl⟩
        rw [← hib] at R0 ⊢
        have HIB := hid_as hib
        clear hib
        go_wp2
        go_loopw [14] (fun kv wr2 => ∃ kk : Nat, kk ≤ 4 ∧ kv = .int .i64 kk ∧ Row64 wr2 ib (inq f0 f1 f2 f3 pv kk) ∧ Turn ib W0 wr2) (fun kv _ => 4 - (intOf kv).toNat)
        case atStart => exact ⟨0, by omega, rfl, R0.out, Turn.refl _ _⟩
        case round =>
          obtain ⟨kk, hkk, rfl, hR, hT⟩ := hrel
          have R := hid_as hR
          have T := hid_as hT
          have hbi : Hid (b < ib ∧ kb < ib ∧ w.heap.size ≤ ib) := ⟨by rw [HIB.out]; exact row_lt EV.out.row, by rw [HIB.out]; exact EV.out.lt, by rw [HIB.out]; exact EV.out.bl.size⟩
          have LW := hid_as ((EV.out.below B0.out).turn hT (Nat.ne_of_lt hbi.out.2.1) (Nat.ne_of_lt hbi.out.1) hbi.out.2.2)
          obtain ⟨q0, q1, q2, q3⟩ := C.out _ LW.out.bl
          clear hR hT
          have hcc : kk = 0 ∨ kk = 1 ∨ kk = 2 ∨ kk = 3 ∨ kk = 4 := by omega
          rcases hcc with rfl | rfl | rfl | rfl | rfl
          · have hz := cell_row (k := 0) R.out rfl
            have hf := frozen_row (k := 0) R.out
            clear C
            cases f0
            · go_wp2
              go_roundw
              case rel => exact ⟨1, by omega, rfl, R.out, T.out⟩
              case measure => simp [intOf]
            · go_wp2
              go_roundw
              case rel => exact ⟨1, by omega, rfl, row_set (j := 0) R.out 1, T.out.set 0 _⟩
              case measure => simp [intOf]
          · have hz := cell_row (k := 1) R.out rfl
            have hf := frozen_row (k := 1) R.out
            clear C
            cases f1
            · go_wp2
              go_roundw
              case rel => exact ⟨2, by omega, rfl, R.out, T.out⟩
              case measure => simp [intOf]
            · go_wp2
              go_roundw
              case rel => exact ⟨2, by omega, rfl, row_set (j := 1) R.out 1, T.out.set 1 _⟩
              case measure => simp [intOf]
          · have hz := cell_row (k := 2) R.out rfl
            have hf := frozen_row (k := 2) R.out
            clear C
            cases f2
            · go_wp2
              go_roundw
              case rel => exact ⟨3, by omega, rfl, R.out, T.out⟩
              case measure => simp [intOf]
            · go_wp2
              go_roundw
              case rel => exact ⟨3, by omega, rfl, row_set (j := 2) R.out 1, T.out.set 2 _⟩
              case measure => simp [intOf]
          · have hz := cell_row (k := 3) R.out rfl
            have hf := frozen_row (k := 3) R.out
            clear C
            cases f3
            · go_wp2
              go_roundw
              case rel => exact ⟨4, by omega, rfl, R.out, T.out⟩
              case measure => simp [intOf]
            · go_wp2
              go_roundw
              case rel => exact ⟨4, by omega, rfl, row_set (j := 3) R.out 1, T.out.set 3 _⟩
              case measure => simp [intOf]
          · have RI : Hid (Row64 wr ib [b01 f0, b01 f1, b01 f2, b01 f3, pv]) := R.out
            clear R T
            go_upto_region 19 with fail
            go_cut [15, 16] from 50 to 67 (fun a b wx => a = .bool (f0 && !up) ∧ b = .bool (f1 && !dn) ∧ Same wr wx)
            case first =>
              clear q2 q3 C
              cases f0 <;> cases f1
              all_goals
                go_quiet (fail)
                go_wp2
                go_meet
                exact ⟨by simp, by simp, Same.drewN _ _⟩
            case rest =>
              obtain ⟨rfl, rfl, hS⟩ := hcut
              have LX := hid_as (LW.out.same hS)
              have RX : Hid (Row64 wc ib [b01 f0, b01 f1, b01 f2, b01 f3, pv]) := row_below RI.out hS.below
              clear RI LW hS q0 q1 q2 q3
              obtain ⟨q0, q1, q2, q3⟩ := C.out _ LX.out.bl
              obtain ⟨ua, hua⟩ : ∃ ua, ua = (f0 && !up) := ⟨_, rfl⟩
              obtain ⟨ub, hub⟩ : ∃ ub, ub = (f1 && !dn) := ⟨_, rfl⟩
              rw [← hua, ← hub]
              obtain ⟨c2, hc2⟩ : ∃ c2, c2 = cnt f2 f3 ua ub pv c := ⟨_, rfl⟩
              have hok : -32768 ≤ c2 ∧ c2 ≤ 32767 := by rw [hc2]; exact cnt_ok hpv hc
              have ST := hid_as (fun t => ctud_is (y := y) (z := z) (t := t) (C := c2) hpv hc (by rw [hc2, hua, hub]))
              have HC := hid_as hc2
              clear hua hub hc2
              go_upto_block 4 with fail
              go_cut [7] from 68 to 98 (fun cv wz => cv = .int .i64 c2 ∧ wz = wc)
              case first =>
                clear q0 q1 C
                cases f2
                · cases f3
                  · cases ua <;> cases ub
                    · go_wp2
                      go_meet
                      exact ⟨int_is (by rw [HC.out]; rfl), rfl⟩
                    · by_cases hcc : -32768 < c
                      · have hm : ¬ c - 1 < (-32768 : Int) := by omega
                        go_wp2
                        go_meet
                        exact ⟨int_is (by rw [HC.out]; simp [cnt]; omega), rfl⟩
                      · obtain rfl : c = -32768 := by omega
                        go_wp2
                        go_meet
                        exact ⟨int_is (by rw [HC.out]; rfl), rfl⟩
                    · by_cases hcc : c < 32767
                      · have hm : ¬ (32767 : Int) < c + 1 := by omega
                        go_wp2
                        go_meet
                        exact ⟨int_is (by rw [HC.out]; simp [cnt]; omega), rfl⟩
                      · obtain rfl : c = 32767 := by omega
                        go_wp2
                        go_meet
                        exact ⟨int_is (by rw [HC.out]; rfl), rfl⟩
                    · go_wp2
                      go_meet
                      exact ⟨int_is (by rw [HC.out]; rfl), rfl⟩
                  · go_wp2
                    go_meet
                    exact ⟨int_is (by rw [HC.out]; rfl), rfl⟩
                · go_wp2
                  go_meet
                  exact ⟨int_is (by rw [HC.out]; rfl), rfl⟩
              case rest =>
                obtain ⟨rfl, hwz⟩ := hcut
                subst hwz
                clear HC
                go_upto_region 28 with fail
                rename World => V1
                go_cut [10, 11] from 99 to 108 (fun a b wx => a = .bool f0 ∧ b = .bool f1 ∧ Same V1 wx)
                case first =>
                  clear q2 q3 C
                  go_quiet (fail)
                  go_wp2
                  go_meet
                  exact ⟨rfl, rfl, Same.drewN _ _⟩
                case rest =>
                  obtain ⟨rfl, rfl, hS⟩ := hcut
                  have LZ := hid_as (LX.out.same hS)
                  have RZ : Hid (Row64 wc ib [b01 f0, b01 f1, b01 f2, b01 f3, pv]) := row_below RX.out hS.below
                  clear LX RX hS q0 q1 q2 q3 C
                  have X := hid_as (step_5 (r := ⟨[b01 (decide (pv ≤ c2)), b01 (decide (c2 ≤ 0)), c2], b01 f0, b01 f1, 0⟩) (b01 up) (b01 dn) 0 0 (row_sl RZ.out (n := 5) rfl) rfl (by decide) (row_sl LZ.out.row (n := 3) rfl) rfl (by decide) (ST.out 0))
                  unfold nm nml tx at X
                  have p0 := LZ.out.c0
                  have p1 := LZ.out.c1
                  have p2 := LZ.out.c2
                  clear ST
                  go_wp2_with fail
                  refine X.out.mono ?_
                  rintro e w7 ⟨b5, rfl, hb5, r5, k5⟩
                  have N := hid_as (LZ.out.step (x0 := b01 f0) (x1 := b01 f1) (x2 := 0) k5 hb5 r5)
                  have L5 := hid_as (LZ.out.below k5)
                  have d0 := L5.out.c0
                  have d1 := L5.out.c1
                  have d2 := L5.out.c2
                  have dz := L5.out.fz
                  clear X k5 r5 hb5 p0 p1 p2 L5
                  go_upto_region 30 with fail
                  generalize (((w7.setCell ⟨kb, 0, none⟩ (.int .i64 (b01 f0))).setCell ⟨kb, 1, none⟩ (.int .i64 (b01 f1))).setCell ⟨kb, 2, none⟩ (.int .i64 0)) = w6 at *
                  have e0 := cell_row (k := 0) N.out.row rfl
                  have e1 := cell_row (k := 1) N.out.row rfl
                  have e2 := cell_row (k := 2) N.out.row rfl
                  have hb1 : (b01 (decide (pv ≤ c2)) == 1) = decide (pv ≤ c2) := by cases decide (pv ≤ c2) <;> rfl
                  have hb2 : (b01 (decide (c2 ≤ 0)) == 1) = decide (c2 ≤ 0) := by cases decide (c2 ≤ 0) <;> rfl
                  generalize b01 (decide (pv ≤ c2)) = y1 at *
                  generalize b01 (decide (c2 ≤ 0)) = y2 at *
                  clear d0 d1 d2 dz
                  go_wp2
                  go_roundw
                  case rel => exact ⟨j + 1, c2, b5, f0, f1, y1, y2, by omega, by go_num, rfl, rfl, rfl, rfl, hok, N.out⟩
                  case measure => simp [intOf]; omega
      · obtain rfl : j = n := by omega
        have B := hid_as EV.out.bl
        go_wp2
        go_ret
        exact ⟨rfl, B.out⟩
  · have h80' : (80 : Int) < n := by omega
    go_enter Try.func3, Try.ntmps3
    go_wp2_with fail
    refine KN.out.mono ?_
    rintro e w1 ⟨rfl, k1⟩
    go_wp2
    go_ret
    exact ⟨rfl, k1⟩
end Go.Proofs.Ytbpnaenineinmab
