/- The walk of BlockTears (stage 8). -/
import Derived.Test.YtkjbgjiddpkcpaaT1
import Derived.Test.YtkjbgjiddpkcpaaR3
namespace Go.Proofs.Ytkjbgjiddpkcpaa
open Go.RowKit
open Pdu
set_option maxRecDepth 100000 in
set_option maxHeartbeats 800000 in
theorem tears_no (x1 x2 x3 : Value) (ao bo : Option Addr) (n c m c2 : Nat) (w : World) (hf : ¬ (n ≤ 300 ∧ m ≤ 300)) : Calls Try.prog 4 #[x1, x2, x3, .slice ao n c, .slice bo m c2] w fun e w' => e = .returned (.bool true) ∧ Below w.heap.size w w' := by
  have X := hid_as (known_law w)
  by_cases h1 : n ≤ 300
  · have d1 : ¬ (300 : Int) < (n : Int) := by omega
    have d2 : (300 : Int) < (m : Int) := by omega
    clear hf h1
    go_enter Try.func4, Try.ntmps4
    go_wp2_with fail
    refine X.out.mono ?_
    rintro e w1 ⟨rfl, k1⟩
    have K1 := hid_as k1
    clear k1
    go_wp2
    go_ret
    exact ⟨rfl, K1.out⟩
  · have d1 : (300 : Int) < (n : Int) := by omega
    clear hf h1
    go_enter Try.func4, Try.ntmps4
    go_wp2_with fail
    refine X.out.mono ?_
    rintro e w1 ⟨rfl, k1⟩
    have K1 := hid_as k1
    clear k1
    go_wp2
    go_ret
    exact ⟨rfl, K1.out⟩
set_option maxRecDepth 100000 in
set_option maxHeartbeats 4000000 in
theorem tears_w (x0 x1 x2 : Int) (ao bo : Option Addr) (n c n2 c2 : Nat) (a1 bs : List Nat) (w : World) (hs : Sl w (.slice ao n c) (u8s a1)) (hB : Bytes a1) (hs2 : Sl w (.slice bo n2 c2) (u8s bs)) (hB2 : Bytes bs) (hf : n ≤ 300 ∧ n2 ≤ 300) : Calls Try.prog 4 #[.int .i64 x0, .int .i64 x1, .int .i64 x2, .slice ao n c, .slice bo n2 c2] w fun e w' => e = .returned (.bool true) ∧ Below w.heap.size w w' := by
  have X := hid_as (known_law w)
  have d1 : ¬ (300 : Int) < (n : Int) := by omega
  have d2 : ¬ (300 : Int) < (n2 : Int) := by omega
  have HS := hid_as hs
  have HS2 := hid_as hs2
  have P1 := hid_as (fun (W : World) => place_c x0 100 (by decide) (by decide) W)
  have P2 := hid_as (fun (W : World) => place_c x1 6 (by decide) (by decide) W)
  clear hs hs2 hf
  go_enter Try.func4, Try.ntmps4
  go_wp2_with fail
  refine X.out.mono ?_
  rintro e w1 ⟨rfl, k1⟩
  have K1 := hid_as k1
  clear k1 X
  go_wp2_with fail
  refine (P1.out w1).mono ?_
  rintro e wx ⟨⟨p, hp, rfl⟩, hw⟩
  subst wx
  obtain ⟨z, hz⟩ : ∃ z : Nat, z = 16 + p := ⟨_, rfl⟩
  have e1 : (16 : Int) + (p : Int) = (z : Int) := by omega
  have hz1 : 16 ≤ z ∧ z ≤ 4096 := by omega
  clear hz hp P1
  go_wp2_with fail
  refine (P2.out w1).mono ?_
  rintro e wx ⟨⟨m, hm, rfl⟩, hw⟩
  subst wx
  have N := hid_as (new_h (nb := 8) (sz := z) (b := 8) (z := z) K1.out (Or.inr (Or.inr ⟨by decide, by decide, rfl⟩)) (by omega))
  clear P2 e1
  go_wp2_with fail
  refine N.out.mono ?_
  rintro e w2 ⟨g, h, rfl, s2⟩
  have LT2 := hid_as s2.lt
  have D1 := hid_as (s2.drawn (n := z) (HS.out.below s2.k) hB (by omega))
  clear N s2
  go_wp2_with fail
  refine D1.out.mono ?_
  rintro e w3 ⟨b1, rfl, o3, s3, k3⟩
  have D2 := hid_as (s3.drawn (n := z) (HS2.out.below s3.k) hB2 (by omega))
  have O3 := hid_as o3
  have K3 := hid_as k3
  clear D1 s3 o3 k3
  go_wp2_with fail
  refine D2.out.mono ?_
  rintro e w4 ⟨b2, rfl, o4, s4, k4⟩
  obtain ⟨old, hold⟩ : ∃ old, old = dr a1 z := ⟨_, rfl⟩
  obtain ⟨now, hnow⟩ : ∃ now, now = dr bs z := ⟨_, rfl⟩
  have hol : old.length = z := by rw [hold, dr_len]
  have hnl : now.length = z := by rw [hnow, dr_len]
  have hob : Bytes old := by rw [hold]; exact dr_bytes _ _
  have hnb : Bytes now := by rw [hnow]; exact dr_bytes _ _
  have I4 : Hid (TI w w4 g h w2.heap.size b1 b2 z (SS.new 8 z) old now) := by
    rw [hold, hnow]
    exact ⟨s4, own_below O3.out k4 (Nat.le_refl _), own_base o4 K3.out.size, LT2.out.1, LT2.out.2⟩
  have HOL := hid_as hol
  have HNL := hid_as hnl
  generalize w2.heap.size = B at I4
  clear D2 o4 s4 k4 O3 K3 LT2 hold hnow hol hnl HS HS2
  go_wp2_with fail
  go_loopw [14] (fun v wr => ∃ (I : Nat) (s : SS), v = .int .i64 (I : Int) ∧ I ≤ 8 ∧ TI w wr g h B b1 b2 z s old now ∧ Ph s 8 z I (-1) 0 (fun j => if j < I then old else List.replicate z 0)) (fun v _ => 8 - (intOf v).toNat)
  case atStart => exact ⟨0, _, rfl, by omega, I4.out, (ph_new 8 z).cong (fun j _ => by rw [if_neg (by omega)])⟩
  case round =>
    obtain ⟨I, s, rfl, hI, ti, ph⟩ := hrel
    have T := hid_as ti
    have PH := hid_as ph
    clear ti ph I4
    by_cases hI8 : I < 8
    · have hI9 : (I : Int) < 8 := by omega
      obtain ⟨q1, q2⟩ := PH.out.dn hI8 (by decide) HOL.out
      have X := hid_as (T.out.write1 I hob (by rw [PH.out.num]; omega))
      have Q2 := hid_as q2
      clear q1 q2
      go_wp2_with fail
      refine X.out.mono ?_
      rintro e w5 ⟨rfl, t5⟩
      have T5 := hid_as t5
      clear X t5
      go_wp2
      go_roundw
      case rel =>
        refine ⟨I + 1, _, by go_num, by omega, T5.out, Q2.out.cong (fun j _ => ?_)⟩
        by_cases e : j = I
        · subst e; simp
        · by_cases e2 : j < I
          · simp [e, e2, show j < I + 1 by omega]
          · simp [e, e2, show ¬ j < I + 1 by omega]
      case measure => simp [intOf]; omega
    · obtain rfl : I = 8 := by omega
      have PH2 := hid_as (PH.out.cong (f' := fun _ => old) (fun j hj => by rw [if_pos hj]))
      have C := hid_as (T.out.hs.cut m x2 (by omega))
      clear PH
      go_wp2_with fail
      refine C.out.mono ?_
      rintro e w5 ⟨rfl, s5, u5⟩
      have T5 := hid_as (T.out.nxt s5 u5)
      have PH5 := hid_as (PH2.out.cut m x2)
      clear C s5 u5 T PH2
      obtain ⟨pr, hpr⟩ : ∃ pr, pr = clip z x2 := ⟨_, rfl⟩
      rw [← hpr] at PH5
      have hprz : pr ≤ z := by rw [hpr]; exact clip_le _ _
      have CW : Hid ((x2 < 0 ∧ (pr : Int) = 0) ∨ ((z : Int) < x2 ∧ (pr : Int) = z) ∨ (0 ≤ x2 ∧ x2 ≤ z ∧ (pr : Int) = x2)) := by
        have := clip_within z x2
        rw [← hpr] at this
        exact this
      clear hpr
      go_wp2_with fail
      go_loopw [15] (fun v wr => ∃ (I : Nat) (s : SS), v = .int .i64 (I : Int) ∧ I ≤ m ∧ TI w wr g h B b1 b2 z s old now ∧ Ph s 8 z (8 + I) ((m - I : Nat) : Int) pr (fun j => if j < I then now else old)) (fun v _ => m - (intOf v).toNat)
      case atStart => exact ⟨0, _, rfl, by omega, T5.out, PH5.out.cong (fun j _ => by rw [if_neg (by omega)])⟩
      case round =>
        obtain ⟨I, s, rfl, hI, ti, ph⟩ := hrel
        have T := hid_as ti
        have PH := hid_as ph
        clear ti ph T5 PH5
        by_cases hI8 : I < m
        · have hI9 : (I : Int) < (m : Int) := by omega
          obtain ⟨q1, q2⟩ := PH.out.dn (bs := now) (i := I) (by omega) (by omega) HNL.out
          have X := hid_as (T.out.write2 I hnb (by rw [PH.out.num]; omega))
          rw [q1] at X
          rw [if_pos (by omega), show ((m - I : Nat) : Int) - 1 = ((m - (I + 1) : Nat) : Int) by omega] at q2
          have Q2 := hid_as q2
          clear q1 q2
          go_wp2_with fail
          refine X.out.mono ?_
          rintro e w6 ⟨rfl, t6⟩
          have T6 := hid_as t6
          clear X t6
          go_wp2
          go_roundw
          case rel =>
            refine ⟨I + 1, _, by go_num, by omega, T6.out, Q2.out.cong (fun j _ => ?_)⟩
            by_cases e : j = I
            · subst e; simp
            · by_cases e2 : j < I
              · simp [e, e2, show j < I + 1 by omega]
              · simp [e, e2, show ¬ j < I + 1 by omega]
          case measure => simp [intOf]; omega
        · obtain rfl : I = m := by omega
          have hI9 : ¬ (I : Int) < (I : Int) := by omega
          rw [show ((I - I : Nat) : Int) = 0 by omega] at PH
          obtain ⟨q1, q2, q3⟩ := PH.out.torn (bs := now) (i := 7) (by decide) HNL.out hprz
          have X := hid_as (T.out.write2 7 hnb (by rw [PH.out.num]; omega))
          rw [show ((7 : Nat) : Int) = 7 from rfl] at q1 q2 q3
          rw [q1] at X
          have Q2 := hid_as q2
          have Q3 := hid_as (q3.cong (f' := fun j => if j < I then now else if j = 7 then now.take pr ++ old.drop pr else old) (fun j hj => by
            rw [if_neg (show ¬ 7 < I by omega)]
            by_cases e : j = 7
            · subst e
              rw [if_pos rfl, if_neg (by omega), if_pos rfl]
            · rw [if_neg e, if_neg e]))
          have HNUM := hid_as PH.out.num
          generalize s.wr 7 now = t at X Q2 Q3
          clear q1 q2 q3 PH T
          go_wp2_with fail
          refine X.out.mono ?_
          rintro e w6 ⟨rfl, t6⟩
          have T6 := hid_as t6
          have Y := hid_as t6.hs.dead
          rw [Q2.out] at Y
          have X2 := hid_as (t6.write2 0 hnb (by have : t.pwr.n = _ := Q3.out.num; have e : t.pwr.n = t.n := rfl; omega))
          rw [(dead_wr Q2.out 0 now).1, (dead_wr Q2.out 0 now).2] at X2
          clear X t6
          go_wp2_with fail
          refine Y.out.mono ?_
          rintro e wx ⟨rfl, hw⟩
          subst wx
          go_wp2_with fail
          refine X2.out.mono ?_
          rintro e w7 ⟨rfl, t7⟩
          have T7 := hid_as t7
          have PW := hid_as t7.hs.pwr2
          clear Y X2 t7 T6 Q2
          go_wp2_with fail
          refine PW.out.mono ?_
          rintro e w8 ⟨rfl, s8, u8⟩
          have T8 := hid_as (T7.out.nxt s8 u8)
          clear PW s8 u8 T7
          generalize t.pwr = t8 at T8 Q3
          go_upto_region 21 with fail
          go_cut [16] from 83 to 86 (fun v wx => v = .int .i64 (pr : Int) ∧ wx = w8)
          case first =>
            rcases CW.out with ⟨h2, h3⟩ | ⟨h2, h3⟩ | ⟨h2, h3, h4⟩
            · have H3 := hid_as h3
              have h5 : ¬ (z : Int) < 0 := by omega
              clear h3 CW
              go_wp2
              go_meet
              case rel => exact ⟨by rw [H3.out], rfl⟩
            · have H3 := hid_as h3
              have h5 : ¬ x2 < 0 := by omega
              clear h3 CW
              go_wp2
              go_meet
              case rel => exact ⟨by rw [H3.out], rfl⟩
            · have H3 := hid_as h4
              have h5 : ¬ x2 < 0 := by omega
              have h6 : ¬ (z : Int) < x2 := by omega
              clear h4 CW
              go_wp2
              go_meet
              case rel => exact ⟨by rw [H3.out], rfl⟩
          case rest =>
            obtain ⟨rfl, hw⟩ := hcut
            rw [← hw] at T8
            clear hw CW
            go_wp2_with fail
            go_loopw [17] (fun v wr => ∃ J : Nat, v = .int .i64 (J : Int) ∧ J ≤ 8 ∧ TI w wr g h B b1 b2 z t8 old now) (fun v _ => 8 - (intOf v).toNat)
            case atStart => exact ⟨0, rfl, by omega, T8.out⟩
            case round =>
              obtain ⟨J, rfl, hJ, ti⟩ := hrel
              have T := hid_as ti
              clear ti T8
              by_cases hJ8 : J < 8
              · have hJ9 : (J : Int) < 8 := by omega
                have R := hid_as (T.out.hs.read J)
                rw [Q3.out.err hJ8, Q3.out.got hJ8] at R
                by_cases hJI : J < I
                · have hJI2 : (J : Int) < (I : Int) := by omega
                  have d7 : ((J : Int) == 7) = false := by rw [beq_eq_false_iff_ne]; omega
                  rw [if_pos hJI] at R
                  go_wp2_with fail
                  refine R.out.mono ?_
                  rintro e w9 ⟨v9, rfl, o9, s9, k9⟩
                  have T9 := hid_as (T.out.below k9)
                  have Y := hid_as (bytes_t (own_sl o9) (own_sl T9.out.o2) hnb)
                  clear R o9 s9 k9
                  go_wp2_with fail
                  refine Y.out.mono ?_
                  rintro e wx ⟨rfl, hw⟩
                  subst wx
                  clear Y
                  go_wp2
                  go_roundw
                  case rel => exact ⟨J + 1, by go_num, by omega, T9.out⟩
                  case measure => simp [intOf]; omega
                · have hJI2 : ¬ (J : Int) < (I : Int) := by omega
                  rw [if_neg hJI] at R
                  by_cases hJ7 : J = 7
                  · subst hJ7
                    rw [if_pos rfl] at R
                    clear R
                    have mz : (pr : Int) ≤ (z : Int) := by omega
                    have hb2 := T.out.o2
                    rw [HNL.out] at hb2
                    have hrow := RowIn.of_own (h := g) T.out.o1 (fun e => by have := HOL.out; rw [e] at this; simp at this; omega) T.out.gB
                    have hLg := T.out.hs.lt.1
                    obtain ⟨v1, wa, p2, cc2, wb, hr1, hr2, hrin, ka, kb⟩ := app3 (X := wr.drew) (h := g) (n := z) (cc := z) (m := pr) ((own_sl hb2).drew1) HNL.out.symm hrow HOL.out.symm hprz hz1.2 (by omega) hLg
                    have TB := hid_as (T.out.below ((drew_below wr).trans kb))
                    have RI := hid_as hrin
                    have R := hid_as (TB.out.hs.read 7)
                    have g7 := Q3.out.got (j := 7) (by decide)
                    have e7 := Q3.out.err (j := 7) (by decide)
                    rw [show ((7 : Nat) : Int) = 7 from rfl] at g7 e7
                    rw [e7, g7, if_neg hJI, if_pos rfl] at R
                    clear hb2 hrow hrin ka kb g7 e7
                    go_upto_if 97 with fail
                    go_cut [18] from 92 to 105 (fun v wx => v = .slice (some ⟨p2, 0, none⟩) z cc2 ∧ wx = wb)
                    case first =>
                      go_upto_region 29 with fail
                      go_region_law (first
                        | refine step_append_run rfl (.const (.slice none 0 0)) (.tmp 100) 30 30 rfl (.slice none 0 0) (.slice (some ⟨b2, 0, none⟩) pr z) (by simp [Act.eval]) (by first | (simp [Act.eval]; done) | (simp [Act.eval, Act.put]; done)) v1 wa hr1 ?_
                        | refine step_append_run rfl (.tmp 101) (.tmp 104) 30 30 rfl v1 (.slice (if z = pr then some ⟨b1, 0, none⟩ else some ⟨b1, pr, none⟩) (z - pr) (z - pr)) (by first | (simp [Act.eval]; done) | (simp [Act.eval, Act.put]; done)) (by first | (simp [Act.eval]; done) | (simp [Act.eval, Act.put]; done)) (.slice (some ⟨p2, 0, none⟩) z cc2) wb hr2 ?_)
                      all_goals
                        by_cases hzp : z = pr
                        · subst hzp
                          go_wp2
                          go_meet
                          case rel => exact ⟨rfl, rfl⟩
                        · go_wp2
                          go_meet
                          case rel => exact ⟨rfl, rfl⟩
                    case rest =>
                      obtain ⟨rfl, hw⟩ := hcut
                      subst hw
                      clear hr1 hr2
                      go_wp2_with fail
                      refine R.out.mono ?_
                      rintro e w9 ⟨v9, rfl, o9, s9, k9⟩
                      have T9 := hid_as (TB.out.below k9)
                      have Y := hid_as (bytes_t (own_sl o9) (RI.out.sl.below k9) ((hnb.take pr).app (hob.drop pr)))
                      clear R o9 s9 k9
                      go_wp2_with fail
                      refine Y.out.mono ?_
                      rintro e wx ⟨rfl, hw⟩
                      subst wx
                      clear Y
                      go_wp2
                      go_roundw
                      case rel => exact ⟨8, rfl, by omega, T9.out⟩
                      case measure => simp [intOf]
                  · have d7 : ((J : Int) == 7) = false := by rw [beq_eq_false_iff_ne]; omega
                    rw [if_neg hJ7] at R
                    go_wp2_with fail
                    refine R.out.mono ?_
                    rintro e w9 ⟨v9, rfl, o9, s9, k9⟩
                    have T9 := hid_as (T.out.below k9)
                    have Y := hid_as (bytes_t (own_sl o9) (own_sl T9.out.o1) hob)
                    clear R o9 s9 k9
                    go_wp2_with fail
                    refine Y.out.mono ?_
                    rintro e wx ⟨rfl, hw⟩
                    subst wx
                    clear Y
                    go_wp2
                    go_roundw
                    case rel => exact ⟨J + 1, by go_num, by omega, T9.out⟩
                    case measure => simp [intOf]; omega
              · obtain rfl : J = 8 := by omega
                have W1 := hid_as T.out.hs.writes
                rw [Q3.out.num] at W1
                obtain ⟨q1, q2⟩ := Q3.out.dn (bs := now) (i := 7) (by decide) (by decide) HNL.out
                have X := hid_as (T.out.write2 7 hnb (by rw [Q3.out.num]; omega))
                rw [show ((7 : Nat) : Int) = 7 from rfl] at q1
                rw [q1] at X
                clear q1 q2
                go_wp2_with fail
                refine W1.out.mono ?_
                rintro e wx ⟨rfl, hw⟩
                subst wx
                go_wp2_with fail
                refine X.out.mono ?_
                rintro e w9 ⟨rfl, t9⟩
                have K9 := hid_as t9.hs.k
                clear X t9 W1
                go_wp2
                go_ret
                exact ⟨rfl, K9.out⟩
theorem tears_law {x0 x1 x2 : Int} {ao bo : Option Addr} {n c n2 c2 : Nat} {a1 bs : List Nat} {w : World} (hs : Sl w (.slice ao n c) (u8s a1)) (hB : Bytes a1) (hs2 : Sl w (.slice bo n2 c2) (u8s bs)) (hB2 : Bytes bs) : Calls Try.prog 4 #[.int .i64 x0, .int .i64 x1, .int .i64 x2, .slice ao n c, .slice bo n2 c2] w fun e w' => e = .returned (.bool true) ∧ Below w.heap.size w w' := by
  by_cases hf : n ≤ 300 ∧ n2 ≤ 300
  · exact tears_w x0 x1 x2 ao bo n c n2 c2 a1 bs w hs hB hs2 hB2 hf
  · exact tears_no _ _ _ ao bo n c n2 c2 w hf
end Go.Proofs.Ytkjbgjiddpkcpaa
