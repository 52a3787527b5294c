/- The walk of LinePlays. -/
import Derived.Test.YtgmbboimndepnaaPL2
namespace Go.Proofs.Ytgmbboimndepnaa
open Go.RowKit
open Pdu
set_option maxRecDepth 100000 in
set_option maxHeartbeats 16000000 in
theorem plays_w (u s n c : Nat) (k : Int) (ao : Option Addr) (L : List Stp) (w : World) (hu : u < 256) (hs : (k < 1 ∧ s = 1) ∨ (1 ≤ k ∧ k = s)) (hs9 : s ≤ 9223372036854775807) (hn : n = L.length) (hn9 : n ≤ 9223372036854775807) (hbig : ∀ x ∈ L, x.b.length ≤ 140737488355328)
    (hF : 0 < n → ∃ lb lo, ao = some ⟨lb, lo, none⟩ ∧ ∀ i x, L[i]? = some x → StepAt w lb lo i x) :
    Calls Try.prog 3 #[.int .u8 (u : Int), .int .i64 k, .slice ao n c] w fun e w' => e = .returned (.bool true) ∧ Below w.heap.size w w' := by
  have X := hid_as (known_law w)
  have HF := hid_as hF
  have HN := hid_as hn
  have HBIG := hid_as hbig
  have HS := hid_as hs
  clear hF hn hbig hs
  go_enter Try.func3, Try.ntmps3
  go_wp2_with fail
  refine X.out.mono ?_
  rintro e w1 ⟨rfl, k1⟩
  have K1 := hid_as k1
  clear k1 X
  go_upto_block 0 with fail
  go_cut [7] from 25 to 43 (fun v wx => ∃ M : Nat, v = .int .i64 M ∧ wx = w1 ∧ (M ≤ 20000 → ∀ x ∈ L, x.b.length ≤ 20000))
  case first =>
    go_wp2_with fail
    go_loop [7, 8] (fun v i => ∃ M I : Nat, v = .int .i64 M ∧ i = .int .i64 I ∧ I ≤ n ∧ I ≤ M ∧ M = tot (L.take I)) (fun _ i => n - (intOf i).toNat)
    case atStart => exact ⟨0, 0, rfl, rfl, Nat.zero_le _, Nat.le_refl _, rfl⟩
    case round =>
      obtain ⟨M, I, rfl, rfl, hI, hIM, hM⟩ := hrel
      have HM := hid_as hM
      clear hM
      by_cases hIn : I < n
      · have hI2 : (I : Int) < (n : Int) := by omega
        by_cases hM2 : M ≤ 20000
        · have hM3 : (M : Int) ≤ 20000 := by omega
          obtain ⟨lb, lo, rfl, hst⟩ := HF.out (by omega)
          obtain ⟨x, hx⟩ : ∃ x, L[I]? = some x := ⟨_, List.getElem?_eq_getElem (by rw [← HN.out]; exact hIn)⟩
          obtain ⟨b1, po, pc, a0, a1, a2, sl⟩ := (hst I x hx).below K1.out
          have hlen := HBIG.out x (List.mem_of_getElem? hx)
          have HX := hid_as hx
          obtain ⟨m, hm⟩ : ∃ m, m = x.b.length := ⟨_, rfl⟩
          rw [← hm] at a2 hlen
          have HMM := hid_as hm
          clear hst hx sl a0 a1 b1 hm
          go_wp2
          go_round
          case rel =>
            refine ⟨M + (1 + m), I + 1, by go_num, by go_num, by omega, by omega, ?_⟩
            rw [tot_take HX.out, ← HM.out, ← HMM.out]
          case measure => simp [intOf]; omega
        · have hM3 : ¬ ((M : Int) ≤ 20000) := by omega
          go_wp2
          go_meet
          case rel => exact ⟨M, rfl, rfl, fun h => absurd h hM2⟩
      · have hI2 : ¬ ((I : Int) < (n : Int)) := by omega
        go_wp2
        go_meet
        case rel =>
          refine ⟨M, rfl, rfl, fun h x hx => ?_⟩
          have h1 := tot_mem hx
          have h2 := HM.out
          rw [List.take_of_length_le (by rw [← HN.out]; omega)] at h2
          omega
  case rest =>
    obtain ⟨M, rfl, rfl, hall⟩ := hcut
    by_cases hM : M ≤ 20000
    case neg =>
      have hM2 : (20000 : Int) < (M : Int) := by omega
      have d1 : decide ((20000 : Int) < (M : Int)) = true := decide_eq_true hM2
      go_wp2
      go_ret
      exact ⟨rfl, K1.out⟩
    have hM2 : ¬ ((20000 : Int) < (M : Int)) := by omega
    have d1 : decide ((20000 : Int) < (M : Int)) = false := decide_eq_false hM2
    by_cases hn5 : n ≤ 500
    case neg =>
      have hn6 : (500 : Int) < (n : Int) := by omega
      have d2 : decide ((500 : Int) < (n : Int)) = true := decide_eq_true hn6
      go_wp2
      go_ret
      exact ⟨rfl, K1.out⟩
    have hn6 : ¬ ((500 : Int) < (n : Int)) := by omega
    have d2 : decide ((500 : Int) < (n : Int)) = false := decide_eq_false hn6
    have HALL := hid_as (hall hM)
    have N1 := hid_as (new_c u s k wc hu (by have := HS.out; omega))
    clear hall
    go_wp2_with fail
    refine N1.out.mono ?_
    rintro e w2 ⟨rfl, ln2, k2, sz2⟩
    have P2 := hid_as (pi_start ln2 K1.out k2 sz2)
    generalize wc.heap.size = g at P2 ⊢
    clear ln2 k2 sz2 N1
    go_upto_region 11 with fail
    go_cut [1] from 54 to 55 (fun v wx => v = .int .i64 (s : Int) ∧ wx = w2)
    case first =>
      rcases HS.out with ⟨h1, rfl⟩ | ⟨h1, rfl⟩
      · go_wp2
        go_meet
        case rel => exact ⟨rfl, rfl⟩
      · have h2 : ¬ ((s : Int) < 1) := by omega
        go_wp2
        go_meet
        case rel => exact ⟨rfl, rfl⟩
    case rest =>
      obtain ⟨rfl, hw⟩ := hcut
      rw [← hw] at P2
      clear hw HS
      go_wp2_with fail
      go_loopw [10, 11, 12, 13] (fun hv wv q i wr => ∃ I : Nat, i = .int .i64 I ∧ I ≤ n ∧ PI w wr g u s I hv wv q) (fun _ _ _ i _ => n - (intOf i).toNat)
      case atStart => exact ⟨0, rfl, Nat.zero_le _, P2.out⟩
      case round =>
        obtain ⟨I, rfl, hI, B, t, H, fs, rfl, ht, pj⟩ := hrel
        have P := hid_as pj
        have hlen := pj.len
        have KW : Hid (Below w.heap.size w wr) := pj.li.k
        clear pj P2
        by_cases hIn : I < n
        case neg =>
          have hI2 : ¬ ((I : Int) < (n : Int)) := by omega
          go_wp2
          go_ret
          exact ⟨rfl, KW.out⟩
        have hI2 : (I : Int) < (n : Int) := by omega
        obtain ⟨lb, lo, rfl, hst⟩ := HF.out (by omega)
        obtain ⟨x, hx⟩ : ∃ x, L[I]? = some x := ⟨_, List.getElem?_eq_getElem (by rw [← HN.out]; exact hIn)⟩
        obtain ⟨hB, po, pc, a0, a1, a2, sl⟩ := hst I x hx
        have BLK : Hid (u8s x.b ≠ [] → ∀ a, po = some a → a.block ≠ g) := by
          intro h a ha e
          have h1 := sl_block sl h a ha
          have h2 := P.out.li.gw
          omega
        have SL := hid_as (sl.below KW.out)
        have c0 := keep_cell KW.out a0
        have c1 := keep_cell KW.out a1
        have c2 := keep_cell KW.out a2
        have hx2 := HALL.out x (List.mem_of_getElem? hx)
        clear hst hx a0 a1 a2 sl
        obtain ⟨what, N, bs⟩ := x
        simp only at hB BLK SL c0 c1 c2 hx2
        obtain ⟨ho, hc, rfl⟩ := P.out.ct.shape
        obtain ⟨wo, wcap, rfl⟩ := P.out.cf.shape
        go_upto_block 4 with fail
        go_cut [10, 11, 12] from 56 to 200 (fun hv wv q wx => PI w wx g u s (I + 1) hv wv q)
        case first =>
          by_cases hfeed : what = 0 ∨ what = 1 ∨ what = 2
          case pos =>
            have hgB := P.out.li.lt
            go_upto_block 6 with fail
            go_cut [14] from 56 to 200 (fun b wx => ∃ (bo : Option Addr) (m bc : Nat) (ms : List Nat), b = .slice bo m bc ∧ m = ms.length ∧ Sl wx (.slice bo m bc) (u8s ms) ∧ Bytes ms ∧ m ≤ 20000 ∧ (u8s ms ≠ [] → ∀ a, bo = some a → a.block ≠ g) ∧ Below wr.heap.size wr wx)
            case first =>
              rcases hfeed with rfl | rfl | rfl
              · go_wp2
                go_meet
                case rel => exact ⟨po, _, pc, bs, rfl, rfl, SL.out, hB, hx2, BLK.out, Below.refl _ _⟩
              · go_wp2
                go_meet
                case rel => exact ⟨po, _, pc, bs, rfl, rfl, SL.out, hB, hx2, BLK.out, Below.refl _ _⟩
              · obtain ⟨u2, hu2⟩ : ∃ u2 : Nat, N % 256 = (u2 : Int) := ⟨(N % 256).toNat, by omega⟩
                have hu3 : u2 < 256 := by omega
                have e8 : IntKind.u8.wrap N = (u2 : Int) := by rw [IntKind.wrap_u8]; exact hu2
                have R0 := hid_as (fun (x : Value) (h : ¬ (1 ≤ bs.length ∧ bs.length ≤ 253)) => rtu_no x po bs.length pc wr h)
                have R1 := hid_as (fun (y : Nat) (hy : y < 256) (h : 1 ≤ bs.length ∧ bs.length ≤ 253) => rtu_yes y bs.length pc bs po wr rfl h hy hB SL.out)
                clear hu2
                by_cases h3 : N.tmod 3 = 0
                · have d3 : (N.tmod 3 == 0) = true := by rw [h3]; rfl
                  by_cases hfit : 1 ≤ bs.length ∧ bs.length ≤ 253
                  · as_aux_lemma =>
                      have RR := hid_as (R1.out u hu hfit)
                      clear R0 R1
                      go_wp2_with fail
                      with_reducible refine RR.out.mono ?_
                      rintro e w5 ⟨v5, rfl, own5, k5⟩
                      obtain ⟨gb, cb, rfl, hcb⟩ := own_some own5 (fun e => by have := congrArg List.length e; rw [rt_length] at this; cases this)
                      have RL : Hid (∃ (bo : Option Addr) (m' bc : Nat) (ms : List Nat), Value.slice (some ⟨gb, 0, none⟩) (rt u bs).length cb = .slice bo m' bc ∧ m' = ms.length ∧ Sl w5 (.slice bo m' bc) (u8s ms) ∧ Bytes ms ∧ m' ≤ 20000 ∧ (u8s ms ≠ [] → ∀ a, bo = some a → a.block ≠ g) ∧ Below wr.heap.size wr w5) := by
                        refine ⟨_, _, _, rt u bs, rfl, rfl, own_sl own5, rt_bytes hu hB, by rw [rt_length]; omega, fun _ a ha e => ?_, k5⟩
                        have := (own5.lt gb rfl).1
                        simp only [Option.some.injEq] at ha
                        subst ha
                        simp only at e
                        omega
                      generalize (rt u bs).length = ml at RL ⊢
                      clear own5 k5 RR hcb
                      go_wp2
                      go_meet
                      case rel => exact RL.out
                  · as_aux_lemma =>
                      have RR := hid_as (R0.out (.int .u8 (u : Int)) hfit)
                      clear R0 R1
                      go_wp2_with fail
                      with_reducible refine RR.out.mono ?_
                      rintro e w5 ⟨rfl, k5⟩
                      have K5 := hid_as k5
                      clear k5 RR
                      go_wp2
                      go_meet
                      case rel => exact ⟨none, 0, 0, [], rfl, rfl, Sl.nil _, Bytes.nil, by omega, fun h => absurd rfl h, K5.out⟩
                · have d3 : (N.tmod 3 == 0) = false := by rw [beq_eq_false_iff_ne]; exact h3
                  by_cases hfit : 1 ≤ bs.length ∧ bs.length ≤ 253
                  · as_aux_lemma =>
                      have RR := hid_as (R1.out u2 hu3 hfit)
                      clear R0 R1
                      go_wp2_with fail
                      with_reducible refine RR.out.mono ?_
                      rintro e w5 ⟨v5, rfl, own5, k5⟩
                      obtain ⟨gb, cb, rfl, hcb⟩ := own_some own5 (fun e => by have := congrArg List.length e; rw [rt_length] at this; cases this)
                      have RL : Hid (∃ (bo : Option Addr) (m' bc : Nat) (ms : List Nat), Value.slice (some ⟨gb, 0, none⟩) (rt u2 bs).length cb = .slice bo m' bc ∧ m' = ms.length ∧ Sl w5 (.slice bo m' bc) (u8s ms) ∧ Bytes ms ∧ m' ≤ 20000 ∧ (u8s ms ≠ [] → ∀ a, bo = some a → a.block ≠ g) ∧ Below wr.heap.size wr w5) := by
                        refine ⟨_, _, _, rt u2 bs, rfl, rfl, own_sl own5, rt_bytes hu3 hB, by rw [rt_length]; omega, fun _ a ha e => ?_, k5⟩
                        have := (own5.lt gb rfl).1
                        simp only [Option.some.injEq] at ha
                        subst ha
                        simp only at e
                        omega
                      generalize (rt u2 bs).length = ml at RL ⊢
                      clear own5 k5 RR hcb
                      go_wp2
                      go_meet
                      case rel => exact RL.out
                  · as_aux_lemma =>
                      have RR := hid_as (R0.out (.int .u8 (u2 : Int)) hfit)
                      clear R0 R1
                      go_wp2_with fail
                      with_reducible refine RR.out.mono ?_
                      rintro e w5 ⟨rfl, k5⟩
                      have K5 := hid_as k5
                      clear k5 RR
                      go_wp2
                      go_meet
                      case rel => exact ⟨none, 0, 0, [], rfl, rfl, Sl.nil _, Bytes.nil, by omega, fun h => absurd rfl h, K5.out⟩
            case rest =>
              as_aux_lemma =>
                clear SL c0 c1 c2 BLK hfeed hB hx2
                obtain ⟨bo, m, bc, ms, rfl, hm, sl5, hB5, hm5, blk5, k5⟩ := hcut
                have P5 := hid_as (P.out.below k5)
                have hg5 : g < wc.heap.size := P5.out.li.lt
                have SL := hid_as sl5
                have BLK := hid_as blk5
                have HM := hid_as hm
                have CP := hid_as (copy_c sl5 (by rw [← hm]; omega))
                clear sl5 blk5 hm k5 P
                go_wp2_with fail
                refine CP.out.mono ?_
                rintro e w2 ⟨v2, rfl, own2, k2⟩
                have OW := hid_as own2
                have K2 := hid_as k2
                have FD := hid_as ((P5.out.li.below k2).feed_any (own_sl own2) hB5)
                clear own2 k2 CP
                go_wp2_with fail
                refine FD.out.mono ?_
                rintro e w3 ⟨rfl, k3, i3⟩
                have K3 := hid_as k3
                have I3 := hid_as i3
                have SP := hid_as (spoil_c (own_turn OW.out k3 hg5) (Nat.le_trans K2.out.size k3.size) (by rw [← HM.out]; omega))
                clear k3 i3 FD
                go_wp2_with fail
                refine SP.out.mono ?_
                rintro e w4 ⟨rfl, k4⟩
                obtain ⟨i4, c4, f4, t4⟩ := P5.out.fed K2.out K3.out I3.out k4
                have I4 := hid_as i4
                have C4 := hid_as c4
                have F4 := hid_as f4
                clear k4 SP i4 c4 f4 I3 K3 K2 OW
                by_cases hms : ms = []
                · subst hms
                  obtain rfl : m = 0 := HM.out
                  have PP : Hid (PJ w w4 g u s B t H fs (.slice ho H.length hc) (.slice wo fs.length wcap)) := by
                    have h := I4.out
                    rw [if_pos rfl, List.append_nil, List.take_of_length_le P5.out.len.1] at h
                    exact ⟨h, C4.out, F4.out, P5.out.fb⟩
                  clear I4 C4 F4 t4
                  go_wp2
                  go_meet
                  case rel => exact ⟨B, t, H, fs, rfl, by omega, PP.out⟩
                · have hm0 : 0 < m := by have := List.length_pos_iff.2 hms; have := HM.out; omega
                  have I4' : Hid (LI w w4 g u s B 0 ((H ++ ms).take 257) fs) := by have h := I4.out; rw [if_neg hms] at h; exact h
                  obtain ⟨v6, w6, hAp, c6, g6⟩ := cut_append C4.out (sl_turn SL.out t4 BLK.out) (by have := P5.out.len.1; have := HM.out; omega) I4'.out.BW
                  obtain ⟨gg, off6, cap6, rfl, hcap6⟩ := cut_some c6 (fun h => hms (List.append_eq_nil_iff.1 h).2)
                  obtain ⟨n6, hn6⟩ : ∃ n6, n6 = (H ++ ms).length := ⟨_, rfl⟩
                  rw [← hn6] at c6 hcap6 hAp
                  have HA := hid_as hAp
                  have PP := hid_as (fun (kk : Nat) (hk : (n6 ≤ 257 ∧ kk = n6) ∨ (257 < n6 ∧ kk = 257)) => pj_held I4'.out C4.out F4.out c6 hn6 g6 hk P5.out.fb)
                  clear hAp c6 g6 I4 I4' C4 F4 t4 hn6
                  by_cases h257 : 257 < n6
                  · have h1 : (257 : Int) < (n6 : Int) := by omega
                    have h2 : (257 : Int) ≤ (cap6 : Int) := by omega
                    go_wp2_with (at_builtin; refine Lib.wpList_append_run _ rfl _ _ _ _ rfl _ _ rfl rfl _ _ HA.out ?_)
                    go_meet
                    case rel => exact ⟨B, 0, _, fs, rfl, by omega, PP.out 257 (Or.inr ⟨h257, rfl⟩)⟩
                  · have h1 : ¬ ((257 : Int) < (n6 : Int)) := by omega
                    have h2 : (n6 : Int) ≤ (cap6 : Int) := by omega
                    go_wp2_with (at_builtin; refine Lib.wpList_append_run _ rfl _ _ _ _ rfl _ _ rfl rfl _ _ HA.out ?_)
                    go_meet
                    case rel => exact ⟨B, 0, _, fs, rfl, by omega, PP.out n6 (Or.inl ⟨by omega, rfl⟩)⟩
          by_cases htick : what = 3 ∨ what = 4 ∨ what = 5 ∨ what = 6
          case pos =>
            clear SL BLK hB hx2
            go_upto_block 7 with fail
            go_cut [10, 12] from 56 to 200 (fun hv q wx => hv = .slice ho H.length hc ∧ q = .int .i64 (t : Int) ∧ wx = wr)
            case first =>
              rcases htick with rfl | rfl | rfl | rfl
              all_goals
                go_wp2
                go_meet
                case rel => exact ⟨rfl, rfl, rfl⟩
            case rest =>
              obtain ⟨rfl, rfl, rfl⟩ := hcut
              as_aux_lemma =>
                clear c0 c1 c2 htick hfeed
                have TK := hid_as (P.out.li.tick hs9 (by omega))
                go_wp2_with fail
                refine TK.out.mono ?_
                rintro e w5 ⟨rfl, k5, B5, i5, hbe, hbi⟩
                have K5 := hid_as k5
                have I5 := hid_as i5
                clear k5 i5 TK
                by_cases hH : H = []
                · have PP := hid_as (P.out.tickI K5.out I5.out (hbi (Or.inl hH)) (Or.inl hH))
                  subst hH
                  clear hbe hbi I5 K5
                  go_wp2
                  go_roundw
                  case rel => exact ⟨I + 1, by go_num, by omega, B, t, [], fs, rfl, by omega, PP.out⟩
                  case measure => simp [intOf]; omega
                · have hH0 : ¬ (H.length = 0) := fun h => hH (List.length_eq_zero_iff.1 h)
                  by_cases hts : t + 1 < s
                  · have PP := hid_as (P.out.tickI K5.out I5.out (hbi (Or.inr hts)) (Or.inr hts))
                    have e1 : tkT t H = t + 1 := by unfold tkT; rw [if_neg hH]
                    rw [e1] at PP
                    have h1 : (t : Int) + 1 < (s : Int) := by omega
                    clear hbe hbi I5 K5 e1
                    go_wp2
                    go_meet
                    case rel => exact ⟨B, t + 1, H, fs, by go_num, by omega, PP.out⟩
                  · have h1 : ¬ ((t : Int) + 1 < (s : Int)) := by omega
                    have I6 := hid_as (I5.out.tickE hH hts (hbe hH hts))
                    obtain ⟨un, pd, E, hr⟩ : ∃ un pd E, rd H = ⟨un, pd, E⟩ := ⟨_, _, _, rfl⟩
                    have RO := hid_as (ropen_c (P.out.turnC K5.out).1.sl P.out.byt)
                    have HR := hid_as hr
                    have HPB : Hid (Bytes pd) := by have h := rd_bytes P.out.byt; rw [hr] at h; exact h
                    have TWN : Hid (∀ (_ : E ≠ 0 ∨ (un ≠ u ∧ un ≠ 0) ∨ ¬ fs.length < 8), tickW u fs H = fs) := by
                      intro h
                      unfold tickW
                      rw [hr]
                      exact if_neg (by simp only; omega)
                    have TWY : Hid (∀ (_ : E = 0 ∧ (un = u ∨ un = 0) ∧ fs.length < 8), tickW u fs H = fs ++ [⟨un, pd⟩]) := by
                      intro h
                      unfold tickW
                      rw [hr]
                      exact if_pos h
                    clear hbe hbi I5 hr
                    go_wp2_with fail
                    refine RO.out.mono ?_
                    rintro e w6 hend
                    obtain ⟨k6, po6, pc6, rfl, own6⟩ := hend.is HR.out
                    have K6 := hid_as k6
                    have NO := hid_as (fun (h : E ≠ 0 ∨ (un ≠ u ∧ un ≠ 0) ∨ ¬ fs.length < 8) => pj_no P.out K5.out I6.out k6 (TWN.out h))
                    have YES := hid_as (fun (h : E = 0 ∧ (un = u ∨ un = 0) ∧ fs.length < 8) => pj_yes P.out K5.out I6.out k6 own6 (TWY.out h) HPB.out)
                    clear hend k6 own6 RO TWN TWY I6 K5 P
                    obtain ⟨fl, hfl⟩ : ∃ fl, fl = fs.length := ⟨_, rfl⟩
                    have HFL := hid_as hfl
                    rw [← hfl] at NO YES ⊢
                    clear hfl
                    by_cases hE : E = 0
                    case neg =>
                      have d1 : ((E : Int) == 0) = false := by rw [beq_eq_false_iff_ne]; omega
                      have PP := hid_as (NO.out (Or.inl hE))
                      clear NO YES
                      go_wp2
                      go_meet
                      case rel => exact ⟨_, t + 1, [], fs, by go_num, by omega, PP.out⟩
                    subst hE
                    by_cases hf8 : fl < 8
                    case neg =>
                      have d8 : ¬ ((fl : Int) < 8) := by omega
                      have d9 : decide ((fl : Int) < 8) = false := decide_eq_false d8
                      have PP := hid_as (NO.out (Or.inr (Or.inr hf8)))
                      clear NO YES
                      by_cases hun : un = u
                      · subst hun
                        go_wp2
                        go_meet
                        case rel => exact ⟨_, t + 1, [], fs, by go_num, by omega, PP.out⟩
                      · have d2 : ((un : Int) == (u : Int)) = false := by rw [beq_eq_false_iff_ne]; omega
                        by_cases hu0 : un = 0
                        · subst hu0
                          go_wp2
                          go_meet
                          case rel => exact ⟨_, t + 1, [], fs, by go_num, by omega, PP.out⟩
                        · have d3 : ((un : Int) == 0) = false := by rw [beq_eq_false_iff_ne]; omega
                          go_wp2
                          go_meet
                          case rel => exact ⟨_, t + 1, [], fs, by go_num, by omega, PP.out⟩
                    have d8 : (fl : Int) < 8 := by omega
                    have d9 : decide ((fl : Int) < 8) = true := decide_eq_true d8
                    by_cases hun : un = u
                    · obtain ⟨v7, w7, hAp, pj7⟩ := YES.out ⟨rfl, Or.inl hun, hf8⟩
                      subst hun
                      have HA := hid_as hAp
                      have PP := hid_as pj7
                      clear NO YES hAp pj7
                      go_wp2_with (at_builtin; refine Lib.wpList_append_run _ rfl _ _ _ _ rfl _ _ rfl rfl _ _ HA.out ?_)
                      go_meet
                      case rel => exact ⟨_, t + 1, [], _, by go_num, by omega, PP.out⟩
                    · have d2 : ((un : Int) == (u : Int)) = false := by rw [beq_eq_false_iff_ne]; omega
                      by_cases hu0 : un = 0
                      · obtain ⟨v7, w7, hAp, pj7⟩ := YES.out ⟨rfl, Or.inr hu0, hf8⟩
                        subst hu0
                        have HA := hid_as hAp
                        have PP := hid_as pj7
                        clear NO YES hAp pj7
                        go_wp2_with (at_builtin; refine Lib.wpList_append_run _ rfl _ _ _ _ rfl _ _ rfl rfl _ _ HA.out ?_)
                        go_meet
                        case rel => exact ⟨_, t + 1, [], _, by go_num, by omega, PP.out⟩
                      · have d3 : ((un : Int) == 0) = false := by rw [beq_eq_false_iff_ne]; omega
                        have PP := hid_as (NO.out (Or.inr (Or.inl ⟨hun, hu0⟩)))
                        clear NO YES
                        go_wp2
                        go_meet
                        case rel => exact ⟨_, t + 1, [], fs, by go_num, by omega, PP.out⟩
          clear SL BLK hB hx2 c1 c2
          by_cases h7 : what = 7
          case pos =>
            as_aux_lemma =>
              subst h7
              clear hfeed htick
              match fs, P with
              | [], P =>
                have NX := hid_as P.out.li.none
                go_wp2_with fail
                refine NX.out.mono ?_
                rintro e wx ⟨rfl, hw⟩
                subst wx
                go_wp2
                go_meet
                case rel => exact ⟨B, t, H, [], rfl, by omega, P.out⟩
              | fr :: fs, P =>
                have NX := hid_as P.out.li.nxt
                go_wp2_with fail
                refine NX.out.mono ?_
                rintro e w5 ⟨po5, pc5, rfl, k5, s5, i5⟩
                obtain ⟨gw, off, cap, po6, pc6, hv6, hcap, a0, a1, pd, hcut⟩ := (P.out.turnC k5).2.hd1
                have BT := hid_as (bytes_t s5 pd.sl (P.out.fb fr (List.mem_cons_self ..)))
                simp only [Value.slice.injEq] at hv6
                obtain ⟨rfl, _, rfl⟩ := hv6
                by_cases hcap1 : wcap = 1
                · have PP := hid_as (show PJ w w5 g u s B t H fs (.slice ho H.length hc) (.slice (some ⟨gw, off, none⟩) fs.length (wcap - 1)) from ⟨i5, (P.out.turnC k5).1, hcut _ (by rw [if_pos hcap1]), fun f hf => P.out.fb f (List.mem_cons_of_mem _ hf)⟩)
                  subst hcap1
                  obtain rfl : fs = [] := List.length_eq_zero_iff.1 (by omega)
                  clear k5 s5 i5 hcut pd NX P
                  go_wp2_with fail
                  refine BT.out.mono ?_
                  rintro e wx ⟨rfl, hw⟩
                  subst wx
                  go_wp2
                  go_meet
                  case rel => exact ⟨B, t, H, [], rfl, by omega, PP.out⟩
                · have PP := hid_as (show PJ w w5 g u s B t H fs (.slice ho H.length hc) (.slice (some ⟨gw, off + 2, none⟩) fs.length (wcap - 1)) from ⟨i5, (P.out.turnC k5).1, hcut _ (by rw [if_neg hcap1]), fun f hf => P.out.fb f (List.mem_cons_of_mem _ hf)⟩)
                  clear k5 s5 i5 hcut pd NX P
                  go_wp2_with fail
                  refine BT.out.mono ?_
                  rintro e wx ⟨rfl, hw⟩
                  subst wx
                  go_wp2
                  go_meet
                  case rel => exact ⟨B, t, H, fs, rfl, by omega, PP.out⟩
          as_aux_lemma =>
            have x0 : (what == 0) = false := by rw [beq_eq_false_iff_ne]; omega
            have x1 : (what == 1) = false := by rw [beq_eq_false_iff_ne]; omega
            have x2 : (what == 2) = false := by rw [beq_eq_false_iff_ne]; omega
            have x3 : (what == 3) = false := by rw [beq_eq_false_iff_ne]; omega
            have x4 : (what == 4) = false := by rw [beq_eq_false_iff_ne]; omega
            have x5 : (what == 5) = false := by rw [beq_eq_false_iff_ne]; omega
            have x6 : (what == 6) = false := by rw [beq_eq_false_iff_ne]; omega
            have x7 : (what == 7) = false := by rw [beq_eq_false_iff_ne]; omega
            clear hfeed htick h7
            go_wp2
            go_meet
            case rel => exact ⟨B, t, H, fs, rfl, by omega, P.out⟩
        case rest =>
          as_aux_lemma =>
            obtain ⟨B3, t3, H3, fs3, rfl, ht3, pj3⟩ := hcut
            obtain ⟨ho3, hc3, rfl⟩ := pj3.ct.shape
            obtain ⟨wo3, wc3, rfl⟩ := pj3.cf.shape
            have P3 := hid_as pj3
            have LF := hid_as pj3.li.left
            have WT := hid_as pj3.li.waits
            clear pj3 P SL c0 c1 c2 BLK
            go_wp2_with fail
            refine LF.out.mono ?_
            rintro e wx ⟨rfl, hw⟩
            subst wx
            go_wp2_with fail
            refine WT.out.mono ?_
            rintro e wx ⟨rfl, hw⟩
            subst wx
            go_wp2
            go_roundw
            case rel => exact ⟨I + 1, by go_num, by omega, B3, t3, H3, fs3, rfl, ht3, P3.out⟩
            case measure => simp [intOf]; omega
end Go.Proofs.Ytgmbboimndepnaa
