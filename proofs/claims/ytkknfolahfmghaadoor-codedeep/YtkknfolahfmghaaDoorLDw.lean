/- The walk of CodeDeep (stage 20). -/
import Derived.Test.YtkknfolahfmghaaDoorLDi
import Derived.Test.YtkknfolahfmghaaDoorLPw
namespace Go.Proofs.YtkknfolahfmghaaDoor
open Go.RowKit
open Fb Cod
set_option maxHeartbeats 800000 in
set_option maxRecDepth 100000 in
theorem deep_w {w : World} (n0 k0 : Int) (hT : Tabs w) : Calls Tryd.prog 6 #[.int .i64 n0, .int .i64 k0] w fun e w' => e = .returned (.bool true) ∧ Below w.heap.size w w' := by
  obtain ⟨i0, hi0, hz0, hz1, hz2⟩ := info_parts Tryd.infoIns
  have KN := hid_as (known_c w hT)
  have P1 := hid_as (fun W : World => place_300 n0 W)
  have P2 := hid_as (fun W : World => place_300 k0 W)
  have HT := hid_as hT
  clear hT
  go_enter Tryd.func6, Tryd.ntmps6
  go_upto_region 4 with (first | (go_at_call 9; refine KN.out.mono ?_; rintro e w1 ⟨rfl, b1⟩) | (go_at_call 18; (with_reducible refine (P1.out _).mono ?_); rintro e w' ⟨n, hn, rfl, hw⟩; subst w') | (go_at_call 18; (with_reducible refine (P2.out _).mono ?_); rintro e w' ⟨m, hm, rfl, hw⟩; subst w'))
  have T1 := hid_as (HT.out.below b1)
  have KB := hid_as b1
  clear b1 KN P1 P2 HT
  go_upto_region 6 with fail
  obtain ⟨cb, hcb⟩ : ∃ cb, cb = w1.heap.size := ⟨_, rfl⟩
  have B0 := hid_as (Bc.start w1)
  rw [← hcb] at B0 ⊢
  have CB := hid_as hcb
  generalize hW : w1.alloc (.cells #[.slice none 0 0, .slice none 0 0] 25) = W0 at *
  clear hW hcb
  have B0 : Hid (Bc w1 W0 cb (.slice none 0 0) []) := by have := B0.out; exact this
  go_loopw [6] (fun i wr => ∃ j : Nat, j ≤ n ∧ i = .int .i64 j ∧ ∃ lv, Bc w1 wr cb lv (psh 3 j)) (fun i _ => n - (intOf i).toNat)
  case atStart => exact ⟨0, by omega, rfl, _, B0.out⟩
  case round =>
    obtain ⟨j, hj, rfl, lv, hb⟩ := hrel
    have BC := hid_as hb
    clear hb B0
    have c1 := BC.out.c1
    have OW := hid_as BC.out.own
    by_cases hjn : j < n
    · have hj2 : (j : Int) < (n : Int) := by omega
      have LE : Hid ((psh 3 j).length ≤ 300) := by rw [psh_len]; show j ≤ 300; omega
      have NX := hid_as (psh_next 3 j)
      obtain ⟨wa, wc, hwv⟩ := own_shapeS OW.out
      subst hwv
      go_wp2_with (at_builtin; go_must (refine wpList_append_own_at _ rfl _ _ 23 rfl w1.heap.size 41 i0 (.agg #[.int .i64 0, .int .i64 0, .int .i64 0, .int .i64 0, .string ⟨#[]⟩]) 5 48 Tryd.underlying23 hi0 hz0 hz1 hz2 rfl (by decide) _ _ _ rfl (OW.out.alloc _) _ 1 1 (insv [⟨1, 3, 0, (j : Int), nos⟩]) rfl rfl (new_cells _ _ _) (one_ins _) (by unfold maxLen; have := LE.out; omega) (by have := LE.out; omega) (by have := BC.out.kb.size; simp; omega) ?_); intro v' w3 hown hgrow _ hat; obtain ⟨va, vc, hv⟩ := own_shapeS hown; subst hv; have E := BC.out.push (N := [⟨1, 3, 0, (j : Int), nos⟩]) hown hgrow hat; have g1' := cell_row (k := 1) E.1 rfl; have gf' := fun k => frozen_row (k := k) E.1; have EN := hid_as E.2; clear E hown hgrow hat)
      go_roundw
      case rel => exact ⟨j + 1, by omega, by go_num, _, by rw [NX.out]; exact EN.out⟩
      case measure => simp [intOf]; omega
    · obtain rfl : j = n := by omega
      have B1 := hid_as (BC.out.cast (dpq_start j))
      clear BC OW c1
      go_upto_region 10 with fail
      go_loopw [7] (fun i wr => ∃ h : Nat, h ≤ m ∧ i = .int .i64 h ∧ ∃ lv, Bc w1 wr cb lv (dpq j h)) (fun i _ => m - (intOf i).toNat)
      case atStart => exact ⟨0, by omega, rfl, _, B1.out⟩
      case round =>
        obtain ⟨h, hh, rfl, lv2, hb⟩ := hrel
        have BC := hid_as hb
        clear hb B1
        have c1 := BC.out.c1
        have OW := hid_as BC.out.own
        have LE : Hid ((dpq j h).length ≤ 600) := by rw [dpq_len]; show j + h ≤ 600; omega
        obtain ⟨wa, wc, hwv⟩ := own_shapeS OW.out
        subst hwv
        by_cases hhm : h < m
        · have hh2 : (h : Int) < (m : Int) := by omega
          have NX := hid_as (dpq_next j h)
          go_wp2_with (at_builtin; go_must (refine wpList_append_own_at _ rfl _ _ 23 rfl w1.heap.size 41 i0 (.agg #[.int .i64 0, .int .i64 0, .int .i64 0, .int .i64 0, .string ⟨#[]⟩]) 5 48 Tryd.underlying23 hi0 hz0 hz1 hz2 rfl (by decide) _ _ _ rfl (OW.out.alloc _) _ 1 1 (insv [⟨17, 0, 0, 0, nos⟩]) rfl rfl (new_cells _ _ _) (one_ins _) (by unfold maxLen; have := LE.out; omega) (by have := LE.out; omega) (by have := BC.out.kb.size; simp; omega) ?_); intro v' w3 hown hgrow _ hat; obtain ⟨va, vc, hv⟩ := own_shapeS hown; subst hv; have E := BC.out.push (N := [⟨17, 0, 0, 0, nos⟩]) hown hgrow hat; have g1' := cell_row (k := 1) E.1 rfl; have gf' := fun k => frozen_row (k := k) E.1; have EN := hid_as E.2; clear E hown hgrow hat)
          go_roundw
          case rel => exact ⟨h + 1, by omega, by go_num, _, by rw [NX.out]; exact EN.out⟩
          case measure => simp [intOf]; omega
        · obtain rfl : h = m := by omega
          go_upto_region 14 with (at_builtin; go_must (refine wpList_append_own_at _ rfl _ _ 23 rfl w1.heap.size 41 i0 (.agg #[.int .i64 0, .int .i64 0, .int .i64 0, .int .i64 0, .string ⟨#[]⟩]) 5 48 Tryd.underlying23 hi0 hz0 hz1 hz2 rfl (by decide) _ _ _ rfl (OW.out.alloc _) _ 1 1 (insv [⟨23, 0, 0, 0, nos⟩]) rfl rfl (new_cells _ _ _) (one_ins _) (by unfold maxLen; have := LE.out; omega) (by have := LE.out; omega) (by have := BC.out.kb.size; simp; omega) ?_); intro v' w3 hown hgrow _ hat; obtain ⟨va, vc, hv⟩ := own_shapeS hown; subst hv; have E := BC.out.push (N := [⟨23, 0, 0, 0, nos⟩]) hown hgrow hat; have g1' := cell_row (k := 1) E.1 rfl; have gf' := fun k => frozen_row (k := k) E.1; have EN := hid_as E.2; clear E hown hgrow hat)
          have B4 : Hid (Bc w1 (w3.setCell ⟨cb, 1, none⟩ (.slice va ((dpq j h).length + 1) vc)) cb (.slice va ((dpq j h).length + 1) vc) (dpc j h)) := EN.out
          clear EN OW BC LE
          generalize w3.setCell ⟨cb, 1, none⟩ (.slice va ((dpq j h).length + 1) vc) = w4 at *
          generalize (dpq j h).length + 1 = len at *
          have d0 := B4.out.c0
          have d1 := B4.out.c1
          have T4 := hid_as (T1.out.below B4.out.kb)
          have VT : Hid (Calls Tryd.prog 13 #[.agg #[.slice none 0 0, .slice va len vc]] w4 fun e w' => ∃ v, e = .returned v ∧ Err w4 (dpa j h) v w' ∧ Below w4.heap.size w4 w') := by
            obtain ⟨la, lc, e, CD⟩ := B4.out.cd (by rw [dpc_len]; omega)
            rw [e]
            refine (verify_c CD T4.out).mono ?_
            rintro e w' ⟨⟨r, v, hv, rfl, he⟩, hb⟩
            rw [hv.unique (dpc_ver j h (by omega) (by omega))] at he
            exact ⟨v, rfl, he, hb⟩
          have K4 := hid_as (below_and KB.out B4.out.kb)
          have PC := hid_as (dpa_cases j h)
          generalize dpa j h = r at *
          go_upto_region 15 with (first | (go_at_call 13; refine VT.out.mono ?_; rintro e w5 ⟨v, rfl, he, b5⟩; have HE := hid_as he; have B5 := hid_as b5; clear he b5) | (go_at_call 12; refine (told_c HE.out (T4.out.below B5.out)).mono ?_; rintro e w6 ⟨rfl, b6⟩; have K6 := hid_as (below_and K4.out (below_and B5.out b6)); clear b6))
          obtain ⟨a, ha⟩ : ∃ a, a = tAt r := ⟨_, rfl⟩
          obtain ⟨er, he⟩ : ∃ er, er = tEr r := ⟨_, rfl⟩
          rw [← ha, ← he]
          rcases PC.out with ⟨p1, p2⟩ | ⟨p1, p2, p3⟩ | ⟨p1, p2, p3⟩
          · rw [p2] at ha he
            have hE : ((er : Int) == 200) = true := by rw [he]; rfl
            have hA : ((a : Int) == 256) = true := by rw [ha]; simp [tAt]
            have p1' : (256 : Int) < (j : Int) := by omega
            clear ha he VT HE PC
            go_wp2
            go_ret
            exact ⟨ret_bool rfl, K6.out⟩
          · rw [p3] at ha he
            have hE : ((er : Int) == 200) = true := by rw [he]; rfl
            have hA : ((a : Int) == 2 * (j : Int)) = true := by rw [ha]; simp [tAt]
            have p1' : ¬ (256 : Int) < (j : Int) := by omega
            have p2' : (j : Int) < (h : Int) := by omega
            clear ha he VT HE PC
            go_wp2
            go_ret
            exact ⟨ret_bool rfl, K6.out⟩
          · rw [p3] at ha he
            have hE0 : ((er : Int) == 0) = true := by rw [he]; rfl
            have hA : ((a : Int) == 0) = true := by rw [ha]; rfl
            have p1' : ¬ (256 : Int) < (j : Int) := by omega
            have p2' : ¬ (j : Int) < (h : Int) := by omega
            clear ha he VT HE PC
            go_wp2
            go_ret
            exact ⟨ret_bool rfl, K6.out⟩
end Go.Proofs.YtkknfolahfmghaaDoor
