/- The walk of CodeWays (stage 20). -/
import Derived.Test.YtkknfolahfmghaaDoorLWi
import Derived.Test.YtkknfolahfmghaaDoorLPw
namespace Go.Proofs.YtkknfolahfmghaaDoor
open Go.RowKit
open Fb Cod
set_option maxHeartbeats 400000 in
/-- An instruction is put behind the others. -/
theorem put_c {w1 W : World} {cb : Nat} {lv : Value} {L : List Ins} (op x : Int) (hb : Bc w1 W cb lv L) (hl : L.length ≤ 600) : Calls Tryd.prog 19 #[.int .i64 op, .int .i64 x, .pointer (some ⟨cb, 0, none⟩)] W fun e w' => e = .returned (.tuple #[]) ∧ ∃ lv', Bc w1 w' cb lv' (L ++ [⟨op, x, 0, 0, nos⟩]) := by
  obtain ⟨i0, hi0, hz0, hz1, hz2⟩ := info_parts Tryd.infoIns
  have BC := hid_as hb
  have LE := hid_as hl
  clear hb hl
  have c1 := BC.out.c1
  have OW := hid_as BC.out.own
  obtain ⟨wa, wc, hwv⟩ := own_shapeS OW.out
  subst hwv
  go_enter Tryd.func19, Tryd.ntmps19
  go_wp2_with (at_builtin; go_must (refine wpList_append_own_at _ rfl _ _ 23 rfl w1.heap.size 41 i0 (.agg #[.int .i64 0, .int .i64 0, .int .i64 0, .int .i64 0, .string ⟨#[]⟩]) 5 48 Tryd.underlying23 hi0 hz0 hz1 hz2 rfl (by decide) _ _ _ rfl (OW.out.alloc _) _ 1 1 (insv [⟨op, x, 0, 0, nos⟩]) rfl rfl (new_cells _ _ _) (one_ins _) (by unfold maxLen; have := LE.out; omega) (by have := LE.out; omega) (by have := BC.out.kb.size; simp; omega) ?_); intro v' w3 hown hgrow _ hat; obtain ⟨va, vc, hv⟩ := own_shapeS hown; subst hv; have E := BC.out.push (N := [⟨op, x, 0, 0, nos⟩]) hown hgrow hat; have g1' := cell_row (k := 1) E.1 rfl; have gf' := fun k => frozen_row (k := k) E.1; have EN := hid_as E.2; clear E hown hgrow hat)
  go_end0
  exact ⟨rfl, _, EN.out⟩
set_option maxHeartbeats 1600000 in
set_option maxRecDepth 100000 in
theorem ways_w {w : World} (n0 k0 : Int) (back : Bool) (hT : Tabs w) : Calls Tryd.prog 7 #[.int .i64 n0, .int .i64 k0, .bool back] w fun e w' => e = .returned (.bool true) ∧ Below w.heap.size w w' := by
  have hmf : ∀ (fn : Fn) (first cap : Array Value) (w : World), (Instr.makeFunc fn first cap).run Tryd.prog w = .ok (.func fn first cap) w := fun _ _ _ _ => rfl
  have KN := hid_as (known_c w hT)
  have P1 := hid_as (fun W : World => place_20 n0 W)
  have P2 := hid_as (fun W : World => place_20 k0 W)
  have HT := hid_as hT
  clear hT
  go_enter Tryd.func7, Tryd.ntmps7
  go_upto_region 4 with (first | (go_at_call 9; refine KN.out.mono ?_; rintro e w1 ⟨rfl, b1⟩) | (go_at_call 18; (with_reducible refine (P1.out _).mono ?_); rintro e w' ⟨n, hn, rfl, hw⟩; subst w') | (go_at_call 18; (with_reducible refine (P2.out _).mono ?_); rintro e w' ⟨m, hm, rfl, hw⟩; subst w'))
  have T1 := hid_as (HT.out.below b1)
  have KB := hid_as b1
  clear b1 KN P1 P2 HT
  go_upto_region 6 with fail
  obtain ⟨cb, hcb⟩ : ∃ cb, cb = w1.heap.size := ⟨_, rfl⟩
  have B0 := hid_as (Bc.start w1)
  rw [← hcb] at B0 ⊢
  have CB := hid_as hcb
  generalize hW : w1.alloc (.cells #[.slice none 0 0, .slice none 0 0] 25) = W0 at *
  clear hW hcb
  have B0 : Hid (Bc w1 W0 cb (.slice none 0 0) []) := by have := B0.out; exact this
  go_upto_region 7 with (go_at_call 19; refine (put_c _ _ B0.out (by decide)).mono ?_; rintro e W ⟨rfl, lv', hb⟩; have B1 := hid_as hb; clear hb)
  clear B0
  go_upto_region 8 with (go_at_call 19; refine (put_c _ _ B1.out (by decide)).mono ?_; rintro e W ⟨rfl, lv', hb⟩; have B2 := hid_as (hb.cast (wy1_start n)); clear hb)
  clear B1
  go_upto_region 9 with fail
  go_loopw [9] (fun i wr => ∃ j : Nat, j ≤ n ∧ i = .int .i64 j ∧ ∃ lv, Bc w1 wr cb lv (wy1 n j)) (fun i _ => n - (intOf i).toNat)
  case atStart => exact ⟨0, by omega, rfl, _, B2.out⟩
  case round =>
    obtain ⟨j, hj, rfl, lv, hb⟩ := hrel
    have BC := hid_as hb
    clear hb B2
    have LE : Hid ((wy1 n j).length ≤ 600) := by rw [wy1_len]; show j + 2 ≤ 600; omega
    by_cases hjn : j < n
    · have hj2 : (j : Int) < (n : Int) := by omega
      go_wp2_with (go_at_call 19; refine (put_c _ _ BC.out LE.out).mono ?_; rintro e W ⟨rfl, lv', hb⟩; have EN := hid_as (hb.cast (wy1_next n j)); clear hb)
      go_roundw
      case rel => exact ⟨j + 1, by omega, by go_num, _, EN.out⟩
      case measure => simp [intOf]; omega
    · obtain rfl : j = n := by omega
      go_upto_region 13 with (go_at_call 19; refine (put_c _ _ BC.out LE.out).mono ?_; rintro e W ⟨rfl, lv', hb⟩; have B3 := hid_as (hb.cast (wy2_start j m)); clear hb)
      clear BC LE
      go_upto_region 14 with fail
      go_loopw [10] (fun i wr => ∃ h : Nat, h ≤ m ∧ i = .int .i64 h ∧ ∃ lv, Bc w1 wr cb lv (wy2 j m h)) (fun i _ => m - (intOf i).toNat)
      case atStart => exact ⟨0, by omega, rfl, _, B3.out⟩
      case round =>
        obtain ⟨h, hh, rfl, lv2, hb⟩ := hrel
        have BC := hid_as hb
        clear hb B3
        have LE : Hid ((wy2 j m h).length ≤ 600) := by rw [wy2_len]; show j + h + 3 ≤ 600; omega
        by_cases hhm : h < m
        · have hh2 : (h : Int) < (m : Int) := by omega
          go_wp2_with (go_at_call 19; refine (put_c _ _ BC.out LE.out).mono ?_; rintro e W ⟨rfl, lv', hb⟩; have EN := hid_as (hb.cast (wy2_next j m h)); clear hb)
          go_roundw
          case rel => exact ⟨h + 1, by omega, by go_num, _, EN.out⟩
          case measure => simp [intOf]; omega
        · obtain rfl : h = m := by omega
          go_upto_region 18 with (go_at_call 19; refine (put_c _ _ BC.out LE.out).mono ?_; rintro e W ⟨rfl, lv', hb⟩; have B3 := hid_as hb; clear hb)
          clear BC LE
          cases back
          · go_upto_region 21 with (go_at_call 19; refine (put_c _ _ B3.out (by rw [List.length_append, wy2_len]; show j + h + 3 + 1 ≤ 600; omega)).mono ?_; rintro e W ⟨rfl, lv', hb⟩; have B4 := hid_as (hb.cast (wy2_end j h false)); clear hb)
            obtain ⟨va, vc, hv⟩ := own_shapeS B4.out.own
            subst hv
            clear B3
            generalize (wyc j h false).length = len at *
            have d0 := B4.out.c0
            have d1 := B4.out.c1
            have T4 := hid_as (T1.out.below B4.out.kb)
            have VT : Hid (Calls Tryd.prog 13 #[.agg #[.slice none 0 0, .slice va len vc]] W fun e w' => ∃ v, e = .returned v ∧ Err W (wya j h) v w' ∧ Below W.heap.size W w') := by
              obtain ⟨la, lc, e, CD⟩ := B4.out.cd (by rw [wyc_len]; omega)
              rw [e]
              refine (verify_c CD T4.out).mono ?_
              rintro e w' ⟨⟨r, v, hv, rfl, he⟩, hb⟩
              rw [hv.unique (wyc_ver j h false (by omega) (by omega))] at he
              exact ⟨v, rfl, he, hb⟩
            have K4 := hid_as (below_and KB.out B4.out.kb)
            have PC := hid_as (wya_cases j h)
            generalize wya j h = r at *
            go_upto_region 22 with (first | (go_at_call 13; refine VT.out.mono ?_; rintro e w5 ⟨v, rfl, he, b5⟩; have HE := hid_as he; have B5 := hid_as b5; clear he b5) | (go_at_call 12; refine (told_c HE.out (T4.out.below B5.out)).mono ?_; rintro e w6 ⟨rfl, b6⟩; have K6 := hid_as (below_and K4.out (below_and B5.out b6)); clear b6))
            obtain ⟨a, ha⟩ : ∃ a, a = tAt r := ⟨_, rfl⟩
            obtain ⟨er, he⟩ : ∃ er, er = tEr r := ⟨_, rfl⟩
            rw [← ha, ← he]
            rcases PC.out with ⟨p1, p2⟩ | ⟨p1, p2⟩
            · rw [p2] at ha he
              have hq : ((j : Int) == (h : Int)) = true := by rw [p1]; simp
              have hE0 : ((er : Int) == 0) = true := by rw [he]; rfl
              clear ha he VT HE PC p1
              go_wp2
              go_ret
              exact ⟨ret_bool rfl, K6.out⟩
            · rw [p2] at ha he
              have hq : ((j : Int) == (h : Int)) = false := by simp only [beq_eq_false_iff_ne, ne_eq]; omega
              have hE : ((er : Int) == 200) = true := by rw [he]; rfl
              have hA : ((a : Int) == (j : Int) + (h : Int) + 3) = true := by rw [ha]; simp [tAt]
              clear ha he VT HE PC p1
              go_wp2
              go_ret
              exact ⟨ret_bool rfl, K6.out⟩
          · go_upto_region 21 with (go_at_call 19; refine (put_c _ _ B3.out (by rw [List.length_append, wy2_len]; show j + h + 3 + 1 ≤ 600; omega)).mono ?_; rintro e W ⟨rfl, lv', hb⟩; have B4 := hid_as (hb.cast (wy2_end j h true)); clear hb)
            obtain ⟨va, vc, hv⟩ := own_shapeS B4.out.own
            subst hv
            clear B3
            generalize (wyc j h true).length = len at *
            have d0 := B4.out.c0
            have d1 := B4.out.c1
            have T4 := hid_as (T1.out.below B4.out.kb)
            have VT : Hid (Calls Tryd.prog 13 #[.agg #[.slice none 0 0, .slice va len vc]] W fun e w' => ∃ v, e = .returned v ∧ Err W (wya j h) v w' ∧ Below W.heap.size W w') := by
              obtain ⟨la, lc, e, CD⟩ := B4.out.cd (by rw [wyc_len]; omega)
              rw [e]
              refine (verify_c CD T4.out).mono ?_
              rintro e w' ⟨⟨r, v, hv, rfl, he⟩, hb⟩
              rw [hv.unique (wyc_ver j h true (by omega) (by omega))] at he
              exact ⟨v, rfl, he, hb⟩
            have K4 := hid_as (below_and KB.out B4.out.kb)
            have PC := hid_as (wya_cases j h)
            generalize wya j h = r at *
            go_upto_region 22 with (first | (go_at_call 13; refine VT.out.mono ?_; rintro e w5 ⟨v, rfl, he, b5⟩; have HE := hid_as he; have B5 := hid_as b5; clear he b5) | (go_at_call 12; refine (told_c HE.out (T4.out.below B5.out)).mono ?_; rintro e w6 ⟨rfl, b6⟩; have K6 := hid_as (below_and K4.out (below_and B5.out b6)); clear b6))
            obtain ⟨a, ha⟩ : ∃ a, a = tAt r := ⟨_, rfl⟩
            obtain ⟨er, he⟩ : ∃ er, er = tEr r := ⟨_, rfl⟩
            rw [← ha, ← he]
            rcases PC.out with ⟨p1, p2⟩ | ⟨p1, p2⟩
            · rw [p2] at ha he
              have hq : ((j : Int) == (h : Int)) = true := by rw [p1]; simp
              have hE0 : ((er : Int) == 0) = true := by rw [he]; rfl
              clear ha he VT HE PC p1
              go_wp2
              go_ret
              exact ⟨ret_bool rfl, K6.out⟩
            · rw [p2] at ha he
              have hq : ((j : Int) == (h : Int)) = false := by simp only [beq_eq_false_iff_ne, ne_eq]; omega
              have hE : ((er : Int) == 200) = true := by rw [he]; rfl
              have hA : ((a : Int) == (j : Int) + (h : Int) + 3) = true := by rw [ha]; simp [tAt]
              clear ha he VT HE PC p1
              go_wp2
              go_ret
              exact ⟨ret_bool rfl, K6.out⟩
end Go.Proofs.YtkknfolahfmghaaDoor
