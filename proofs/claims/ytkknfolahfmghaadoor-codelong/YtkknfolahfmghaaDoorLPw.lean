/- The walk of CodePicks (stage 20). -/
import Derived.Test.YtkknfolahfmghaaDoorLPi
import Derived.Deep.CutRange
import Derived.Deep.CutBlock
namespace Go.Proofs.YtkknfolahfmghaaDoor
open Go.RowKit
open Fb Cod
theorem new_cells (w : World) (vs : List Value) (e : TypeId) : ∀ j u, vs[j]? = some u → (w.alloc (.cells vs.toArray e)).cell? ((⟨w.heap.size, 0, none⟩ : Addr).add j) = some u := fun j u hj => (lies_new w vs e).news j u hj
theorem pka_cases (n : Nat) (k : Int) : (k < 0 ∧ pka n k = some n) ∨ (¬ k < 0 ∧ 256 ≤ k ∧ pka n k = some n) ∨ (¬ k < 0 ∧ ¬ 256 ≤ k ∧ 256 < n ∧ pka n k = some 256) ∨ (¬ k < 0 ∧ ¬ 256 ≤ k ∧ ¬ 256 < n ∧ k < n ∧ n < 256 ∧ pka n k = none) ∨ (¬ k < 0 ∧ ¬ 256 ≤ k ∧ ¬ 256 < n ∧ k < n ∧ ¬ n < 256 ∧ pka n k = some n) ∨ (¬ k < 0 ∧ ¬ 256 ≤ k ∧ ¬ 256 < n ∧ ¬ k < n ∧ pka n k = some n) := by
  unfold pka
  by_cases h1 : k < 0
  · exact Or.inl ⟨h1, if_pos (Or.inl h1)⟩
  refine Or.inr ?_
  by_cases h2 : 256 ≤ k
  · exact Or.inl ⟨h1, h2, if_pos (Or.inr h2)⟩
  refine Or.inr ?_
  rw [if_neg (fun h => h.elim h1 h2)]
  by_cases h3 : 256 < n
  · exact Or.inl ⟨h1, h2, h3, if_pos h3⟩
  refine Or.inr ?_
  rw [if_neg h3]
  by_cases h4 : k < n
  · by_cases h5 : n < 256
    · exact Or.inl ⟨h1, h2, h3, h4, h5, if_pos ⟨h4, h5⟩⟩
    · exact Or.inr (Or.inl ⟨h1, h2, h3, h4, h5, if_neg (fun h => h5 h.2)⟩)
  · exact Or.inr (Or.inr ⟨h1, h2, h3, h4, if_neg (fun h => h4 h.1)⟩)
set_option maxHeartbeats 800000 in
set_option maxRecDepth 100000 in
theorem picks_w {w : World} (n0 k0 : Int) (hT : Tabs w) : Calls Tryd.prog 8 #[.int .i64 n0, .int .i64 k0] w fun e w' => e = .returned (.bool true) ∧ Below w.heap.size w w' := by
  obtain ⟨i0, hi0, hz0, hz1, hz2⟩ := info_parts Tryd.infoIns
  have KN := hid_as (known_c w hT)
  have P1 := hid_as (fun W : World => place_260 n0 W)
  have P2 := hid_as (fun W : World => place_300 k0 W)
  have HT := hid_as hT
  clear hT
  go_enter Tryd.func8, Tryd.ntmps8
  go_upto_region 4 with (first | (go_at_call 9; refine KN.out.mono ?_; rintro e w1 ⟨rfl, b1⟩) | (go_at_call 18; (with_reducible refine (P1.out _).mono ?_); rintro e w' ⟨n, hn, rfl, hw⟩; subst w') | (go_at_call 18; (with_reducible refine (P2.out _).mono ?_); rintro e w' ⟨q, hq, rfl, hw⟩; subst w'))
  have T1 := hid_as (HT.out.below b1)
  have KB := hid_as b1
  obtain ⟨k, hk⟩ : ∃ k : Int, k = (q : Int) - 20 := ⟨_, rfl⟩
  rw [← hk]
  have HK := hid_as hk
  clear b1 KN P1 P2 HT hk
  go_upto_region 6 with fail
  obtain ⟨cb, hcb⟩ : ∃ cb, cb = w1.heap.size := ⟨_, rfl⟩
  have B0 := hid_as (Bc.start w1)
  rw [← hcb] at B0 ⊢
  have CB := hid_as hcb
  generalize hW : w1.alloc (.cells #[.slice none 0 0, .slice none 0 0] 25) = W0 at *
  clear hW hcb
  have B0 : Hid (Bc w1 W0 cb (.slice none 0 0) []) := by have := B0.out; exact this
  go_loopw [6] (fun i wr => ∃ j : Nat, j ≤ n ∧ i = .int .i64 j ∧ ∃ lv, Bc w1 wr cb lv (psh 8 j)) (fun i _ => n - (intOf i).toNat)
  case atStart => exact ⟨0, by omega, rfl, _, B0.out⟩
  case round =>
    obtain ⟨j, hj, rfl, lv, hb⟩ := hrel
    have BC := hid_as hb
    clear hb B0
    have c1 := BC.out.c1
    have OW := hid_as BC.out.own
    by_cases hjn : j < n
    · have hj2 : (j : Int) < (n : Int) := by omega
      have LE : Hid ((psh 8 j).length ≤ 300) := by rw [psh_len]; show j ≤ 300; omega
      have NX := hid_as (psh_next 8 j)
      obtain ⟨wa, wc, hwv⟩ := own_shapeS OW.out
      subst hwv
      go_wp2_with (at_builtin; go_must (refine wpList_append_own_at _ rfl _ _ 23 rfl w1.heap.size 41 i0 (.agg #[.int .i64 0, .int .i64 0, .int .i64 0, .int .i64 0, .string ⟨#[]⟩]) 5 48 Tryd.underlying23 hi0 hz0 hz1 hz2 rfl (by decide) _ _ _ rfl (OW.out.alloc _) _ 1 1 (insv [⟨1, 8, 0, (j : Int), nos⟩]) rfl rfl (new_cells _ _ _) (one_ins _) (by unfold maxLen; have := LE.out; omega) (by have := LE.out; omega) (by have := BC.out.kb.size; simp; omega) ?_); intro v' w3 hown hgrow _ hat; obtain ⟨va, vc, hv⟩ := own_shapeS hown; subst hv; have E := BC.out.push (N := [⟨1, 8, 0, (j : Int), nos⟩]) hown hgrow hat; have g1' := cell_row (k := 1) E.1 rfl; have gf' := fun k => frozen_row (k := k) E.1; have EN := hid_as E.2; clear E hown hgrow hat)
      go_roundw
      case rel => exact ⟨j + 1, by omega, by go_num, _, by rw [NX.out]; exact EN.out⟩
      case measure => simp [intOf]; omega
    · obtain rfl : j = n := by omega
      have LE : Hid ((psh 8 j).length ≤ 300) := by rw [psh_len]; show j ≤ 300; omega
      obtain ⟨wa, wc, hwv⟩ := own_shapeS OW.out
      subst hwv
      go_upto_region 10 with (at_builtin; go_must (refine wpList_append_own_at _ rfl _ _ 23 rfl w1.heap.size 41 i0 (.agg #[.int .i64 0, .int .i64 0, .int .i64 0, .int .i64 0, .string ⟨#[]⟩]) 5 48 Tryd.underlying23 hi0 hz0 hz1 hz2 rfl (by decide) _ _ _ rfl (OW.out.alloc _) _ 2 2 (insv [⟨24, k, 0, 0, nos⟩, ⟨23, 0, 0, 0, nos⟩]) rfl rfl (new_cells _ _ _) (one_ins _) (by unfold maxLen; have := LE.out; omega) (by have := LE.out; omega) (by have := BC.out.kb.size; simp; omega) ?_); intro v' w3 hown hgrow _ hat; obtain ⟨va, vc, hv⟩ := own_shapeS hown; subst hv; have E := BC.out.push (N := [⟨24, k, 0, 0, nos⟩, ⟨23, 0, 0, 0, nos⟩]) hown hgrow hat; have g1' := cell_row (k := 1) E.1 rfl; have gf' := fun k => frozen_row (k := k) E.1; have EN := hid_as E.2; clear E hown hgrow hat)
      have B4 : Hid (Bc w1 (w3.setCell ⟨cb, 1, none⟩ (.slice va ((psh 8 j).length + 2) vc)) cb (.slice va ((psh 8 j).length + 2) vc) (pkc j k)) := EN.out
      clear EN OW BC LE
      generalize w3.setCell ⟨cb, 1, none⟩ (.slice va ((psh 8 j).length + 2) vc) = w4 at *
      generalize (psh 8 j).length + 2 = len at *
      have d0 := B4.out.c0
      have d1 := B4.out.c1
      have T4 := hid_as (T1.out.below B4.out.kb)
      have VT : Hid (Calls Tryd.prog 13 #[.agg #[.slice none 0 0, .slice va len vc]] w4 fun e w' => ∃ v, e = .returned v ∧ Err w4 (pka j k) v w' ∧ Below w4.heap.size w4 w') := by
        obtain ⟨la, lc, e, CD⟩ := B4.out.cd (by rw [pkc_len]; omega)
        rw [e]
        refine (verify_c CD T4.out).mono ?_
        rintro e w' ⟨⟨r, v, hv, rfl, he⟩, hb⟩
        rw [hv.unique (pkc_ver j k (by omega))] at he
        exact ⟨v, rfl, he, hb⟩
      have K4 := hid_as (below_and KB.out B4.out.kb)
      have PC := hid_as (pka_cases j k)
      generalize pka j k = r at *
      go_upto_region 11 with (first | (go_at_call 13; refine VT.out.mono ?_; rintro e w5 ⟨v, rfl, he, b5⟩; have HE := hid_as he; have B5 := hid_as b5; clear he b5) | (go_at_call 12; refine (told_c HE.out (T4.out.below B5.out)).mono ?_; rintro e w6 ⟨rfl, b6⟩; have K6 := hid_as (below_and K4.out (below_and B5.out b6)); clear b6))
      obtain ⟨a, ha⟩ : ∃ a, a = tAt r := ⟨_, rfl⟩
      obtain ⟨er, he⟩ : ∃ er, er = tEr r := ⟨_, rfl⟩
      rw [← ha, ← he]
      rcases PC.out with ⟨p1, p2⟩ | ⟨p1, p2, p3⟩ | ⟨p1, p2, p3, p4⟩ | ⟨p1, p2, p3, p4, p5, p6⟩ | ⟨p1, p2, p3, p4, p5, p6⟩ | ⟨p1, p2, p3, p4, p5⟩
      · rw [p2] at ha he
        have hE : ((er : Int) == 200) = true := by rw [he]; rfl
        have hE0 : ((er : Int) == 0) = false := by rw [he]; rfl
        have hA : ((a : Int) == (j : Int)) = true := by rw [ha]; simp [tAt]
        clear ha he VT HE PC
        go_wp2
        go_ret
        exact ⟨ret_bool rfl, K6.out⟩
      · rw [p3] at ha he
        have hE : ((er : Int) == 200) = true := by rw [he]; rfl
        have hE0 : ((er : Int) == 0) = false := by rw [he]; rfl
        have hA : ((a : Int) == (j : Int)) = true := by rw [ha]; simp [tAt]
        clear ha he VT HE PC
        go_wp2
        go_ret
        exact ⟨ret_bool rfl, K6.out⟩
      · rw [p4] at ha he
        have hE : ((er : Int) == 200) = true := by rw [he]; rfl
        have hE0 : ((er : Int) == 0) = false := by rw [he]; rfl
        have hA : ((a : Int) == 256) = true := by rw [ha]; simp [tAt]
        have p3' : (256 : Int) < (j : Int) := by omega
        clear ha he VT HE PC
        go_wp2
        go_ret
        exact ⟨ret_bool rfl, K6.out⟩
      · rw [p6] at ha he
        have hE : ((er : Int) == 200) = false := by rw [he]; rfl
        have hE0 : ((er : Int) == 0) = true := by rw [he]; rfl
        have p3' : ¬ (256 : Int) < (j : Int) := by omega
        have p5' : (j : Int) < 256 := by omega
        clear ha he VT HE PC
        go_wp2
        go_ret
        exact ⟨ret_bool rfl, K6.out⟩
      · rw [p6] at ha he
        have hE : ((er : Int) == 200) = true := by rw [he]; rfl
        have hE0 : ((er : Int) == 0) = false := by rw [he]; rfl
        have hA : ((a : Int) == (j : Int)) = true := by rw [ha]; simp [tAt]
        have p3' : ¬ (256 : Int) < (j : Int) := by omega
        have p5' : ¬ (j : Int) < 256 := by omega
        clear ha he VT HE PC
        go_wp2
        go_ret
        exact ⟨ret_bool rfl, K6.out⟩
      · rw [p5] at ha he
        have hE : ((er : Int) == 200) = true := by rw [he]; rfl
        have hE0 : ((er : Int) == 0) = false := by rw [he]; rfl
        have hA : ((a : Int) == (j : Int)) = true := by rw [ha]; simp [tAt]
        have p3' : ¬ (256 : Int) < (j : Int) := by omega
        clear ha he VT HE PC
        go_wp2
        go_ret
        exact ⟨ret_bool rfl, K6.out⟩
end Go.Proofs.YtkknfolahfmghaaDoor
