/- The reference's times behind a minus, walked (stage 12). -/
import Derived.Test.YtnponognncdkcaaDoorRE
namespace Go.Proofs.YtnponognncdkcaaDoor
open Go.RowKit
open Adr Lx
set_option maxHeartbeats 8000000 in
set_option maxRecDepth 100000 in
theorem time_minus (s : ByteArray) (g a : Nat) (w : World) (h : Sc w g s a) (hs : s.size ≤ 65536) (hm : chr s a = 45) : Calls Tryd.prog 70 #[.pointer (some ⟨g, 0, none⟩)] w fun e w' => e = .returned (.tuple #[.int .i64 (wrap64 (-(rtl (s.size + 1) (s.data.toList.drop (a + 1)) 0 0 0).1)), .bool (decide (0 < (rtl (s.size + 1) (s.data.toList.drop (a + 1)) 0 0 0).2.1))]) ∧ Sc w' g s (a + 1 + (rtl (s.size + 1) (s.data.toList.drop (a + 1)) 0 0 0).2.2) ∧ Turn g w w' := by
  have hS := hid_as h
  have hT := hid_as (Turn.refl g w)
  have hla : a < s.size := chr_lt (by rw [hm]; decide)
  have hm2 : (((chr s a).toNat : Int) == 45) = true := by rw [hm]; rfl
  have C0 : Hid (∀ W, Sc W g s a → Calls Tryd.prog 34 #[.pointer (some ⟨g, 0, none⟩), .int .i64 0] W fun e w' => e = .returned (.int .u8 (chr s a).toNat) ∧ Same W w') := fun W q => c_r s g a 0 W q (by omega) (by omega)
  have C1 := C0
  generalize hr : rtl (s.size + 1) (s.data.toList.drop (a + 1)) 0 0 0 = R at *
  replace hr := hid_as hr
  clear hm
  generalize (chr s a).toNat = cm at *
  go_enter Tryd.func70, Tryd.ntmps70
  go_wp2_with (go_at_call 34; (first | (with_reducible refine (C0.out _ hS.out).mono ?_) | (with_reducible refine (C1.out _ hS.out).mono ?_)); rintro e w1 ⟨rfl, k1⟩; replace hS := hid_as (hS.out.same k1); replace hT := hid_as (hT.out.trans (Turn.same k1)); clear k1; have d1 := hS.out.c1; have df := hS.out.fr)
  have hS0 : Hid (Sc (w1.setCell ⟨g, 1, none⟩ (.int .i64 ((a : Int) + 1))) g s (a + 1)) := by
    have q := hS.out.set (a + 1)
    rw [show ((a + 1 : Nat) : Int) = (a : Int) + 1 by omega] at q
    exact hid_as q
  have hT0 : Hid (Turn g w (w1.setCell ⟨g, 1, none⟩ (.int .i64 ((a : Int) + 1)))) := hid_as (hT.out.set 1 _)
  clear C0 C1 d1 df hS hT
  generalize w1.setCell ⟨g, 1, none⟩ (.int .i64 ((a : Int) + 1)) = W9 at *
  obtain ⟨B, hB⟩ : ∃ B, B = a + 1 := ⟨_, rfl⟩
  rw [← hB] at hS0 hr
  have hB2 : B ≤ s.size := by omega
  replace hB := hid_as hB
  go_loopw [5, 6, 7] (fun n l o wr => ∃ (k lp f : Nat) (N : Int), lp ≤ 5 ∧ B + k ≤ s.size ∧ s.size < B + k + f ∧ n = .int .i64 N ∧ l = .int .i64 ((lp : Int) - 1) ∧ o = .bool (decide (0 < lp)) ∧ Hid (Sc wr g s (B + k)) ∧ Hid (Turn g w wr) ∧ Hid (R = rtl f (s.data.toList.drop (B + k)) N lp k)) (fun n l o wr => s.size - atOf g wr)
  case atStart => exact ⟨0, 0, s.size + 1, 0, by omega, by omega, by omega, rfl, rfl, rfl, hS0, hT0, hid_as hr.out.symm⟩
  case round =>
    obtain ⟨k, lp, f, N, hlp, hk, hf, rfl, rfl, rfl, hS, hT, hR⟩ := hrel
    have hat := hid_as hS.out.atOf
    have C0 : Hid (∀ W, Sc W g s (B + k) → Calls Tryd.prog 34 #[.pointer (some ⟨g, 0, none⟩), .int .i64 0] W fun e w' => e = .returned (.int .u8 (chr s (B + k)).toNat) ∧ Same W w') := fun W q => c_r s g (B + k) 0 W q (by omega) (by omega)
    have C1 := C0
    obtain ⟨f, rfl⟩ : ∃ f', f = f' + 1 := ⟨f - 1, by omega⟩
    cases hd : dgt (chr s (B + k)) with
    | false =>
      have DC : Hid (∀ W, Calls Tryd.prog 52 #[.int .u8 (chr s (B + k)).toNat] W fun e w' => e = .returned (.bool false) ∧ w' = W) := fun W => by have q := rdigit_c (chr s (B + k)) W; rw [hd] at q; exact q
      have hR2 : Hid (R = (N, lp, k)) := by rw [hR.out, rtl, hdk_chr, okd_dgt, hd]; exact hid_as rfl
      clear hR hd
      generalize (chr s (B + k)).toNat = cc at *
      go_wp2_with (first
        | (go_at_call 34; (first | (with_reducible refine (C0.out _ hS.out).mono ?_) | (with_reducible refine (C1.out _ hS.out).mono ?_)); rintro e w1 ⟨rfl, k1⟩; replace hS := hid_as (hS.out.same k1); replace hT := hid_as (hT.out.trans (Turn.same k1)); clear k1; have d1 := hS.out.c1; have df := hS.out.fr)
        | (go_at_call 52; (with_reducible refine (DC.out _).mono ?_); rintro e w' ⟨rfl, hw⟩; subst w'))
      go_ret2
      exact ⟨by rw [hR2.out]; rfl, by rw [hR2.out, ← hB.out]; exact hS.out, hT.out⟩
    | true =>
      have DC : Hid (∀ W, Calls Tryd.prog 52 #[.int .u8 (chr s (B + k)).toNat] W fun e w' => e = .returned (.bool true) ∧ w' = W) := fun W => by have q := rdigit_c (chr s (B + k)) W; rw [hd] at q; exact q
      have ho : okd 10 (chr s (B + k)) = true := by rw [okd_dgt]; exact hd
      have hh : hdk 10 (s.data.toList.drop (B + k)) = true := by rw [hdk_chr]; exact ho
      obtain ⟨r1, r2, r3⟩ := rdg_le 10 (s.data.toList.drop (B + k)) 0 0 (by omega)
      have r4 := rdg_pos hh
      rw [List.length_drop, ← Lib.size_eq] at r3
      have DG : Hid (∀ W, Sc W g s (B + k) → Calls Tryd.prog 72 #[.pointer (some ⟨g, 0, none⟩), .int .i64 10] W fun e w' => e = .returned (.tuple #[.int .i64 ((rdg 10 (s.data.toList.drop (B + k)) 0 0).1 : Nat), .bool true]) ∧ Sc w' g s (B + k + (rdg 10 (s.data.toList.drop (B + k)) 0 0).2) ∧ Turn g W w') := fun W q => digits_yes s g (B + k) 10 W q (by omega) (by omega) ho
      have hR2 : Hid (R = if u1 (s.data.toList.drop (B + k + (rdg 10 (s.data.toList.drop (B + k)) 0 0).2)) ≤ lp then (N, lp, k) else rtl f (s.data.toList.drop (B + (k + ((rdg 10 (s.data.toList.drop (B + k)) 0 0).2 + uz (un (s.data.toList.drop (B + k + (rdg 10 (s.data.toList.drop (B + k)) 0 0).2))))))) (nst N (rdg 10 (s.data.toList.drop (B + k)) 0 0).1 (un (s.data.toList.drop (B + k + (rdg 10 (s.data.toList.drop (B + k)) 0 0).2)))) (u1 (s.data.toList.drop (B + k + (rdg 10 (s.data.toList.drop (B + k)) 0 0).2))) (k + ((rdg 10 (s.data.toList.drop (B + k)) 0 0).2 + uz (un (s.data.toList.drop (B + k + (rdg 10 (s.data.toList.drop (B + k)) 0 0).2)))))) := by
        rw [hR.out, rtl, if_pos hh]
        show _ = _
        simp only [List.drop_drop, Nat.add_assoc]
      clear hR hd ho hh
      generalize (rdg 10 (s.data.toList.drop (B + k)) 0 0).1 = V at *
      generalize (rdg 10 (s.data.toList.drop (B + k)) 0 0).2 = Z at *
      have B0 : Hid (∀ W, Sc W g s (B + k + Z) → Calls Tryd.prog 34 #[.pointer (some ⟨g, 0, none⟩), .int .i64 0] W fun e w' => e = .returned (.int .u8 (chr s (B + k + Z)).toNat) ∧ Same W w') := fun W q => c_r s g (B + k + Z) 0 W q (by omega) (by omega)
      have B1 : Hid (∀ W, Sc W g s (B + k + Z) → Calls Tryd.prog 34 #[.pointer (some ⟨g, 0, none⟩), .int .i64 1] W fun e w' => e = .returned (.int .u8 (chr s (B + k + Z + 1)).toNat) ∧ Same W w') := fun W q => c_r s g (B + k + Z) 1 W q (by omega) (by omega)
      have hu := un_chr s (B + k + Z)
      by_cases h0 : chr s (B + k + Z) = 100
      · have hcv := h0
        have e0 : un (s.data.toList.drop (B + k + Z)) = 0 := by rw [hu, h0]; rfl
        have g100 : (((chr s (B + k + Z)).toNat : Int) == 100) = true := by rw [h0]; rfl
        have e1 : u1 (s.data.toList.drop (B + k + Z)) = 1 := by unfold u1; rw [e0]; rfl
        rw [e1, e0] at hR2
        have hP : B + k + Z < s.size := chr_lt (by rw [hcv]; decide)
        clear hu e0 e1 hcv h0
        generalize (chr s (B + k + Z + 1)).toNat = c2 at *
        generalize (chr s (B + k + Z)).toNat = cc at *
        generalize (chr s (B + k)).toNat = c0 at *
        by_cases hl : 1 ≤ lp
        · have hR3 : Hid (R = (N, lp, k)) := by rw [hR2.out, if_pos hl]; exact hid_as rfl
          have hle : (0 : Int) ≤ (lp : Int) - 1 := by omega
          clear hR2
          go_wp2_with (first
            | (go_at_call 34; (first | (with_reducible refine (C0.out _ hS.out).mono ?_) | (with_reducible refine (B0.out _ hS.out).mono ?_) | (with_reducible refine (B1.out _ hS.out).mono ?_)); rintro e w1 ⟨rfl, k1⟩; replace hS := hid_as (hS.out.same k1); replace hT := hid_as (hT.out.trans (Turn.same k1)); clear k1; have d1 := hS.out.c1; have df := hS.out.fr)
            | (go_at_call 72; (with_reducible refine (DG.out _ hS.out).mono ?_); rintro e w3 ⟨rfl, s3, t3⟩; replace hS := hid_as s3; replace hT := hid_as (hT.out.trans t3); clear s3 t3; have d1 := hS.out.c1; have df := hS.out.fr)
            | (go_at_call 52; (with_reducible refine (DC.out _).mono ?_); rintro e w' ⟨rfl, hw⟩; subst w'))
          go_ret2
          refine ⟨by rw [hR3.out]; rfl, ?_, hT.out.set 1 _⟩
          have q := hS.out.set (B + k)
          rw [Int.natCast_add] at q
          rw [hR3.out, ← hB.out]
          exact q
        · have hR3 : Hid (R = rtl f (s.data.toList.drop (B + (k + (Z + 1)))) (nst N V 0) 1 (k + (Z + 1))) := by rw [hR2.out, if_neg hl]; exact hid_as rfl
          have hle : ¬ (0 : Int) ≤ (lp : Int) - 1 := by omega
          have hnn : Hid (nst N V 0 = min (wrap64 (N + min (wrap64 ((V : Int) * 86400000)) 1099511627776)) 1099511627776) := by
            unfold nst
            rw [show ((uM 0 : Nat) : Int) = 86400000 from rfl]
            exact hid_as rfl
          clear hR2
          go_wp2_with (first
            | (go_at_call 34; (first | (with_reducible refine (C0.out _ hS.out).mono ?_) | (with_reducible refine (B0.out _ hS.out).mono ?_) | (with_reducible refine (B1.out _ hS.out).mono ?_)); rintro e w1 ⟨rfl, k1⟩; replace hS := hid_as (hS.out.same k1); replace hT := hid_as (hT.out.trans (Turn.same k1)); clear k1; have d1 := hS.out.c1; have df := hS.out.fr)
            | (go_at_call 72; (with_reducible refine (DG.out _ hS.out).mono ?_); rintro e w3 ⟨rfl, s3, t3⟩; replace hS := hid_as s3; replace hT := hid_as (hT.out.trans t3); clear s3 t3; have d1 := hS.out.c1; have df := hS.out.fr)
            | (go_at_call 52; (with_reducible refine (DC.out _).mono ?_); rintro e w' ⟨rfl, hw⟩; subst w'))
          have hSn : Hid (Sc (w1.setCell ⟨g, 1, none⟩ (.int .i64 ((B : Int) + k + Z + 1))) g s (B + (k + (Z + 1)))) := by
            have q := hS.out.set (B + (k + (Z + 1)))
            rw [show ((B + (k + (Z + 1)) : Nat) : Int) = (B : Int) + k + Z + 1 by omega] at q
            exact hid_as q
          go_roundw
          case rel => exact ⟨k + (Z + 1), 1, f, nst N V 0, by omega, by omega, by omega, by rw [hnn.out], rfl, rfl, hid_as (hSn.out.below (below_new1 _ _)), hid_as ((hT.out.set 1 _).alloc _), hR3⟩
          case measure =>
            rw [(hSn.out.below (below_new1 _ _)).atOf, hat.out]
            omega
      · have g100 : (((chr s (B + k + Z)).toNat : Int) == 100) = false := ne_beq h0
        by_cases h1 : chr s (B + k + Z) = 104
        · have hcv := h1
          have e0 : un (s.data.toList.drop (B + k + Z)) = 1 := by rw [hu, h1]; rfl
          have g104 : (((chr s (B + k + Z)).toNat : Int) == 104) = true := by rw [h1]; rfl
          have e1 : u1 (s.data.toList.drop (B + k + Z)) = 2 := by unfold u1; rw [e0]; rfl
          rw [e1, e0] at hR2
          have hP : B + k + Z < s.size := chr_lt (by rw [hcv]; decide)
          clear hu e0 e1 hcv h0 h1
          generalize (chr s (B + k + Z + 1)).toNat = c2 at *
          generalize (chr s (B + k + Z)).toNat = cc at *
          generalize (chr s (B + k)).toNat = c0 at *
          by_cases hl : 2 ≤ lp
          · have hR3 : Hid (R = (N, lp, k)) := by rw [hR2.out, if_pos hl]; exact hid_as rfl
            have hle : (1 : Int) ≤ (lp : Int) - 1 := by omega
            clear hR2
            go_wp2_with (first
              | (go_at_call 34; (first | (with_reducible refine (C0.out _ hS.out).mono ?_) | (with_reducible refine (B0.out _ hS.out).mono ?_) | (with_reducible refine (B1.out _ hS.out).mono ?_)); rintro e w1 ⟨rfl, k1⟩; replace hS := hid_as (hS.out.same k1); replace hT := hid_as (hT.out.trans (Turn.same k1)); clear k1; have d1 := hS.out.c1; have df := hS.out.fr)
              | (go_at_call 72; (with_reducible refine (DG.out _ hS.out).mono ?_); rintro e w3 ⟨rfl, s3, t3⟩; replace hS := hid_as s3; replace hT := hid_as (hT.out.trans t3); clear s3 t3; have d1 := hS.out.c1; have df := hS.out.fr)
              | (go_at_call 52; (with_reducible refine (DC.out _).mono ?_); rintro e w' ⟨rfl, hw⟩; subst w'))
            go_ret2
            refine ⟨by rw [hR3.out]; rfl, ?_, hT.out.set 1 _⟩
            have q := hS.out.set (B + k)
            rw [Int.natCast_add] at q
            rw [hR3.out, ← hB.out]
            exact q
          · have hR3 : Hid (R = rtl f (s.data.toList.drop (B + (k + (Z + 1)))) (nst N V 1) 2 (k + (Z + 1))) := by rw [hR2.out, if_neg hl]; exact hid_as rfl
            have hle : ¬ (1 : Int) ≤ (lp : Int) - 1 := by omega
            have hnn : Hid (nst N V 1 = min (wrap64 (N + min ((V : Int) * 3600000) 1099511627776)) 1099511627776) := by
              unfold nst
              rw [show ((uM 1 : Nat) : Int) = 3600000 from rfl]
              rw [show wrap64 ((V : Int) * 3600000) = (V : Int) * 3600000 by unfold wrap64; omega]
              exact hid_as rfl
            clear hR2
            go_wp2_with (first
              | (go_at_call 34; (first | (with_reducible refine (C0.out _ hS.out).mono ?_) | (with_reducible refine (B0.out _ hS.out).mono ?_) | (with_reducible refine (B1.out _ hS.out).mono ?_)); rintro e w1 ⟨rfl, k1⟩; replace hS := hid_as (hS.out.same k1); replace hT := hid_as (hT.out.trans (Turn.same k1)); clear k1; have d1 := hS.out.c1; have df := hS.out.fr)
              | (go_at_call 72; (with_reducible refine (DG.out _ hS.out).mono ?_); rintro e w3 ⟨rfl, s3, t3⟩; replace hS := hid_as s3; replace hT := hid_as (hT.out.trans t3); clear s3 t3; have d1 := hS.out.c1; have df := hS.out.fr)
              | (go_at_call 52; (with_reducible refine (DC.out _).mono ?_); rintro e w' ⟨rfl, hw⟩; subst w'))
            have hSn : Hid (Sc (w1.setCell ⟨g, 1, none⟩ (.int .i64 ((B : Int) + k + Z + 1))) g s (B + (k + (Z + 1)))) := by
              have q := hS.out.set (B + (k + (Z + 1)))
              rw [show ((B + (k + (Z + 1)) : Nat) : Int) = (B : Int) + k + Z + 1 by omega] at q
              exact hid_as q
            go_roundw
            case rel => exact ⟨k + (Z + 1), 2, f, nst N V 1, by omega, by omega, by omega, by rw [hnn.out], rfl, rfl, hid_as (hSn.out.below (below_new1 _ _)), hid_as ((hT.out.set 1 _).alloc _), hR3⟩
            case measure =>
              rw [(hSn.out.below (below_new1 _ _)).atOf, hat.out]
              omega
        · have g104 : (((chr s (B + k + Z)).toNat : Int) == 104) = false := ne_beq h1
          by_cases h2 : chr s (B + k + Z) = 109
          · have hcv := h2
            have g109 : (((chr s (B + k + Z)).toNat : Int) == 109) = true := by rw [h2]; rfl
            by_cases h3 : chr s (B + k + Z + 1) = 115
            · have hdv := h3
              have e0 : un (s.data.toList.drop (B + k + Z)) = 4 := by rw [hu, h2, h3]; rfl
              have g115 : (((chr s (B + k + Z + 1)).toNat : Int) == 115) = true := by rw [h3]; rfl
              have e1 : u1 (s.data.toList.drop (B + k + Z)) = 5 := by unfold u1; rw [e0]; rfl
              rw [e1, e0] at hR2
              have hP : B + k + Z < s.size := chr_lt (by rw [hcv]; decide)
              have hP2 : B + k + Z + 1 < s.size := chr_lt (by rw [hdv]; decide)
              clear hu e0 e1 hcv hdv h0 h1 h2 h3
              generalize (chr s (B + k + Z + 1)).toNat = c2 at *
              generalize (chr s (B + k + Z)).toNat = cc at *
              generalize (chr s (B + k)).toNat = c0 at *
              by_cases hl : 5 ≤ lp
              · have hR3 : Hid (R = (N, lp, k)) := by rw [hR2.out, if_pos hl]; exact hid_as rfl
                have hle : (4 : Int) ≤ (lp : Int) - 1 := by omega
                clear hR2
                go_wp2_with (first
                  | (go_at_call 34; (first | (with_reducible refine (C0.out _ hS.out).mono ?_) | (with_reducible refine (B0.out _ hS.out).mono ?_) | (with_reducible refine (B1.out _ hS.out).mono ?_)); rintro e w1 ⟨rfl, k1⟩; replace hS := hid_as (hS.out.same k1); replace hT := hid_as (hT.out.trans (Turn.same k1)); clear k1; have d1 := hS.out.c1; have df := hS.out.fr)
                  | (go_at_call 72; (with_reducible refine (DG.out _ hS.out).mono ?_); rintro e w3 ⟨rfl, s3, t3⟩; replace hS := hid_as s3; replace hT := hid_as (hT.out.trans t3); clear s3 t3; have d1 := hS.out.c1; have df := hS.out.fr)
                  | (go_at_call 52; (with_reducible refine (DC.out _).mono ?_); rintro e w' ⟨rfl, hw⟩; subst w'))
                go_ret2
                refine ⟨by rw [hR3.out]; rfl, ?_, hT.out.set 1 _⟩
                have q := hS.out.set (B + k)
                rw [Int.natCast_add] at q
                rw [hR3.out, ← hB.out]
                exact q
              · have hR3 : Hid (R = rtl f (s.data.toList.drop (B + (k + (Z + 2)))) (nst N V 4) 5 (k + (Z + 2))) := by rw [hR2.out, if_neg hl]; exact hid_as rfl
                have hle : ¬ (4 : Int) ≤ (lp : Int) - 1 := by omega
                have hnn : Hid (nst N V 4 = min (wrap64 (N + min ((V : Int)) 1099511627776)) 1099511627776) := by
                  unfold nst
                  rw [show ((uM 4 : Nat) : Int) = 1 from rfl]
                  rw [show wrap64 ((V : Int) * 1) = (V : Int) by unfold wrap64; omega]
                  exact hid_as rfl
                clear hR2
                go_wp2_with (first
                  | (go_at_call 34; (first | (with_reducible refine (C0.out _ hS.out).mono ?_) | (with_reducible refine (B0.out _ hS.out).mono ?_) | (with_reducible refine (B1.out _ hS.out).mono ?_)); rintro e w1 ⟨rfl, k1⟩; replace hS := hid_as (hS.out.same k1); replace hT := hid_as (hT.out.trans (Turn.same k1)); clear k1; have d1 := hS.out.c1; have df := hS.out.fr)
                  | (go_at_call 72; (with_reducible refine (DG.out _ hS.out).mono ?_); rintro e w3 ⟨rfl, s3, t3⟩; replace hS := hid_as s3; replace hT := hid_as (hT.out.trans t3); clear s3 t3; have d1 := hS.out.c1; have df := hS.out.fr)
                  | (go_at_call 52; (with_reducible refine (DC.out _).mono ?_); rintro e w' ⟨rfl, hw⟩; subst w'))
                have hSn : Hid (Sc ((w1.setCell ⟨g, 1, none⟩ (.int .i64 ((B : Int) + k + Z + 1))).setCell ⟨g, 1, none⟩ (.int .i64 ((B : Int) + k + Z + 1 + 1))) g s (B + (k + (Z + 2)))) := by
                  have q := (hS.out.set (B + (k + (Z + 1)))).set (B + (k + (Z + 2)))
                  rw [show ((B + (k + (Z + 1)) : Nat) : Int) = (B : Int) + k + Z + 1 by omega, show ((B + (k + (Z + 2)) : Nat) : Int) = (B : Int) + k + Z + 1 + 1 by omega] at q
                  exact hid_as q
                go_roundw
                case rel => exact ⟨k + (Z + 2), 5, f, nst N V 4, by omega, by omega, by omega, by rw [hnn.out], rfl, rfl, hid_as (hSn.out.below (below_new1 _ _)), hid_as (((hT.out.set 1 _).set 1 _).alloc _), hR3⟩
                case measure =>
                  rw [(hSn.out.below (below_new1 _ _)).atOf, hat.out]
                  omega
            · have e0 : un (s.data.toList.drop (B + k + Z)) = 2 := by rw [hu, h2]; unfold unC; rw [if_neg (by decide), if_neg (by decide), if_pos rfl, if_neg h3]
              have g115 : (((chr s (B + k + Z + 1)).toNat : Int) == 115) = false := ne_beq h3
              have e1 : u1 (s.data.toList.drop (B + k + Z)) = 3 := by unfold u1; rw [e0]; rfl
              rw [e1, e0] at hR2
              have hP : B + k + Z < s.size := chr_lt (by rw [hcv]; decide)
              clear hu e0 e1 hcv h0 h1 h2 h3
              generalize (chr s (B + k + Z + 1)).toNat = c2 at *
              generalize (chr s (B + k + Z)).toNat = cc at *
              generalize (chr s (B + k)).toNat = c0 at *
              by_cases hl : 3 ≤ lp
              · have hR3 : Hid (R = (N, lp, k)) := by rw [hR2.out, if_pos hl]; exact hid_as rfl
                have hle : (2 : Int) ≤ (lp : Int) - 1 := by omega
                clear hR2
                go_wp2_with (first
                  | (go_at_call 34; (first | (with_reducible refine (C0.out _ hS.out).mono ?_) | (with_reducible refine (B0.out _ hS.out).mono ?_) | (with_reducible refine (B1.out _ hS.out).mono ?_)); rintro e w1 ⟨rfl, k1⟩; replace hS := hid_as (hS.out.same k1); replace hT := hid_as (hT.out.trans (Turn.same k1)); clear k1; have d1 := hS.out.c1; have df := hS.out.fr)
                  | (go_at_call 72; (with_reducible refine (DG.out _ hS.out).mono ?_); rintro e w3 ⟨rfl, s3, t3⟩; replace hS := hid_as s3; replace hT := hid_as (hT.out.trans t3); clear s3 t3; have d1 := hS.out.c1; have df := hS.out.fr)
                  | (go_at_call 52; (with_reducible refine (DC.out _).mono ?_); rintro e w' ⟨rfl, hw⟩; subst w'))
                go_ret2
                refine ⟨by rw [hR3.out]; rfl, ?_, hT.out.set 1 _⟩
                have q := hS.out.set (B + k)
                rw [Int.natCast_add] at q
                rw [hR3.out, ← hB.out]
                exact q
              · have hR3 : Hid (R = rtl f (s.data.toList.drop (B + (k + (Z + 1)))) (nst N V 2) 3 (k + (Z + 1))) := by rw [hR2.out, if_neg hl]; exact hid_as rfl
                have hle : ¬ (2 : Int) ≤ (lp : Int) - 1 := by omega
                have hnn : Hid (nst N V 2 = min (wrap64 (N + min ((V : Int) * 60000) 1099511627776)) 1099511627776) := by
                  unfold nst
                  rw [show ((uM 2 : Nat) : Int) = 60000 from rfl]
                  rw [show wrap64 ((V : Int) * 60000) = (V : Int) * 60000 by unfold wrap64; omega]
                  exact hid_as rfl
                clear hR2
                go_wp2_with (first
                  | (go_at_call 34; (first | (with_reducible refine (C0.out _ hS.out).mono ?_) | (with_reducible refine (B0.out _ hS.out).mono ?_) | (with_reducible refine (B1.out _ hS.out).mono ?_)); rintro e w1 ⟨rfl, k1⟩; replace hS := hid_as (hS.out.same k1); replace hT := hid_as (hT.out.trans (Turn.same k1)); clear k1; have d1 := hS.out.c1; have df := hS.out.fr)
                  | (go_at_call 72; (with_reducible refine (DG.out _ hS.out).mono ?_); rintro e w3 ⟨rfl, s3, t3⟩; replace hS := hid_as s3; replace hT := hid_as (hT.out.trans t3); clear s3 t3; have d1 := hS.out.c1; have df := hS.out.fr)
                  | (go_at_call 52; (with_reducible refine (DC.out _).mono ?_); rintro e w' ⟨rfl, hw⟩; subst w'))
                have hSn : Hid (Sc (w1.setCell ⟨g, 1, none⟩ (.int .i64 ((B : Int) + k + Z + 1))) g s (B + (k + (Z + 1)))) := by
                  have q := hS.out.set (B + (k + (Z + 1)))
                  rw [show ((B + (k + (Z + 1)) : Nat) : Int) = (B : Int) + k + Z + 1 by omega] at q
                  exact hid_as q
                go_roundw
                case rel => exact ⟨k + (Z + 1), 3, f, nst N V 2, by omega, by omega, by omega, by rw [hnn.out], rfl, rfl, hid_as (hSn.out.below (below_new1 _ _)), hid_as ((hT.out.set 1 _).alloc _), hR3⟩
                case measure =>
                  rw [(hSn.out.below (below_new1 _ _)).atOf, hat.out]
                  omega
          · have g109 : (((chr s (B + k + Z)).toNat : Int) == 109) = false := ne_beq h2
            by_cases h3 : chr s (B + k + Z) = 115
            · have hcv := h3
              have e0 : un (s.data.toList.drop (B + k + Z)) = 3 := by rw [hu, h3]; rfl
              have g115 : (((chr s (B + k + Z)).toNat : Int) == 115) = true := by rw [h3]; rfl
              have e1 : u1 (s.data.toList.drop (B + k + Z)) = 4 := by unfold u1; rw [e0]; rfl
              rw [e1, e0] at hR2
              have hP : B + k + Z < s.size := chr_lt (by rw [hcv]; decide)
              clear hu e0 e1 hcv h0 h1 h2 h3
              generalize (chr s (B + k + Z + 1)).toNat = c2 at *
              generalize (chr s (B + k + Z)).toNat = cc at *
              generalize (chr s (B + k)).toNat = c0 at *
              by_cases hl : 4 ≤ lp
              · have hR3 : Hid (R = (N, lp, k)) := by rw [hR2.out, if_pos hl]; exact hid_as rfl
                have hle : (3 : Int) ≤ (lp : Int) - 1 := by omega
                clear hR2
                go_wp2_with (first
                  | (go_at_call 34; (first | (with_reducible refine (C0.out _ hS.out).mono ?_) | (with_reducible refine (B0.out _ hS.out).mono ?_) | (with_reducible refine (B1.out _ hS.out).mono ?_)); rintro e w1 ⟨rfl, k1⟩; replace hS := hid_as (hS.out.same k1); replace hT := hid_as (hT.out.trans (Turn.same k1)); clear k1; have d1 := hS.out.c1; have df := hS.out.fr)
                  | (go_at_call 72; (with_reducible refine (DG.out _ hS.out).mono ?_); rintro e w3 ⟨rfl, s3, t3⟩; replace hS := hid_as s3; replace hT := hid_as (hT.out.trans t3); clear s3 t3; have d1 := hS.out.c1; have df := hS.out.fr)
                  | (go_at_call 52; (with_reducible refine (DC.out _).mono ?_); rintro e w' ⟨rfl, hw⟩; subst w'))
                go_ret2
                refine ⟨by rw [hR3.out]; rfl, ?_, hT.out.set 1 _⟩
                have q := hS.out.set (B + k)
                rw [Int.natCast_add] at q
                rw [hR3.out, ← hB.out]
                exact q
              · have hR3 : Hid (R = rtl f (s.data.toList.drop (B + (k + (Z + 1)))) (nst N V 3) 4 (k + (Z + 1))) := by rw [hR2.out, if_neg hl]; exact hid_as rfl
                have hle : ¬ (3 : Int) ≤ (lp : Int) - 1 := by omega
                have hnn : Hid (nst N V 3 = min (wrap64 (N + min ((V : Int) * 1000) 1099511627776)) 1099511627776) := by
                  unfold nst
                  rw [show ((uM 3 : Nat) : Int) = 1000 from rfl]
                  rw [show wrap64 ((V : Int) * 1000) = (V : Int) * 1000 by unfold wrap64; omega]
                  exact hid_as rfl
                clear hR2
                go_wp2_with (first
                  | (go_at_call 34; (first | (with_reducible refine (C0.out _ hS.out).mono ?_) | (with_reducible refine (B0.out _ hS.out).mono ?_) | (with_reducible refine (B1.out _ hS.out).mono ?_)); rintro e w1 ⟨rfl, k1⟩; replace hS := hid_as (hS.out.same k1); replace hT := hid_as (hT.out.trans (Turn.same k1)); clear k1; have d1 := hS.out.c1; have df := hS.out.fr)
                  | (go_at_call 72; (with_reducible refine (DG.out _ hS.out).mono ?_); rintro e w3 ⟨rfl, s3, t3⟩; replace hS := hid_as s3; replace hT := hid_as (hT.out.trans t3); clear s3 t3; have d1 := hS.out.c1; have df := hS.out.fr)
                  | (go_at_call 52; (with_reducible refine (DC.out _).mono ?_); rintro e w' ⟨rfl, hw⟩; subst w'))
                have hSn : Hid (Sc (w1.setCell ⟨g, 1, none⟩ (.int .i64 ((B : Int) + k + Z + 1))) g s (B + (k + (Z + 1)))) := by
                  have q := hS.out.set (B + (k + (Z + 1)))
                  rw [show ((B + (k + (Z + 1)) : Nat) : Int) = (B : Int) + k + Z + 1 by omega] at q
                  exact hid_as q
                go_roundw
                case rel => exact ⟨k + (Z + 1), 4, f, nst N V 3, by omega, by omega, by omega, by rw [hnn.out], rfl, rfl, hid_as (hSn.out.below (below_new1 _ _)), hid_as ((hT.out.set 1 _).alloc _), hR3⟩
                case measure =>
                  rw [(hSn.out.below (below_new1 _ _)).atOf, hat.out]
                  omega
            · have e0 : un (s.data.toList.drop (B + k + Z)) = 5 := by rw [hu]; unfold unC; rw [if_neg h0, if_neg h1, if_neg h2, if_neg h3]
              have g115 : (((chr s (B + k + Z)).toNat : Int) == 115) = false := ne_beq h3
              have e1 : u1 (s.data.toList.drop (B + k + Z)) = 0 := by unfold u1; rw [e0]; rfl
              rw [e1, e0] at hR2
              clear hu e0 e1 h0 h1 h2 h3
              generalize (chr s (B + k + Z + 1)).toNat = c2 at *
              generalize (chr s (B + k + Z)).toNat = cc at *
              generalize (chr s (B + k)).toNat = c0 at *
              have hR3 : Hid (R = (N, lp, k)) := by rw [hR2.out, if_pos (by omega)]; exact hid_as rfl
              have hle : (-1 : Int) ≤ (lp : Int) - 1 := by omega
              clear hR2
              go_wp2_with (first
                | (go_at_call 34; (first | (with_reducible refine (C0.out _ hS.out).mono ?_) | (with_reducible refine (B0.out _ hS.out).mono ?_) | (with_reducible refine (B1.out _ hS.out).mono ?_)); rintro e w1 ⟨rfl, k1⟩; replace hS := hid_as (hS.out.same k1); replace hT := hid_as (hT.out.trans (Turn.same k1)); clear k1; have d1 := hS.out.c1; have df := hS.out.fr)
                | (go_at_call 72; (with_reducible refine (DG.out _ hS.out).mono ?_); rintro e w3 ⟨rfl, s3, t3⟩; replace hS := hid_as s3; replace hT := hid_as (hT.out.trans t3); clear s3 t3; have d1 := hS.out.c1; have df := hS.out.fr)
                | (go_at_call 52; (with_reducible refine (DC.out _).mono ?_); rintro e w' ⟨rfl, hw⟩; subst w'))
              go_ret2
              refine ⟨by rw [hR3.out]; rfl, ?_, hT.out.set 1 _⟩
              have q := hS.out.set (B + k)
              rw [Int.natCast_add] at q
              rw [hR3.out, ← hB.out]
              exact q
end Go.Proofs.YtnponognncdkcaaDoor
