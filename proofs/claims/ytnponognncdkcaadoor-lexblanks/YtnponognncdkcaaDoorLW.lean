/- The law of words (stage 12). -/
import Derived.Test.YtnponognncdkcaaDoorX3
import Derived.Test.YtnponognncdkcaaDoorR1
import Derived.Test.YtnponognncdkcaaDoorP5
import Derived.Deep.CutRange
import Derived.Deep.CutBlock
namespace Go.Proofs.YtnponognncdkcaaDoor
open Go.RowKit
open Adr Lx
theorem word_r_t (l : List UInt8) (w : World) : Calls Tryd.prog 12 #[.string (tx l)] w fun e w' => e = .returned (.bool (wrd l)) ∧ Below w.heap.size w w' := by
  have h := word_r (tx l) w
  rw [tx_list] at h
  exact h
theorem known_b (w : World) (hT : Tabs w) : Calls Tryd.prog 8 #[] w fun e w' => e = .returned (.bool true) ∧ Below w.heap.size w w' ∧ Tabs w' :=
  (known_c w hT).mono fun _ _ ⟨a, b⟩ => ⟨a, b, hT.below b⟩
theorem two_of_len {L : List (Tk × Nat)} (h : L.length = 2) : ∃ a b, L = [a, b] := by
  match L, h with
  | [a, b], _ => exact ⟨a, b, rfl⟩
set_option maxHeartbeats 4000000 in
theorem words_w (s : ByteArray) (w : World) (hT : Tabs w) : Calls Tryd.prog 4 #[.string s] w fun e w' => e = .returned (.bool true) ∧ Below w.heap.size w w' := by
  have K := hid_as (known_b w hT)
  by_cases hbig : 100 < s.size
  · have hb' : (100 : Int) < s.size := by omega
    go_enter Tryd.func4, Tryd.ntmps4
    go_wp2_with (go_at_call 8; refine K.out.mono ?_; rintro e w1 ⟨rfl, b1, hT1⟩)
    go_ret
    exact ⟨rfl, b1⟩
  · have hb' : ¬ (100 : Int) < s.size := by omega
    have WC := hid_as (fun W hW => Word_c s W hW)
    have WR := hid_as (fun W => word_r s W)
    generalize wrd s.data.toList = wb at *
    have hbeq : (wb != wb) = false := by simp
    cases hbad : (toks s.data.toList false).2 with
    | some p =>
      obtain ⟨a, n⟩ := p
      have TK := hid_as (fun W hW => tokens_no (s := s) (il := false) hbad (by omega) W hW)
      cases wb
      all_goals
        go_enter Tryd.func4, Tryd.ntmps4
        go_wp2_with (first
          | (go_at_call 8; refine K.out.mono ?_; rintro e w1 ⟨rfl, b1, hT1⟩; have hB1 := hid_as b1; replace hT1 := hid_as hT1; clear b1)
          | (go_at_call 11; refine (WC.out _ hT1.out).mono ?_; rintro e w' ⟨rfl, hw⟩; subst w')
          | (go_at_call 12; refine (WR.out _).mono ?_; rintro e w2 ⟨rfl, b2⟩; have hB2 := hid_as (below_and hB1.out b2); have hT2 := hid_as (hT1.out.below b2); clear b2)
          | (go_at_call 9; refine (TK.out _ hT2.out).mono ?_; rintro e w3 ⟨g3, rfl, z3, y3, d0, d1, b3⟩; have hB3 := hid_as (below_and hB2.out b3); clear b3))
        go_ret
        exact ⟨rfl, hB3.out⟩
    | none =>
      have hL : toks s.data.toList false = ((toks s.data.toList false).1, none) := by rw [← hbad]
      have hW := toks_wrd (l := s.data.toList) (il := false)
      generalize (toks s.data.toList false).1 = L at *
      have TK := hid_as (fun W hW => tokens_yes (s := s) (il := false) hL (by omega) W hW)
      clear hL hbad
      by_cases h2 : L.length = 2
      · obtain ⟨⟨⟨ta, tb, tc, td⟩, ax⟩, y, rfl⟩ := two_of_len h2
        have hw := hW _ (List.mem_cons_self)
        replace hw : (ta = 1 → wrd td = true) ∧ (ta = 2 → wrd td = false) := hw
        clear hW h2
        have WR2 := hid_as (fun W => word_r_t td W)
        replace TK : Hid (∀ W, Tabs W → Calls Tryd.prog 9 #[.string s, .bool false] W fun e w' => ∃ g cap, e = .returned (.tuple #[.slice (some ⟨g, 0, none⟩) 2 cap, .nilIface]) ∧ g < w'.heap.size ∧ (w'.cell? ⟨g, 0, none⟩ = some (.int .i64 (ta : Nat)) ∧ w'.cell? ⟨g, 3, none⟩ = some (.string (tx td))) ∧ Below W.heap.size W w') := by
          intro W hW
          refine (TK.out W hW).mono ?_
          rintro e w' ⟨g, cap, he, h1, h2, h3, h4⟩
          exact ⟨g, cap, he, h2, ⟨h3 0 _ rfl, h3 3 _ rfl⟩, h4⟩
        by_cases h1 : ta = 1 ∨ ta = 2
        · have hk : ((ta : Int) == 1) = wrd td := by
            rcases h1 with rfl | rfl
            · rw [hw.1 rfl]; rfl
            · rw [hw.2 rfl]; rfl
          clear hw
          generalize wrd td = vb at *
          rcases h1 with rfl | rfl
          · obtain rfl : true = vb := hk
            cases wb
            all_goals
              go_enter Tryd.func4, Tryd.ntmps4
              go_upto_region 10 with (first
                | (go_at_call 8; refine K.out.mono ?_; rintro e w1 ⟨rfl, b1, hT1⟩; have hB1 := hid_as b1; replace hT1 := hid_as hT1; clear b1)
                | (go_at_call 11; refine (WC.out _ hT1.out).mono ?_; rintro e w' ⟨rfl, hw⟩; subst w')
                | (go_at_call 12; refine (WR.out _).mono ?_; rintro e w2 ⟨rfl, b2⟩; have hB2 := hid_as (below_and hB1.out b2); have hT2 := hid_as (hT1.out.below b2); clear b2)
                | (go_at_call 9; (with_reducible refine (TK.out _ hT2.out).mono ?_); rintro e w3 ⟨g3, p3, rfl, y3, ⟨q0, q3⟩, b3⟩; have hB3 := hid_as (below_and hB2.out b3); clear b3))
              have CA : Hid (∀ W, Below w3.heap.size w3 W → W.cell? ⟨g3, 0, none⟩ = some (.int .i64 1) ∧ W.cell? ⟨g3, 3, none⟩ = some (.string (tx td))) := fun W b => ⟨(b.cell (p := ⟨g3, 0, none⟩) y3).trans q0, (b.cell (p := ⟨g3, 3, none⟩) y3).trans q3⟩
              have U : Hid (∀ W, Same w3 W → Calls Tryd.prog 12 #[.string (tx td)] W fun e w' => e = .returned (.bool true) ∧ Below w3.heap.size w3 w') := by
                intro W k1
                refine (WR2.out W).mono ?_
                rintro e w' ⟨rfl, b⟩
                exact ⟨rfl, k1.below.trans (by rw [show w3.heap.size = W.heap.size by rw [k1.heap]]; exact b)⟩
              clear q0 q3
              go_region_held3 (fun W => W.cell? ⟨g3, 0, none⟩ = some (.int .i64 1) ∧ W.cell? ⟨g3, 3, none⟩ = some (.string (tx td))) (first | exact CA.out _ (Same.trans (Same.drewN _ _) (Same.drew _)).below | exact CA.out _ (Same.drewN _ _).below | exact c3z) ((go_at_call 12; (with_reducible refine (U.out _ ?_).mono ?_); (first | exact (Same.drewN _ _).trans (Same.drew _) | exact Same.drewN _ _); rintro e w4 ⟨rfl, b4⟩; have c3z := CA.out _ b4))
              have hB4 := hid_as (below_and hB3.out b4)
              clear b4 c3z U CA
              go_wp2
              go_ret
              exact ⟨rfl, hB4.out⟩
          · obtain rfl : false = vb := hk
            cases wb
            all_goals
              go_enter Tryd.func4, Tryd.ntmps4
              go_upto_region 10 with (first
                | (go_at_call 8; refine K.out.mono ?_; rintro e w1 ⟨rfl, b1, hT1⟩; have hB1 := hid_as b1; replace hT1 := hid_as hT1; clear b1)
                | (go_at_call 11; refine (WC.out _ hT1.out).mono ?_; rintro e w' ⟨rfl, hw⟩; subst w')
                | (go_at_call 12; refine (WR.out _).mono ?_; rintro e w2 ⟨rfl, b2⟩; have hB2 := hid_as (below_and hB1.out b2); have hT2 := hid_as (hT1.out.below b2); clear b2)
                | (go_at_call 9; (with_reducible refine (TK.out _ hT2.out).mono ?_); rintro e w3 ⟨g3, p3, rfl, y3, ⟨q0, q3⟩, b3⟩; have hB3 := hid_as (below_and hB2.out b3); clear b3))
              have CA : Hid (∀ W, Below w3.heap.size w3 W → W.cell? ⟨g3, 0, none⟩ = some (.int .i64 2) ∧ W.cell? ⟨g3, 3, none⟩ = some (.string (tx td))) := fun W b => ⟨(b.cell (p := ⟨g3, 0, none⟩) y3).trans q0, (b.cell (p := ⟨g3, 3, none⟩) y3).trans q3⟩
              have U : Hid (∀ W, Same w3 W → Calls Tryd.prog 12 #[.string (tx td)] W fun e w' => e = .returned (.bool false) ∧ Below w3.heap.size w3 w') := by
                intro W k1
                refine (WR2.out W).mono ?_
                rintro e w' ⟨rfl, b⟩
                exact ⟨rfl, k1.below.trans (by rw [show w3.heap.size = W.heap.size by rw [k1.heap]]; exact b)⟩
              clear q0 q3
              go_region_held3 (fun W => W.cell? ⟨g3, 0, none⟩ = some (.int .i64 2) ∧ W.cell? ⟨g3, 3, none⟩ = some (.string (tx td))) (first | exact CA.out _ (Same.trans (Same.drewN _ _) (Same.drew _)).below | exact CA.out _ (Same.drewN _ _).below | exact c3z) ((go_at_call 12; (with_reducible refine (U.out _ ?_).mono ?_); (first | exact (Same.drewN _ _).trans (Same.drew _) | exact Same.drewN _ _); rintro e w4 ⟨rfl, b4⟩; have c3z := CA.out _ b4))
              have hB4 := hid_as (below_and hB3.out b4)
              clear b4 c3z U CA
              go_wp2
              go_ret
              exact ⟨rfl, hB4.out⟩
        · have e1 : ((ta : Int) != 1) = true := by rw [bne_iff_ne]; omega
          have e2 : ((ta : Int) != 2) = true := by rw [bne_iff_ne]; omega
          clear hw
          cases wb
          all_goals
            go_enter Tryd.func4, Tryd.ntmps4
            go_wp2_with (first
              | (go_at_call 8; refine K.out.mono ?_; rintro e w1 ⟨rfl, b1, hT1⟩; have hB1 := hid_as b1; replace hT1 := hid_as hT1; clear b1)
              | (go_at_call 11; refine (WC.out _ hT1.out).mono ?_; rintro e w' ⟨rfl, hw⟩; subst w')
              | (go_at_call 12; refine (WR.out _).mono ?_; rintro e w2 ⟨rfl, b2⟩; have hB2 := hid_as (below_and hB1.out b2); have hT2 := hid_as (hT1.out.below b2); clear b2)
              | (go_at_call 9; (with_reducible refine (TK.out _ hT2.out).mono ?_); rintro e w3 ⟨g3, p3, rfl, y3, ⟨q0, q3⟩, b3⟩; have hB3 := hid_as (below_and hB2.out b3); clear b3))
            go_ret
            exact ⟨rfl, hB3.out⟩
      · have h2' : ¬ (L.length : Int) = 2 := by omega
        replace TK : Hid (∀ W, Tabs W → Calls Tryd.prog 9 #[.string s, .bool false] W fun e w' => ∃ g cap, e = .returned (.tuple #[.slice (some ⟨g, 0, none⟩) L.length cap, .nilIface]) ∧ Below W.heap.size W w') := by
          intro W hW
          refine (TK.out W hW).mono ?_
          rintro e w' ⟨g, cap, he, h1, h2, h3, h4⟩
          exact ⟨g, cap, he, h4⟩
        clear hW
        generalize L.length = n at *
        cases wb
        all_goals
          go_enter Tryd.func4, Tryd.ntmps4
          go_wp2_with (first
            | (go_at_call 8; refine K.out.mono ?_; rintro e w1 ⟨rfl, b1, hT1⟩; have hB1 := hid_as b1; replace hT1 := hid_as hT1; clear b1)
            | (go_at_call 11; refine (WC.out _ hT1.out).mono ?_; rintro e w' ⟨rfl, hw⟩; subst w')
            | (go_at_call 12; refine (WR.out _).mono ?_; rintro e w2 ⟨rfl, b2⟩; have hB2 := hid_as (below_and hB1.out b2); have hT2 := hid_as (hT1.out.below b2); clear b2)
            | (go_at_call 9; (with_reducible refine (TK.out _ hT2.out).mono ?_); rintro e w3 ⟨g3, p3, rfl, b3⟩; have hB3 := hid_as (below_and hB2.out b3); clear b3))
          go_ret
          exact ⟨rfl, hB3.out⟩
end Go.Proofs.YtnponognncdkcaaDoor
