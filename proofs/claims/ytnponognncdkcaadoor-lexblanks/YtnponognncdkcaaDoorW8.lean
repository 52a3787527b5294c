/- A time's milliseconds (stage 12). -/
import Derived.Test.YtnponognncdkcaaDoorW6
import Derived.Test.YtnponognncdkcaaDoorW7
import Derived.Deep.CutRange
import Derived.Deep.CutBlock
namespace Go.Proofs.YtnponognncdkcaaDoor
open Go.RowKit
open Adr Lx
theorem uM_le (k : Nat) : uM k ≤ 86400000 := by unfold uM; split <;> decide
theorem part_le {l : List UInt8} {k : Nat} (hk : k < 5) {s : Nat × Nat} (h : s.2 ≤ l.length) : (prt l k s).2 ≤ l.length ∧ (prt l k s).1 ≤ s.1 + 742170348748800000 := by
  unfold prt
  split
  · rename_i hc
    rw [Bool.and_eq_true, decide_eq_true_eq, decide_eq_true_eq] at hc
    obtain ⟨h1, h2⟩ := rd_le 10 (l.drop s.2)
    rw [List.length_drop] at h1
    have h3 := Nat.mul_le_mul h2 (uM_le k)
    have h4 : (uN k).size ≤ (l.drop (s.2 + (rd 10 (l.drop s.2)).2)).length := by
      have hu := hc.2
      rw [uN_size k (by omega)]
      generalize l.drop (s.2 + (rd 10 (l.drop s.2)).2) = m at *
      have hk5 : ¬ k = 5 := by omega
      match m, hu with
      | [], hu => simp [un] at hu; omega
      | [c], hu =>
        have : uz k ≤ 1 := by
          have h44 : ¬ k = 4 := by
            intro e
            subst e
            unfold un at hu
            split at hu <;> simp_all
          unfold uz
          split <;> omega
        simpa using this
      | c :: d :: m, hu => have : uz k ≤ 2 := by unfold uz; split <;> omega
                           simp; omega
    rw [List.length_drop] at h4
    exact ⟨by show s.2 + ((rd 10 (l.drop s.2)).2 + (uN k).size) ≤ l.length; omega, by show s.1 + (rd 10 (l.drop s.2)).1 * uM k ≤ _; omega⟩
  · exact ⟨h, by omega⟩
theorem spanK_le (l : List UInt8) : ∀ k, k ≤ 5 → (spanK l k).2 ≤ l.length ∧ (spanK l k).1 ≤ k * 742170348748800000
  | 0, _ => ⟨Nat.zero_le _, Nat.zero_le _⟩
  | k + 1, h => by
    obtain ⟨a, b⟩ := spanK_le l k (by omega)
    obtain ⟨c, d⟩ := part_le (k := k) (by omega) a
    exact ⟨c, by show (prt l k (spanK l k)).1 ≤ _; omega⟩
theorem below_and {a b c : World} (h : Below a.heap.size a b) (k : Below b.heap.size b c) : Below a.heap.size a c := h.trans (k.mono h.size)
theorem un_lt (l : List UInt8) : un l < 6 := by unfold un; split <;> decide
theorem un_six {p : Nat → Nat → Prop} (h : ∀ a : Fin 6, ∀ b : Fin 5, p a b) {a b : Nat} (ha : a < 6) (hb : b < 5) : p a b := h ⟨a, ha⟩ ⟨b, hb⟩
theorem un_eq {a b : Nat} (ha : a < 6) (hb : b < 5) : (((uN a).data.toList == (uN b).data.toList) = true ∧ a = b) ∨ (((uN a).data.toList == (uN b).data.toList) = false ∧ ¬ a = b) :=
  un_six (p := fun a b => (((uN a).data.toList == (uN b).data.toList) = true ∧ a = b) ∨ (((uN a).data.toList == (uN b).data.toList) = false ∧ ¬ a = b)) (by decide) ha hb
theorem spanK_most (l : List UInt8) (k : Nat) (h : k ≤ 5) : (spanK l k).2 ≤ l.length ∧ (spanK l k).1 ≤ 3710851743744000000 := by
  obtain ⟨a, b⟩ := spanK_le l k h
  exact ⟨a, Nat.le_trans b (Nat.mul_le_mul_right 742170348748800000 h)⟩
set_option maxHeartbeats 2000000 in
theorem readSpan_c (s : ByteArray) (w : World) (hT : Tabs w) (hs : s.size ≤ 70000) : Calls Tryd.prog 64 #[.string s] w fun e w' => e = .returned (.tuple #[.int .i64 ((span s.data.toList).1 : Int), .int .i64 ((span s.data.toList).2 : Int)]) ∧ Below w.heap.size w w' := by
  obtain ⟨c0, c1, c2, c3, c4, c5, c6, c7, c8, c9⟩ := ten_cells w hT.units
  have hL := hid_as (Lib.size_eq s)
  have hE : Hid (spanK s.data.toList 5 = span s.data.toList) := hid_as rfl
  generalize span s.data.toList = S at *
  go_enter Tryd.func64, Tryd.ntmps64
  go_wp2
  clear c0 c1 c2 c3 c4 c5 c6 c7 c8 c9
  go_loopw [4, 5, 11] (fun n z i wr => ∃ k N Z : Nat, k ≤ 5 ∧ Z ≤ s.size ∧ i = .int .i64 k ∧ n = .int .i64 N ∧ z = .int .i64 Z ∧ Hid (Below w.heap.size w wr) ∧ Hid (spanK s.data.toList k = (N, Z))) (fun n z i wr => 5 - (intOf i).toNat)
  case atStart => exact ⟨0, 0, 0, by omega, by omega, rfl, rfl, rfl, hid_as (Below.refl _ _), hid_as rfl⟩
  case round =>
    obtain ⟨k, N, Z, hk, hZ, rfl, rfl, rfl, hB, hn⟩ := hrel
    by_cases hlt : k < 5
    · have hlt' : (k : Int) < 5 := by omega
      have hix := idxU k hlt
      have hB2 : ∀ o, Hid (Below w.heap.size w (wr.alloc o)) := fun o => hid_as (Below.alloc hB.out hB.out.size o)
      have c1 : (0 : Int) ≤ Z := by omega
      have c2 : (Z : Int) ≤ s.size := by omega
      have hdrop : (s.extract Z s.size) = tx (s.data.toList.drop Z) := tx_drop s Z
      have D := hid_as (fun W => readDigits_t (s.data.toList.drop Z) 10 (by omega) (by rw [List.length_drop]; have := hL.out; omega) W)
      rw [← hdrop] at D
      clear hdrop
      have hp1 : Hid (spanK s.data.toList (k + 1) = prt s.data.toList k (N, Z)) := by rw [spanK, hn.out]; exact hid_as rfl
      have hle := spanK_most s.data.toList (k + 1) (by omega)
      rw [hp1.out] at hle
      have hM := uM_le k
      obtain ⟨hr1, hr2⟩ := rd_le 10 (s.data.toList.drop Z)
      rw [List.length_drop, ← hL.out] at hr1
      have hpart : Hid (prt s.data.toList k (N, Z) = if decide (0 < (rd 10 (s.data.toList.drop Z)).2) && decide (un (s.data.toList.drop (Z + (rd 10 (s.data.toList.drop Z)).2)) = k) then (N + (rd 10 (s.data.toList.drop Z)).1 * uM k, Z + ((rd 10 (s.data.toList.drop Z)).2 + (uN k).size)) else (N, Z)) := hid_as rfl
      generalize (rd 10 (s.data.toList.drop Z)).2 = G at *
      generalize (rd 10 (s.data.toList.drop Z)).1 = M at *
      by_cases hG : 0 < G
      · have hG' : (0 : Int) < G := by omega
        have g1 : (0 : Int) ≤ (Z : Int) + G := by omega
        have g2 : (Z : Int) + G ≤ s.size := by omega
        have g3 : IntKind.i64.wrap ((Z : Int) + G) = (Z : Int) + G := by rw [IntKind.wrap_i64]; omega
        have g4 : ((Z : Int) + G).toNat = Z + G := by omega
        have hd2 := hid_as (tx_drop s (Z + G))
        have hTr := hid_as (hT.below hB.out)
        go_upto_region 6 with (go_at_call 66; refine (D.out _).mono ?_; rintro e w' ⟨rfl, hw⟩; subst w')
        have hB3 := hB2 (.cells #[.string (uN k), .int .i64 ((uM k : Nat) : Int)] 133)
        have q0 : (wr.alloc (.cells #[.string (uN k), .int .i64 ((uM k : Nat) : Int)] 133)).cell? ⟨wr.heap.size, 0, none⟩ = some (.string (uN k)) := by simp
        have q1 : (wr.alloc (.cells #[.string (uN k), .int .i64 ((uM k : Nat) : Int)] 133)).cell? ⟨wr.heap.size, 1, none⟩ = some (.int .i64 ((uM k : Nat) : Int)) := by simp
        have hT3 := hid_as (hTr.out.below (below_new1 wr (.cells #[.string (uN k), .int .i64 ((uM k : Nat) : Int)] 133)))
        have hsz : (wr.alloc (.cells #[.string (uN k), .int .i64 ((uM k : Nat) : Int)] 133)).heap.size = wr.heap.size + 1 := by simp
        generalize wr.alloc (.cells #[.string (uN k), .int .i64 ((uM k : Nat) : Int)] 133) = W1 at *
        generalize hg : wr.heap.size = g at *
        have CA : Hid (∀ W, Below W1.heap.size W1 W → W.cell? ⟨g, 0, none⟩ = some (.string (uN k)) ∧ W.cell? ⟨g, 1, none⟩ = some (.int .i64 ((uM k : Nat) : Int))) := fun W b => ⟨(b.cell (p := ⟨g, 0, none⟩) (show g < _ by omega)).trans q0, (b.cell (p := ⟨g, 1, none⟩) (show g < _ by omega)).trans q1⟩
        have U : Hid (∀ W, Same W1 W → Calls Tryd.prog 80 #[.string (s.extract (Z + G) s.size)] W fun e w' => e = .returned (.string (uN (un (s.data.toList.drop (Z + G))))) ∧ Below W1.heap.size W1 w') := by
          intro W k1
          have h := unitName_c (s.extract (Z + G) s.size) W (hT3.out.same k1)
          rw [hd2.out, tx_list] at h
          rw [hd2.out]
          refine h.mono ?_
          rintro e w' ⟨rfl, b⟩
          exact ⟨rfl, k1.below.trans (by rw [show W1.heap.size = W.heap.size by rw [k1.heap]]; exact b)⟩
        clear q0 q1 hd2 D
        have hcmp : (((uN (un (s.data.toList.drop (Z + G)))).toList == (uN k).toList) = true ∧ un (s.data.toList.drop (Z + G)) = k) ∨ (((uN (un (s.data.toList.drop (Z + G)))).toList == (uN k).toList) = false ∧ ¬ un (s.data.toList.drop (Z + G)) = k) := by
          rw [Lib.toList_data, Lib.toList_data]
          exact un_eq (un_lt _) hlt
        generalize un (s.data.toList.drop (Z + G)) = u at *
        rcases hcmp with ⟨hc, hu⟩ | ⟨hc, hu⟩
        · have hq : Hid (spanK s.data.toList (k + 1) = (N + M * uM k, Z + (G + (uN k).size))) := by rw [hp1.out, hpart.out, decide_eq_true hG, decide_eq_true hu]; exact hid_as rfl
          have hle2 : Z + (G + (uN k).size) ≤ s.size ∧ N + M * uM k ≤ 3710851743744000000 := by
            rw [hpart.out, decide_eq_true hG, decide_eq_true hu] at hle
            exact ⟨by have := hle.1; rw [← hL.out] at this; exact this, hle.2⟩
          clear hle hpart hp1 hn hu
          have m0 : (0 : Int) ≤ (M : Int) * (uM k : Int) := Int.mul_nonneg (by omega) (by omega)
          have m1 : (N : Int) + (M : Int) * (uM k : Int) ≤ 3710851743744000000 := by
            have h2 : ((N + M * uM k : Nat) : Int) ≤ ((3710851743744000000 : Nat) : Int) := Int.ofNat_le.2 hle2.2
            rw [Int.natCast_add, Int.natCast_mul] at h2
            exact h2
          have mw : IntKind.i64.wrap ((M : Int) * (uM k : Int)) = (M : Int) * (uM k : Int) := by rw [IntKind.wrap_i64]; omega
          have mw2 : IntKind.i64.wrap ((N : Int) + (M : Int) * (uM k : Int)) = (N : Int) + (M : Int) * (uM k : Int) := by rw [IntKind.wrap_i64]; omega
          go_region_held3 (fun W => W.cell? ⟨g, 0, none⟩ = some (.string (uN k)) ∧ W.cell? ⟨g, 1, none⟩ = some (.int .i64 ((uM k : Nat) : Int))) (first | exact CA.out _ (Same.trans (Same.drewN _ _) (Same.drew _)).below | exact CA.out _ (Same.drewN _ _).below | exact c3z) ((go_at_call 80; (with_reducible refine (U.out _ ?_).mono ?_); (first | exact (Same.drewN _ _).trans (Same.drew _) | exact Same.drewN _ _); rintro e w3 ⟨rfl, b3⟩; have c3z := CA.out _ b3))
          have hB4 := hid_as (below_and hB3.out b3)
          obtain ⟨q0, q1⟩ := c3z
          have hUz := uN_size k (by omega)
          clear b3 U CA
          go_wp2
          go_roundw
          case rel => exact ⟨k + 1, N + M * uM k, Z + (G + (uN k).size), by omega, hle2.1, by go_num, by rw [Int.natCast_add, Int.natCast_mul], by rw [hUz]; go_num, hB4, hq⟩
          case measure => simp [intOf]; omega
        · have hq : Hid (spanK s.data.toList (k + 1) = (N, Z)) := by rw [hp1.out, hpart.out, decide_eq_true hG, decide_eq_false hu]; exact hid_as rfl
          clear hle hpart hp1 hn hu
          go_region_held3 (fun W => W.cell? ⟨g, 0, none⟩ = some (.string (uN k)) ∧ W.cell? ⟨g, 1, none⟩ = some (.int .i64 ((uM k : Nat) : Int))) (first | exact CA.out _ (Same.trans (Same.drewN _ _) (Same.drew _)).below | exact CA.out _ (Same.drewN _ _).below | exact c3z) ((go_at_call 80; (with_reducible refine (U.out _ ?_).mono ?_); (first | exact (Same.drewN _ _).trans (Same.drew _) | exact Same.drewN _ _); rintro e w3 ⟨rfl, b3⟩; have c3z := CA.out _ b3))
          have hB4 := hid_as (below_and hB3.out b3)
          clear b3 U CA c3z
          go_wp2
          go_roundw
          case rel => exact ⟨k + 1, N, Z, by omega, hZ, by go_num, rfl, rfl, hB4, hq⟩
          case measure => simp [intOf]; omega
      · have hq : Hid (spanK s.data.toList (k + 1) = (N, Z)) := by rw [hp1.out, hpart.out, decide_eq_false hG]; exact hid_as rfl
        have hG' : ¬ (0 : Int) < G := by omega
        go_wp2_with (go_at_call 66; refine (D.out _).mono ?_; rintro e w' ⟨rfl, hw⟩; subst w')
        go_region
        go_wp2
        go_roundw
        case rel => exact ⟨k + 1, N, Z, by omega, hZ, by go_num, rfl, rfl, hid_as (hB2 _).out.drew, hq⟩
        case measure => simp [intOf]; omega
    · have hk5 : k = 5 := by omega
      subst hk5
      obtain rfl : S = (N, Z) := hE.out.symm.trans hn.out
      clear hE hn
      go_wp2
      go_ret2
      exact ⟨rfl, hB.out⟩
end Go.Proofs.YtnponognncdkcaaDoor
