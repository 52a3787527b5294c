/- Digits with low lines between them (stage 12). -/
import Derived.Test.YtnponognncdkcaaDoorW2
namespace Go.Proofs.YtnponognncdkcaaDoor
open Go.RowKit
open Adr Lx
theorem drop_at {l : List UInt8} {k : Nat} (h : k < l.length) : l.drop k = l[k] :: l.drop (k + 1) := List.drop_eq_getElem_cons h
theorem rdl_end {b n z i : Nat} {l : List UInt8} (h : l.length ≤ i) : rdl b (l.drop i) n z i = (n, z) := by rw [List.drop_eq_nil_of_le h]; rfl
theorem rdl_line {b n z i : Nat} {l : List UInt8} (h : i < l.length) (h1 : l[i].toNat = 95) (h2 : 0 < i) (h3 : i = z) : rdl b (l.drop i) n z i = rdl b (l.drop (i + 1)) n z (i + 1) := by
  rw [drop_at h, rdl, decide_eq_true h1, decide_eq_true h2, decide_eq_true h3]; rfl
theorem rdl_more {b n z i : Nat} {l : List UInt8} (h : i < l.length) (h1 : ¬ (l[i].toNat = 95 ∧ 0 < i ∧ i = z)) (h2 : okd b l[i] = true) : rdl b (l.drop i) n z i = rdl b (l.drop (i + 1)) (min (n * b + (dv l[i]).toNat) 8589934592) (i + 1) (i + 1) := by
  rw [drop_at h, rdl, h2]
  rw [show (decide (l[i].toNat = 95) && (decide (0 < i) && decide (i = z))) = false by simpa using h1]
  rfl
theorem rdl_stop {b n z i : Nat} {l : List UInt8} (h : i < l.length) (h1 : ¬ (l[i].toNat = 95 ∧ 0 < i ∧ i = z)) (h2 : okd b l[i] = false) : rdl b (l.drop i) n z i = (n, z) := by
  rw [drop_at h, rdl, h2]
  rw [show (decide (l[i].toNat = 95) && (decide (0 < i) && decide (i = z))) = false by simpa using h1]
  rfl
theorem ret_ii {a c : Int} {b d : Int} (h : a = c) (k : b = d) : Ending.returned (.tuple #[.int .i64 a, .int .i64 b]) = .returned (.tuple #[.int .i64 c, .int .i64 d]) := by rw [h, k]
theorem cmin (x M : Nat) : ((min x M : Nat) : Int) = min (x : Int) M := by omega
theorem dv_lt (c : UInt8) : dv c < 100 ∧ -1 ≤ dv c := by
  have := c.toNat_lt
  unfold dv
  split
  · rename_i h; unfold dgt at h; simp at h; omega
  · split
    · rename_i h; simp at h; omega
    · omega
set_option maxHeartbeats 1000000 in
set_option maxRecDepth 100000 in
theorem readDigits_c (s : ByteArray) (b : Nat) (hb : b ≤ 16) (w : World) (hs : s.size ≤ 70000) : Calls Tryd.prog 66 #[.string s, .int .i64 b] w fun e w' => e = .returned (.tuple #[.int .i64 ((rd b s.data.toList).1 : Int), .int .i64 ((rd b s.data.toList).2 : Int)]) ∧ w' = w := by
  have hL := hid_as (Lib.size_eq s)
  go_enter Tryd.func66, Tryd.ntmps66
  go_wp2
  go_loopw [6, 7, 12] (fun n z i wr => ∃ (k N Z : Nat), k ≤ s.size ∧ i = .int .i64 k ∧ n = .int .i64 N ∧ z = .int .i64 Z ∧ N ≤ 8589934592 ∧ Z ≤ k ∧ wr = w ∧ Hid (rd b s.data.toList = rdl b (s.data.toList.drop k) N Z k)) (fun n z i wr => s.size - (intOf i).toNat)
  case atStart => exact ⟨0, 0, 0, by omega, rfl, rfl, rfl, by omega, by omega, rfl, hid_as rfl⟩
  case round =>
    obtain ⟨k, N, Z, hk, rfl, rfl, rfl, hN, hZ, hw, hr⟩ := hrel
    subst hw
    by_cases hlt : k < s.size
    · have hlt' : (k : Int) < s.size := by omega
      have hl2 : k < s.data.toList.length := by rw [← Lib.size_eq]; exact hlt
      have hd := dv_lt s[k]
      have hm0 : (0 : Int) ≤ (N : Int) * b := Int.mul_nonneg (by omega) (by omega)
      have hm1 : (N : Int) * b ≤ 137438953472 := by have h := Nat.mul_le_mul hN hb; have h2 : ((N * b : Nat) : Int) ≤ ((8589934592 * 16 : Nat) : Int) := Int.ofNat_le.2 h; rw [Int.natCast_mul] at h2; omega
      have hw1 : IntKind.i64.wrap ((N : Int) * b) = (N : Int) * b := by rw [IntKind.wrap_i64]; omega
      have D := hid_as (digit_c s[k])
      by_cases hA : s[k].toNat = 95 ∧ 0 < k ∧ k = Z
      · have h2 := hid_as (hr.out.trans (rdl_line hl2 hA.1 hA.2.1 hA.2.2))
        obtain ⟨a1, a2, a3⟩ := hA
        subst a3
        have a1' : ((s[k].toNat : Int) == 95) = true := by rw [beq_iff_eq]; omega
        replace a1 := hid_as a1
        have a2' : (0 : Int) < k := by omega
        go_wp2_with (go_at_call 81; refine (D.out _).mono ?_; rintro e w' ⟨rfl, hw⟩; subst w')
        go_roundw
        case rel => exact ⟨k + 1, N, k, by omega, by go_num, rfl, rfl, hN, by omega, trivial, h2⟩
        case measure => simp [intOf]; omega
      · cases hok : okd b s[k] with
        | true =>
          have h2 := hid_as (hr.out.trans (rdl_more hl2 hA hok))
          obtain ⟨d, hd2⟩ : ∃ d : Nat, dv s[k] = d := ⟨(dv s[k]).toNat, by unfold okd at hok; simp at hok; omega⟩
          have hdb : (d : Int) < b := by unfold okd at hok; simp at hok; omega
          rw [hd2] at D
          have hN2 : min (N * b + (dv s[k]).toNat) 8589934592 ≤ 8589934592 := Nat.min_le_right _ _
          have hN3 : ((min (N * b + (dv s[k]).toNat) 8589934592 : Nat) : Int) = min ((N : Int) * b + d) 8589934592 := by rw [hd2, Int.toNat_natCast, cmin, Int.natCast_add, Int.natCast_mul]; omega
          clear hok hd2
          have hA2 := hid_as hA
          clear hA
          have h2' : Hid (∃ M : Nat, (M : Int) = min ((N : Int) * b + d) 8589934592 ∧ M ≤ 8589934592 ∧ rd b s.data.toList = rdl b (s.data.toList.drop (k + 1)) M (k + 1) (k + 1)) := ⟨_, hN3, hN2, h2.out⟩
          clear h2 hN2 hN3 hr
          cases g1 : ((s[k].toNat : Int) == 95) with
          | false =>
            go_wp2_with (go_at_call 81; refine (D.out _).mono ?_; rintro e w' ⟨rfl, hw⟩; subst w')
            go_roundw
            case rel =>
              obtain ⟨M, e1, e2, e3⟩ := h2'
              exact ⟨k + 1, M, k + 1, by omega, by go_num, by rw [e1], by go_num, e2, by omega, trivial, hid_as e3⟩
            case measure => simp [intOf]; omega
          | true =>
            by_cases g2 : (0 : Int) < k
            · have g3 : ¬ (k : Int) = Z := fun e => hA2.out ⟨by rw [beq_iff_eq] at g1; omega, by omega, by omega⟩
              go_wp2_with (go_at_call 81; refine (D.out _).mono ?_; rintro e w' ⟨rfl, hw⟩; subst w')
              go_roundw
              case rel =>
                obtain ⟨M, e1, e2, e3⟩ := h2'
                exact ⟨k + 1, M, k + 1, by omega, by go_num, by rw [e1], by go_num, e2, by omega, trivial, hid_as e3⟩
              case measure => simp [intOf]; omega
            · have g3 : k = 0 := by omega
              subst g3
              go_wp2_with (go_at_call 81; refine (D.out _).mono ?_; rintro e w' ⟨rfl, hw⟩; subst w')
              go_roundw
              case rel =>
                obtain ⟨M, e1, e2, e3⟩ := h2'
                exact ⟨0 + 1, M, 0 + 1, by omega, by go_num, by rw [e1], by go_num, e2, by omega, trivial, hid_as e3⟩
              case measure => simp [intOf]; omega
        | false =>
          have h2 := hid_as (hr.out.trans (rdl_stop hl2 hA hok))
          have hA2 := hid_as hA
          have hO : Hid (dv s[k] < 0 ∨ (b : Int) ≤ dv s[k]) := by unfold okd at hok; simp at hok; show _ ∨ _; omega
          clear hA hok hr
          generalize dv s[k] = d at *
          cases g1 : ((s[k].toNat : Int) == 95) with
          | false =>
            go_wp2_with (go_at_call 81; refine (D.out _).mono ?_; rintro e w' ⟨rfl, hw⟩; subst w')
            all_goals first | (go_ret2; exact ⟨ret_ii (by rw [h2.out]) (by rw [h2.out]), rfl⟩) | (exfalso; have := hO.out; omega)
          | true =>
            by_cases g2 : (0 : Int) < k
            · have g3 : ¬ (k : Int) = Z := fun e => hA2.out ⟨by rw [beq_iff_eq] at g1; omega, by omega, by omega⟩
              go_wp2_with (go_at_call 81; refine (D.out _).mono ?_; rintro e w' ⟨rfl, hw⟩; subst w')
              all_goals first | (go_ret2; exact ⟨ret_ii (by rw [h2.out]) (by rw [h2.out]), rfl⟩) | (exfalso; have := hO.out; omega)
            · have g3 : k = 0 := by omega
              subst g3
              go_wp2_with (go_at_call 81; refine (D.out _).mono ?_; rintro e w' ⟨rfl, hw⟩; subst w')
              all_goals first | (go_ret2; exact ⟨ret_ii (by rw [h2.out]) (by rw [h2.out]), rfl⟩) | (exfalso; have := hO.out; omega)
    · have h2 := hid_as (hr.out.trans (rdl_end (by have := hL.out; omega)))
      go_wp2
      go_ret2
      exact ⟨ret_ii (by rw [h2.out]) (by rw [h2.out]), rfl⟩
end Go.Proofs.YtnponognncdkcaaDoor
