/- The walk of PduBits. -/
import Derived.Test.YtehbbkdiekgpbaaKN
namespace Go.Proofs.Ytehbbkdiekgpbaa
open Go.RowKit
open Pdu
set_option maxHeartbeats 1600000 in
theorem rknown_c (fn : Nat) (hfn : fn < 256) (w : World) : Calls Try.prog 29 #[.int .u8 fn] w fun e w' => e = .returned (.bool (known fn)) ∧ w' = w := by
  rcases known_cases fn with rfl | rfl | rfl | rfl | rfl | rfl | rfl | rfl | rfl | rfl | ⟨h1, h2, h3, h4, h5, h6, h15, h16, h22, h23⟩
  iterate 10 (· (go_enter Try.func29, Try.ntmps29); go_wp2; go_ret; exact ⟨rfl, rfl⟩)
  · rw [show known fn = false by unfold known; rw [decide_eq_false]; omega]
    have g15 : ((fn : Int) == 15) = false := by rw [beq_eq_false_iff_ne]; omega
    have g16 : ((fn : Int) == 16) = false := by rw [beq_eq_false_iff_ne]; omega
    have g22 : ((fn : Int) == 22) = false := by rw [beq_eq_false_iff_ne]; omega
    have g23 : ((fn : Int) == 23) = false := by rw [beq_eq_false_iff_ne]; omega
    by_cases h0 : 1 ≤ fn
    · have h7 : decide ((fn : Int) ≤ 6) = false := decide_eq_false (by omega)
      go_enter Try.func29, Try.ntmps29
      go_wp2
      go_ret
      exact ⟨rfl, rfl⟩
    · go_enter Try.func29, Try.ntmps29
      go_wp2
      go_ret
      exact ⟨rfl, rfl⟩
set_option maxRecDepth 100000 in
set_option maxHeartbeats 1600000 in
theorem bits_big (ao bo : Option Addr) (n m c d : Nat) (z : Int) (w : World) (h : 2000 < n ∨ 300 < m) :
    Calls Try.prog 8 #[.slice ao n c, .slice bo m d, .int .i64 z] w fun e w' => e = .returned (.bool true) ∧ Below w.heap.size w w' := by
  by_cases h1 : 2000 < n
  · have h1' : decide ((2000 : Int) < n) = true := decide_eq_true (by omega)
    go_enter Try.func8, Try.ntmps8
    go_wp2_with (go_at_call 9; refine (known_law w).mono ?_; rintro e w1 ⟨rfl, k1⟩)
    go_ret
    exact ⟨rfl, k1⟩
  · have h1' : decide ((2000 : Int) < n) = false := decide_eq_false (by omega)
    have h2' : decide ((300 : Int) < m) = true := decide_eq_true (by omega)
    go_enter Try.func8, Try.ntmps8
    go_wp2_with (go_at_call 9; refine (known_law w).mono ?_; rintro e w1 ⟨rfl, k1⟩)
    go_ret
    exact ⟨rfl, k1⟩
set_option maxRecDepth 100000 in
set_option maxHeartbeats 1600000 in
theorem bits_law (ao bo : Option Addr) (n m c d : Nat) (z : Int) (l : List Bool) (bs : List Nat) (w : World) (hn : n = l.length) (hm : m = bs.length) (hn2 : n ≤ 2000) (hm2 : m ≤ 300) (S : Sl w (.slice ao n c) (bls l)) (T : Sl w (.slice bo m d) (u8s bs)) :
    Calls Try.prog 8 #[.slice ao n c, .slice bo m d, .int .i64 z] w fun e w' => e = .returned (.bool true) ∧ Below w.heap.size w w' := by
  have h1' : decide ((2000 : Int) < n) = false := decide_eq_false (by omega)
  have h2' : decide ((300 : Int) < m) = false := decide_eq_false (by omega)
  have HS : Hid (Sl w (.slice ao n c) (bls l)) := S
  have HT : Hid (Sl w (.slice bo m d) (u8s bs)) := T
  have HN : Hid (n = l.length) := hn
  have HM : Hid (m = bs.length) := hm
  have hl : l.length ≤ 1000000 := by omega
  clear S T hn hm
  go_enter Try.func8, Try.ntmps8
  go_wp2_with (go_at_call 9; refine (known_law w).mono ?_; rintro e w1 ⟨rfl, k1⟩)
  have S1 : Hid (Sl w1 (.slice ao n c) (bls l)) := HS.out.below k1
  have T1 : Hid (Sl w1 (.slice bo m d) (u8s bs)) := HT.out.below k1
  have K1 : Hid (Below w.heap.size w w1) := k1
  clear k1 HS HT
  refine (pack_c S1.out hl).mono ?_
  rintro e w2 ⟨v2, rfl, hv2, own2, hb2⟩
  have S2 : Hid (Sl w2 (.slice ao n c) (bls l)) := S1.out.below hb2
  have T2 : Hid (Sl w2 (.slice bo m d) (u8s bs)) := T1.out.below hb2
  have K2 : Hid (Below w.heap.size w w2) := K1.out.trans (hb2.mono K1.out.size)
  have P2 : Hid (Sl w2 v2 (u8s (pack l))) := own_sl own2
  clear hv2 own2 hb2 S1 T1 K1
  go_wp2_with fail
  refine (rpack_c S2.out hl).mono ?_
  rintro e w3 ⟨v3, rfl, hv3, own3, hb3⟩
  have S3 : Hid (Sl w3 (.slice ao n c) (bls l)) := S2.out.below hb3
  have T3 : Hid (Sl w3 (.slice bo m d) (u8s bs)) := T2.out.below hb3
  have K3 : Hid (Below w.heap.size w w3) := K2.out.trans (hb3.mono K2.out.size)
  have P3 : Hid (Sl w3 v2 (u8s (pack l))) := P2.out.below hb3
  have Q3 : Hid (Sl w3 v3 (u8s (pack l))) := own_sl own3
  clear hv3 own3 hb3 S2 T2 K2 P2
  go_wp2_with fail
  refine (bytes_c P3.out Q3.out (pack_bytes l) (pack_bytes l)).mono ?_
  rintro e w' ⟨rfl, hw⟩
  subst w'
  rw [decide_eq_true rfl]
  go_wp2_with fail
  refine (bits_c (n : Int) P3.out).mono ?_
  rintro e w4 ⟨v4, rfl, own4, hb4⟩
  have ec : cut (n : Int) = l.length := by rw [cut_nat, ← (show n = _ from HN)]; omega
  rw [ec, ub_pack] at own4
  have S4 : Hid (Sl w4 (.slice ao n c) (bls l)) := S3.out.below hb4
  have T4 : Hid (Sl w4 (.slice bo m d) (u8s bs)) := T3.out.below hb4
  have K4 : Hid (Below w.heap.size w w4) := K3.out.trans (hb4.mono K3.out.size)
  have P4 : Hid (Sl w4 v4 (bls l)) := own_sl own4
  clear own4 hb4 S3 T3 K3 P3 Q3 ec
  go_wp2_with fail
  refine (hbits_c P4.out S4.out hl).mono ?_
  rintro e w5 ⟨rfl, d5, hw⟩
  rw [decide_eq_true rfl]
  have T5 : Hid (Sl w5 (.slice bo m d) (u8s bs)) := by rw [hw]; exact T4.out.drewN d5
  have K5 : Hid (Below w.heap.size w w5) := by rw [hw]; exact below_drewN K4.out d5
  clear hw S4 T4 K4 P4
  go_wp2_with fail
  go_loopw [8] (fun i wr => ∃ k : Nat, k ≤ 256 ∧ i = .int .i64 k ∧ Below w5.heap.size w5 wr) (fun i _ => 256 - (intOf i).toNat)
  case atStart => exact ⟨0, by omega, rfl, Below.refl _ _⟩
  case round =>
    obtain ⟨k, hk, rfl, KR⟩ := hrel
    have KR : Hid (Below w5.heap.size w5 wr) := KR
    by_cases hk2 : k < 256
    · have e8 : (k : Int) % 256 = (k : Int) := by omega
      have hka := known_c k wr
      go_wp2_with fail
      refine hka.mono ?_
      rintro e w6 ⟨rfl, hb6⟩
      have K6 : Hid (Below w5.heap.size w5 w6) := KR.out.trans (hb6.mono KR.out.size)
      clear hb6 hka
      go_wp2_with (go_at_call 29; refine (rknown_c k hk2 _).mono ?_; rintro e w' ⟨rfl, hw⟩; subst w')
      go_roundw
      case rel => exact ⟨k + 1, by omega, by go_num, K6⟩
      case measure => simp [intOf]; omega
    · obtain rfl : k = 256 := by omega
      have T6 : Hid (Sl wr (.slice bo m d) (u8s bs)) := T5.out.below KR.out
      have K6 : Hid (Below w.heap.size w wr) := K5.out.trans (KR.out.mono K5.out.size)
      go_wp2_with fail
      refine (bits_c z T6.out).mono ?_
      rintro e w7 ⟨v7, rfl, own7, hb7⟩
      have T7 : Hid (Sl w7 (.slice bo m d) (u8s bs)) := T6.out.below hb7
      have K7 : Hid (Below w.heap.size w w7) := K6.out.trans (hb7.mono K6.out.size)
      have P7 : Hid (Sl w7 v7 (bls (ub bs (cut z)))) := own_sl own7
      clear own7 hb7
      go_wp2_with fail
      refine (rbits_c z T7.out).mono ?_
      rintro e w8 ⟨v8, rfl, own8, hb8⟩
      have K8 : Hid (Below w.heap.size w w8) := K7.out.trans (hb8.mono K7.out.size)
      have P8 : Hid (Sl w8 v7 (bls (ub bs (cut z)))) := P7.out.below hb8
      have Q8 : Hid (Sl w8 v8 (bls (ub bs (cut z)))) := own_sl own8
      clear own8 hb8
      go_wp2_with fail
      refine (hbits_c P8.out Q8.out (by rw [ub_length]; unfold cut; omega)).mono ?_
      rintro e w9 ⟨rfl, d9, hw⟩
      rw [decide_eq_true rfl]
      have K9 : Hid (Below w.heap.size w w9) := by rw [hw]; exact below_drewN K8.out d9
      clear hw
      go_wp2
      go_ret
      exact ⟨rfl, K9⟩
end Go.Proofs.Ytehbbkdiekgpbaa
