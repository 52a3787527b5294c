/- The walk of RtuWrites. -/
import Derived.Test.YteadaknlflaclaaW5
namespace Go.Proofs.Yteadaknlflaclaa
open Go.RowKit
open Pdu
set_option maxRecDepth 100000 in
set_option maxHeartbeats 1600000 in
theorem writes_big (x : Value) (ao : Option Addr) (n c : Nat) (w : World) (h : 600 < n) :
    Calls Try.prog 3 #[x, .slice ao n c] w fun e w' => e = .returned (.bool true) ∧ Below w.heap.size w w' := by
  have h1 : decide ((600 : Int) < n) = true := decide_eq_true (by omega)
  clear h
  go_enter Try.func3, Try.ntmps3
  go_wp2_with fail
  refine (known_law _).mono ?_
  rintro e w1 ⟨rfl, k1⟩
  have K1 := hid_as k1
  clear k1
  go_wp2
  go_ret
  exact ⟨rfl, K1.out⟩
set_option maxRecDepth 100000 in
set_option maxHeartbeats 4000000 in
theorem writes_no (unit n c : Nat) (ao : Option Addr) (w : World) (h6 : n ≤ 600) (hl : ¬ (1 ≤ n ∧ n ≤ 253)) :
    Calls Try.prog 3 #[.int .u8 unit, .slice ao n c] w fun e w' => e = .returned (.bool true) ∧ Below w.heap.size w w' := by
  have h1 : decide ((600 : Int) < n) = false := decide_eq_false (by omega)
  have X1 := fun (W : World) => hid_as (write_no (.int .u8 unit) ao n c W hl)
  have X2 := fun (W : World) => hid_as (rtu_no (.int .u8 unit) ao n c W hl)
  have X3 := fun (W : World) => hid_as (bytes_t (xs := []) (Sl.nil W) (Sl.nil W) Bytes.nil)
  clear hl
  go_enter Try.func3, Try.ntmps3
  go_wp2_with fail
  refine (known_law _).mono ?_
  rintro e w1 ⟨rfl, k1⟩
  have K1 := hid_as k1
  clear k1
  go_wp2_with fail
  refine (X1 _).out.mono ?_
  rintro e w2 ⟨rfl, k2⟩
  have K2 := hid_as (below_and K1.out k2)
  clear k2
  go_wp2_with fail
  refine (X2 _).out.mono ?_
  rintro e w3 ⟨rfl, k3⟩
  have K3 := hid_as (below_and K2.out k3)
  clear k3
  go_wp2_with fail
  refine (X3 _).out.mono ?_
  rintro e w4 ⟨rfl, hw⟩
  subst w4
  go_wp2
  go_ret
  exact ⟨rfl, K3.out⟩
set_option maxRecDepth 100000 in
set_option maxHeartbeats 4000000 in
theorem writes_yes (unit n c : Nat) (ao : Option Addr) (pdu : List Nat) (w : World) (hu : unit < 256) (hs : Sl w (.slice ao n c) (u8s pdu)) (hB : Bytes pdu) (hn : n = pdu.length) (hl : 1 ≤ n ∧ n ≤ 253) :
    Calls Try.prog 3 #[.int .u8 unit, .slice ao n c] w fun e w' => e = .returned (.bool true) ∧ Below w.heap.size w w' := by
  have h1 : decide ((600 : Int) < n) = false := decide_eq_false (by omega)
  have HS := hid_as hs
  have HN := hid_as hn
  have HL := hid_as hl
  have HRD := hid_as (rd_rt unit pdu (by omega))
  have HBY := hid_as (rt_bytes hu hB)
  have HB := hid_as hB
  clear hn hl hs hB
  go_enter Try.func3, Try.ntmps3
  go_wp2_with fail
  refine (known_law _).mono ?_
  rintro e w1 ⟨rfl, k1⟩
  have K1 := hid_as k1
  have X1 := hid_as (write_yes unit n c pdu ao w1 HN.out HL.out hu HB.out (HS.out.below k1))
  clear k1
  go_wp2_with fail
  refine X1.out.mono ?_
  rintro e w2 ⟨v2, rfl, own2, k2⟩
  have K2 := hid_as (below_and K1.out k2)
  have S2 := hid_as (own_sl own2)
  have X2 := hid_as (rtu_yes unit n c pdu ao w2 HN.out HL.out hu HB.out (HS.out.below K2.out))
  clear k2 own2 X1
  go_wp2_with fail
  refine X2.out.mono ?_
  rintro e w3 ⟨v3, rfl, own3, k3⟩
  have K3 := hid_as (below_and K2.out k3)
  have S3 := hid_as (S2.out.below k3)
  have X3 := hid_as (bytes_t S3.out (own_sl own3) HBY.out)
  have O3 := hid_as (open_c S3.out HBY.out)
  clear k3 own3 X2 S2
  go_wp2_with fail
  refine X3.out.mono ?_
  rintro e w4 ⟨rfl, hw⟩
  subst w4
  clear X3
  go_wp2_with fail
  refine O3.out.mono ?_
  rintro e w7 hend
  obtain ⟨k7, po, pc, rfl, s7⟩ := hend.is HRD.out
  have K7 := hid_as (below_and K3.out k7)
  have X := hid_as (bytes_t s7 (HS.out.below K7.out) HB.out)
  clear hend k7 s7 O3
  go_wp2_with fail
  refine X.out.mono ?_
  rintro e w8 ⟨rfl, hw⟩
  subst w8
  go_wp2
  go_ret
  exact ⟨rfl, K7.out⟩
theorem writes_law {v : Value} {unit : Nat} {pdu : List Nat} {w : World} (hu : unit < 256) (s : Sl w v (u8s pdu)) (hB : Bytes pdu) : Calls Try.prog 3 #[.int .u8 unit, v] w fun e w' => e = .returned (.bool true) ∧ Below w.heap.size w w' := by
  obtain ⟨ao, c, rfl⟩ := s.shape
  rw [u8s_len] at s ⊢
  by_cases hl : pdu.length ≤ 600
  case neg => exact writes_big _ ao _ c w (by omega)
  by_cases hf : 1 ≤ pdu.length ∧ pdu.length ≤ 253
  · exact writes_yes unit _ c ao pdu w hu s hB rfl hf
  · exact writes_no unit _ c ao w hl hf
end Go.Proofs.Yteadaknlflaclaa
