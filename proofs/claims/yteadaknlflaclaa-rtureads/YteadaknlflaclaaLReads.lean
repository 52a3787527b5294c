/- The walk of RtuReads. -/
import Derived.Test.YteadaknlflaclaaW5
namespace Go.Proofs.Yteadaknlflaclaa
open Go.RowKit
open Pdu
set_option maxRecDepth 100000 in
set_option maxHeartbeats 1600000 in
theorem reads_big (ao : Option Addr) (n c : Nat) (w : World) (h : 600 < n) :
    Calls Try.prog 4 #[.slice ao n c] w fun e w' => e = .returned (.bool true) ∧ Below w.heap.size w w' := by
  have h1 : decide ((600 : Int) < n) = true := decide_eq_true (by omega)
  clear h
  go_enter Try.func4, Try.ntmps4
  go_wp2_with fail
  refine (known_law w).mono ?_
  rintro e w1 ⟨rfl, k1⟩
  have K1 := hid_as k1
  clear k1
  go_wp2
  go_ret
  exact ⟨rfl, K1.out⟩
set_option maxRecDepth 100000 in
set_option maxHeartbeats 4000000 in
theorem reads_w (ao : Option Addr) (n c unit E : Nat) (pdu bs : List Nat) (w : World) (h : Sl w (.slice ao n c) (u8s bs)) (hB : Bytes bs) (hn : n = bs.length) (hn6 : n ≤ 600) (hr : rd bs = ⟨unit, pdu, E⟩) (hp : Bytes pdu) :
    Calls Try.prog 4 #[.slice ao n c] w fun e w' => e = .returned (.bool true) ∧ Below w.heap.size w w' := by
  have h1 : decide ((600 : Int) < n) = false := decide_eq_false (by omega)
  have HS := hid_as h
  have HN := hid_as hn
  have HR := hid_as hr
  clear h hn hr
  go_enter Try.func4, Try.ntmps4
  go_wp2_with fail
  refine (known_law w).mono ?_
  rintro e w1 ⟨rfl, k1⟩
  have K1 := hid_as k1
  have O1 := hid_as (open_c (HS.out.below k1) hB)
  clear k1
  go_wp2_with fail
  refine O1.out.mono ?_
  rintro e w3 hend
  obtain ⟨k3, po1, pc1, rfl, s3⟩ := hend.is HR.out
  have K3 : Hid (Below w.heap.size w w3) := below_and K1.out k3
  have S3 := hid_as s3
  have R1 := hid_as (ropen_c (HS.out.below K3.out) hB)
  clear hend s3 k3 O1
  go_wp2_with fail
  refine R1.out.mono ?_
  rintro e w4 hend
  obtain ⟨k4, po2, pc2, rfl, s4⟩ := hend.is HR.out
  have K4 : Hid (Below w.heap.size w w4) := below_and K3.out k4
  have X := hid_as (bytes_t (S3.out.below k4) s4 hp)
  clear hend s4 k4 R1 S3
  go_wp2_with fail
  refine X.out.mono ?_
  rintro e w5 ⟨rfl, hw⟩
  subst w5
  go_wp2
  go_ret
  exact ⟨rfl, K4.out⟩
theorem reads_law {v : Value} {bs : List Nat} {w : World} (h : Sl w v (u8s bs)) (hB : Bytes bs) : Calls Try.prog 4 #[v] w fun e w' => e = .returned (.bool true) ∧ Below w.heap.size w w' := by
  obtain ⟨ao, c, rfl⟩ := h.shape
  rw [u8s_len] at h ⊢
  by_cases hl : bs.length ≤ 600
  case neg => exact reads_big ao _ c w (by omega)
  exact reads_w ao _ c _ _ _ bs w h hB rfl hl rfl (rd_bytes hB)
end Go.Proofs.Yteadaknlflaclaa
