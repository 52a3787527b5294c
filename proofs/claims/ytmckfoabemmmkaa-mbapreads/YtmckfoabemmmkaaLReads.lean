/- The walk of MbapReads. -/
import Derived.Test.YtmckfoabemmmkaaKN
namespace Go.Proofs.Ytmckfoabemmmkaa
open Go.RowKit
open Pdu
set_option maxRecDepth 100000 in
set_option maxHeartbeats 1600000 in
theorem reads_big (ao : Option Addr) (n c : Nat) (w : World) (h : 600 < n) :
    Calls Try.prog 4 #[.slice ao n c] w fun e w' => e = .returned (.bool true) ∧ Below w.heap.size w w' := by
  have h1 : decide ((600 : Int) < n) = true := decide_eq_true (by omega)
  clear h
  go_enter Try.func4, Try.ntmps4
  go_wp2_with fail
  refine (known_law w).mono ?_
  rintro e w1 ⟨rfl, k1⟩
  have K1 := hid_as k1
  clear k1
  go_wp2
  go_ret
  exact ⟨rfl, K1.out⟩
set_option maxRecDepth 100000 in
set_option maxHeartbeats 4000000 in
theorem reads_w (ao : Option Addr) (n c id unit N E : Nat) (pdu bs : List Nat) (w : World) (h : Sl w (.slice ao n c) (u8s bs)) (hB : Bytes bs) (hn : n = bs.length) (hn6 : n ≤ 600) (hr : rd bs = ⟨id, unit, pdu, N, E⟩) (hi : id < 65536) (hu : unit < 256) (hp : Bytes pdu) :
    Calls Try.prog 4 #[.slice ao n c] w fun e w' => e = .returned (.bool true) ∧ Below w.heap.size w w' := by
  have h1 : decide ((600 : Int) < n) = false := decide_eq_false (by omega)
  have HS := hid_as h
  have HN := hid_as hn
  have HR := hid_as hr
  clear h hn hr
  go_enter Try.func4, Try.ntmps4
  go_wp2_with fail
  refine (known_law w).mono ?_
  rintro e w1 ⟨rfl, k1⟩
  have K1 := hid_as k1
  have C1 := hid_as (copy_c (HS.out.below k1) (by have := HN.out; omega))
  clear k1
  go_wp2_with fail
  refine C1.out.mono ?_
  rintro e w2 ⟨x, rfl, ownx, k2⟩
  have K2 : Hid (Below w.heap.size w w2) := below_and K1.out k2
  have OX := hid_as (own_sl ownx)
  have O1 := hid_as (open_c OX.out hB (by have := HN.out; omega))
  clear k2 ownx C1
  go_wp2_with fail
  refine O1.out.mono ?_
  rintro e w3 hend
  obtain ⟨k3, po1, pc1, rfl, s3⟩ := hend.is HR.out
  have K3 : Hid (Below w.heap.size w w3) := below_and K2.out k3
  have F3 : Hid (IsFr w3 (.agg #[.int .u16 id, .int .u8 unit, .slice po1 pdu.length pc1]) id unit pdu (.slice po1 pdu.length pc1)) := ⟨rfl, hi, hu, hp, s3⟩
  have OX3 := hid_as (OX.out.below k3)
  have R1 := fun (o : Obj) => hid_as (ropen_c (HS.out.below (below_and K3.out (below_new (Below.refl _ w3) o))) hB (by have := HN.out; omega))
  clear hend s3 k3 O1 OX
  go_wp2_with fail
  refine (R1 _).out.mono ?_
  rintro e w4 hend
  obtain ⟨k4, po2, pc2, rfl, s4⟩ := hend.is HR.out
  obtain ⟨k4, B4, hs4⟩ := one_box k4
  have K4 : Hid (Below w.heap.size w w4) := below_and K3.out k4
  have F4 : Hid (IsFr w4 (.agg #[.int .u16 id, .int .u8 unit, .slice po2 pdu.length pc2]) id unit pdu (.slice po2 pdu.length pc2)) := ⟨rfl, hi, hu, hp, s4⟩
  have G4 := hid_as (F3.out.below k4)
  have OX4 := hid_as (OX3.out.below k4)
  have d0 := fun (o : Obj) => (B4.grow o).c0
  have d1 := fun (o : Obj) => (B4.grow o).c1
  have d2 := fun (o : Obj) => (B4.grow o).c2
  have X := hid_as (fun (o : Obj) => frame_t (G4.out.below (below_new (Below.refl _ w4) o)) (F4.out.below (below_new (Below.refl _ w4) o)))
  clear hend s4 k4 R1 B4 OX3 F3
  go_wp2_with fail
  refine (X.out _).mono ?_
  rintro e w5 ⟨rfl, k5⟩
  have k5 : Below w4.heap.size w4 w5 := below_and (below_new (Below.refl _ w4) _) k5
  have K5 : Hid (Below w.heap.size w w5) := below_and K4.out k5
  have XB := hid_as (bytes_t (OX4.out.below k5) (HS.out.below K5.out) hB)
  clear k5 d0 d1 d2 X
  go_wp2_with fail
  refine XB.out.mono ?_
  rintro e w6 ⟨rfl, hw⟩
  subst w6
  go_wp2
  go_ret
  exact ⟨rfl, K5.out⟩
theorem rd_id {bs : List Nat} (h : Bytes bs) : (rd bs).id < 65536 := by
  unfold rd
  repeat' split
  all_goals first | exact wordAt_lt h 0 | decide
theorem rd_unit {bs : List Nat} (h : Bytes bs) : (rd bs).unit < 256 := by
  unfold rd
  repeat' split
  all_goals first | exact h.at 6 | decide
theorem reads_law {v : Value} {bs : List Nat} {w : World} (h : Sl w v (u8s bs)) (hB : Bytes bs) : Calls Try.prog 4 #[v] w fun e w' => e = .returned (.bool true) ∧ Below w.heap.size w w' := by
  obtain ⟨ao, c, rfl⟩ := h.shape
  rw [u8s_len] at h ⊢
  by_cases hl : bs.length ≤ 600
  case neg => exact reads_big ao _ c w (by omega)
  exact reads_w ao _ c _ _ _ _ _ bs w h hB rfl hl rfl (rd_id hB) (rd_unit hB) (rd_bytes hB)
end Go.Proofs.Ytmckfoabemmmkaa
