/- What Open and Write answer, whole; the reference's too; the chapter's example. -/
import Derived.Test.YteadaknlflaclaaW4
namespace Go.Proofs.Yteadaknlflaclaa
open Go.RowKit
open Pdu
open Crc
/-- How an Open ends. -/
def OpenEnd (bs : List Nat) (w : World) (e : Ending) (w' : World) : Prop :=
  Below w.heap.size w w' ∧ ∃ po pc, e = .returned (.tuple #[.int .u8 (rd bs).unit, .slice po (rd bs).pdu.length pc, .int .i64 (rd bs).e]) ∧ Sl w' (.slice po (rd bs).pdu.length pc) (u8s (rd bs).pdu)
theorem end_no {bs : List Nat} {w w' : World} {e : Ending} {E : Nat} (hr : rd bs = ⟨0, [], E⟩) (he : e = nought E) (hb : Below w.heap.size w w') : OpenEnd bs w e w' := by
  unfold OpenEnd
  rw [hr]
  exact ⟨hb, none, 0, he, Sl.nil _⟩
theorem end_yes {bs : List Nat} {w w' : World} {e : Ending} {unit : Nat} {pdu : List Nat} (hr : rd bs = ⟨unit, pdu, 0⟩) (he : ∃ pv, e = .returned (.tuple #[.int .u8 unit, pv, .int .i64 0]) ∧ Sl w' pv (u8s pdu)) (hb : Below w.heap.size w w') : OpenEnd bs w e w' := by
  unfold OpenEnd
  rw [hr]
  obtain ⟨pv, rfl, hs⟩ := he
  obtain ⟨po, pc, rfl⟩ := hs.shape
  rw [u8s_len] at hs ⊢
  exact ⟨hb, po, pc, rfl, hs⟩
theorem OpenEnd.is {bs : List Nat} {w w' : World} {e : Ending} (h : OpenEnd bs w e w') {unit E : Nat} {pdu : List Nat} (hr : rd bs = ⟨unit, pdu, E⟩) :
    Below w.heap.size w w' ∧ ∃ po pc, e = .returned (.tuple #[.int .u8 unit, .slice po pdu.length pc, .int .i64 E]) ∧ Sl w' (.slice po pdu.length pc) (u8s pdu) := by
  unfold OpenEnd at h
  rw [hr] at h
  exact h
theorem open_c {v : Value} {bs : List Nat} {w : World} (h : Sl w v (u8s bs)) (hB : Bytes bs) : Calls Try.prog 10 #[v] w (OpenEnd bs w) := by
  by_cases hl : 4 ≤ bs.length ∧ bs.length ≤ 256
  case neg =>
    obtain ⟨ao, c, rfl⟩ := h.shape
    rw [u8s_len]
    exact (open_51 ao _ c w hl).mono fun e w' ⟨he, hb⟩ => end_no (by unfold rd; rw [if_pos hl]) he hb
  rcases h with ⟨h, _⟩ | ⟨b, off, cap, rfl, hcap, hc⟩
  · have := congrArg List.length h
    rw [u8s_len, List.length_nil] at this
    omega
  rw [u8s_len] at hcap ⊢
  by_cases hs : bs.drop (bs.length - 2) = s2 (s16 (bs.take (bs.length - 2)))
  · exact (open_yes b off _ _ cap bs w hl.1 hl.2 rfl hcap rfl hB hc hs).mono fun e w' ⟨he, hb⟩ => end_yes (by unfold rd; rw [if_neg (by omega), if_pos hs]) he hb
  · exact (open_50 b off _ _ cap bs w hl.1 hl.2 rfl hcap rfl hB hc hs).mono fun e w' ⟨he, hb⟩ => end_no (by unfold rd; rw [if_neg (by omega), if_neg hs]) he hb
theorem ropen_c {v : Value} {bs : List Nat} {w : World} (h : Sl w v (u8s bs)) (hB : Bytes bs) : Calls Try.prog 11 #[v] w (OpenEnd bs w) := by
  by_cases hl : 4 ≤ bs.length ∧ bs.length ≤ 256
  case neg =>
    obtain ⟨ao, c, rfl⟩ := h.shape
    rw [u8s_len]
    exact (ropen_51 ao _ c w hl).mono fun e w' ⟨he, hb⟩ => end_no (by unfold rd; rw [if_pos hl]) he hb
  rcases h with ⟨h, _⟩ | ⟨b, off, cap, rfl, hcap, hc⟩
  · have := congrArg List.length h
    rw [u8s_len, List.length_nil] at this
    omega
  rw [u8s_len] at hcap ⊢
  by_cases hs : bs.drop (bs.length - 2) = s2 (s16 (bs.take (bs.length - 2)))
  · exact (ropen_yes b off _ _ cap bs w hl.1 hl.2 rfl hcap rfl hB hc hs).mono fun e w' ⟨he, hb⟩ => end_yes (by unfold rd; rw [if_neg (by omega), if_pos hs]) he hb
  · exact (ropen_50 b off _ _ cap bs w hl.1 hl.2 rfl hcap rfl hB hc hs).mono fun e w' ⟨he, hb⟩ => end_no (by unfold rd; rw [if_neg (by omega), if_neg hs]) he hb
def k5 : List Nat := [3, 0, 0, 0, 1]
def k8 : List Nat := [1, 3, 0, 0, 0, 1, 132, 10]
theorem k8_is : rt 1 k5 = k8 := by decide +kernel
theorem k8_rd : rd k8 = ⟨1, k5, 0⟩ := by rw [← k8_is]; exact rd_rt 1 k5 (by decide)
theorem k3_rd : rd [1, 2, 3] = ⟨0, [], 51⟩ := rfl
theorem k5_bytes : Bytes k5 := by unfold Bytes k5; decide
theorem k8_bytes : Bytes k8 := by unfold Bytes k8; decide
theorem k3_bytes : Bytes [1, 2, 3] := by unfold Bytes; decide
set_option maxRecDepth 100000 in
set_option maxHeartbeats 8000000 in
theorem known_law (w : World) : Calls Try.prog 6 #[] w fun e w' => e = .returned (.bool true) ∧ Below w.heap.size w w' := by
  have X1 := hid_as (write_yes 1 5 5 k5 _ _ rfl (by decide) (by decide) k5_bytes (lit_bytes w k5 #[.int .u8 3, .int .u8 0, .int .u8 0, .int .u8 0, .int .u8 1] 5 rfl rfl))
  rw [k8_is] at X1
  go_enter Try.func6, Try.ntmps6
  go_wp2_with fail
  refine X1.out.mono ?_
  rintro e w1 ⟨v1, rfl, own1, k1⟩
  obtain ⟨g, c, rfl, hc⟩ : ∃ g c, v1 = .slice (some ⟨g, 0, none⟩) 8 c ∧ 8 ≤ c := own_some own1 (by decide)
  have K1 : Hid (Below w.heap.size w w1) := below_and (below_new (Below.refl _ w) _) k1
  have S1 : Hid (Sl w1 (.slice (some ⟨g, 0, none⟩) 8 c) (u8s k8)) := own_sl own1
  have O1 := hid_as (open_c S1.out k8_bytes)
  clear own1 k1 X1 hc
  go_wp2_with fail
  refine O1.out.mono ?_
  rintro e w2 hend
  obtain ⟨k2, po, pc, rfl, _⟩ := hend.is k8_rd
  have K2 := hid_as (below_and K1.out k2)
  have S2 := hid_as (S1.out.below k2)
  have O2 := hid_as (open_c (lit_bytes w2 [1, 2, 3] #[.int .u8 1, .int .u8 2, .int .u8 3] 3 rfl rfl) k3_bytes)
  clear hend k2 O1 K1 S1
  go_wp2_with fail
  refine O2.out.mono ?_
  rintro e w3 hend
  obtain ⟨k3, po3, pc3, rfl, _⟩ := hend.is k3_rd
  have k3 : Below w2.heap.size w2 w3 := below_and (below_new (Below.refl _ w2) _) k3
  have K3 := hid_as (below_and K2.out k3)
  have S3 := hid_as (S2.out.below k3)
  have Y4 := hid_as (bytes_t (S3.out.below (below_new (Below.refl _ w3) _)) (lit_bytes w3 k8 #[.int .u8 1, .int .u8 3, .int .u8 0, .int .u8 0, .int .u8 0, .int .u8 1, .int .u8 132, .int .u8 10] 8 rfl rfl) k8_bytes)
  have h5 : k5.length = 5 := rfl
  clear hend k3 O2 K2 S2
  go_wp2_with fail
  refine Y4.out.mono ?_
  rintro e w4 ⟨rfl, hw⟩
  subst w4
  go_wp2
  go_ret
  exact ⟨rfl, below_new K3.out _⟩
end Go.Proofs.Yteadaknlflaclaa
