/- What Open and Write answer, whole; the reference's too; the chapter's example. -/
import Derived.Test.YtgmbboimndepnaaW4
namespace Go.Proofs.Ytgmbboimndepnaa
open Go.RowKit
open Pdu
open Crc
/-- How an Open ends. -/
def OpenEnd (bs : List Nat) (w : World) (e : Ending) (w' : World) : Prop :=
  Below w.heap.size w w' ∧ ∃ po pc, e = .returned (.tuple #[.int .u8 (rd bs).unit, .slice po (rd bs).pdu.length pc, .int .i64 (rd bs).e]) ∧ w'.ownsRow w.heap.size 5 1 (.slice po (rd bs).pdu.length pc) (rd bs).pdu.length (u8s (rd bs).pdu)
theorem end_no {bs : List Nat} {w w' : World} {e : Ending} {E : Nat} (hr : rd bs = ⟨0, [], E⟩) (he : e = nought E) (hb : Below w.heap.size w w') : OpenEnd bs w e w' := by
  unfold OpenEnd
  rw [hr]
  exact ⟨hb, none, 0, he, World.ownsRow_nil ..⟩
theorem end_yes {bs : List Nat} {w w' : World} {e : Ending} {unit : Nat} {pdu : List Nat} (hr : rd bs = ⟨unit, pdu, 0⟩) (he : ∃ pv, e = .returned (.tuple #[.int .u8 unit, pv, .int .i64 0]) ∧ w'.ownsRow w.heap.size 5 1 pv pdu.length (u8s pdu)) (hb : Below w.heap.size w w') : OpenEnd bs w e w' := by
  unfold OpenEnd
  rw [hr]
  obtain ⟨pv, rfl, hs⟩ := he
  obtain ⟨po, pc, rfl⟩ := (own_sl hs).shape
  rw [u8s_len] at hs ⊢
  exact ⟨hb, po, pc, rfl, hs⟩
theorem OpenEnd.is {bs : List Nat} {w w' : World} {e : Ending} (h : OpenEnd bs w e w') {unit E : Nat} {pdu : List Nat} (hr : rd bs = ⟨unit, pdu, E⟩) :
    Below w.heap.size w w' ∧ ∃ po pc, e = .returned (.tuple #[.int .u8 unit, .slice po pdu.length pc, .int .i64 E]) ∧ w'.ownsRow w.heap.size 5 1 (.slice po pdu.length pc) pdu.length (u8s pdu) := by
  unfold OpenEnd at h
  rw [hr] at h
  exact h
theorem open_c {v : Value} {bs : List Nat} {w : World} (h : Sl w v (u8s bs)) (hB : Bytes bs) : Calls Try.prog 21 #[v] w (OpenEnd bs w) := by
  by_cases hl : 4 ≤ bs.length ∧ bs.length ≤ 256
  case neg =>
    obtain ⟨ao, c, rfl⟩ := h.shape
    rw [u8s_len]
    exact (open_51 ao _ c w hl).mono fun e w' ⟨he, hb⟩ => end_no (by unfold rd; rw [if_pos hl]) he hb
  rcases h with ⟨h, _⟩ | ⟨b, off, cap, rfl, hcap, hc⟩
  · have := congrArg List.length h
    rw [u8s_len, List.length_nil] at this
    omega
  rw [u8s_len] at hcap ⊢
  by_cases hs : bs.drop (bs.length - 2) = s2 (s16 (bs.take (bs.length - 2)))
  · exact (open_yes b off _ _ cap bs w hl.1 hl.2 rfl hcap rfl hB hc hs).mono fun e w' ⟨he, hb⟩ => end_yes (by unfold rd; rw [if_neg (by omega), if_pos hs]) he hb
  · exact (open_50 b off _ _ cap bs w hl.1 hl.2 rfl hcap rfl hB hc hs).mono fun e w' ⟨he, hb⟩ => end_no (by unfold rd; rw [if_neg (by omega), if_neg hs]) he hb
theorem ropen_c {v : Value} {bs : List Nat} {w : World} (h : Sl w v (u8s bs)) (hB : Bytes bs) : Calls Try.prog 13 #[v] w (OpenEnd bs w) := by
  by_cases hl : 4 ≤ bs.length ∧ bs.length ≤ 256
  case neg =>
    obtain ⟨ao, c, rfl⟩ := h.shape
    rw [u8s_len]
    exact (ropen_51 ao _ c w hl).mono fun e w' ⟨he, hb⟩ => end_no (by unfold rd; rw [if_pos hl]) he hb
  rcases h with ⟨h, _⟩ | ⟨b, off, cap, rfl, hcap, hc⟩
  · have := congrArg List.length h
    rw [u8s_len, List.length_nil] at this
    omega
  rw [u8s_len] at hcap ⊢
  by_cases hs : bs.drop (bs.length - 2) = s2 (s16 (bs.take (bs.length - 2)))
  · exact (ropen_yes b off _ _ cap bs w hl.1 hl.2 rfl hcap rfl hB hc hs).mono fun e w' ⟨he, hb⟩ => end_yes (by unfold rd; rw [if_neg (by omega), if_pos hs]) he hb
  · exact (ropen_50 b off _ _ cap bs w hl.1 hl.2 rfl hcap rfl hB hc hs).mono fun e w' ⟨he, hb⟩ => end_no (by unfold rd; rw [if_neg (by omega), if_neg hs]) he hb
end Go.Proofs.Ytgmbboimndepnaa
