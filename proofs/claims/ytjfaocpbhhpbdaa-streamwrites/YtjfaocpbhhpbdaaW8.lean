/- What Open and Write answer, whole; the reference's too. -/
import Derived.Test.YtjfaocpbhhpbdaaW3
import Derived.Test.YtjfaocpbhhpbdaaW5
import Derived.Test.YtjfaocpbhhpbdaaW7
namespace Go.Proofs.Ytjfaocpbhhpbdaa
open Go.RowKit
open Pdu
/-- How an Open ends. -/
def OpenEnd (bs : List Nat) (w : World) (e : Ending) (w' : World) : Prop :=
  Below w.heap.size w w' ∧ ∃ po pc, e = .returned (.tuple #[.agg #[.int .u16 (rd bs).id, .int .u8 (rd bs).unit, .slice po (rd bs).pdu.length pc], .int .i64 (rd bs).n, .int .i64 (rd bs).e]) ∧ w'.ownsRow w.heap.size 5 1 (.slice po (rd bs).pdu.length pc) (rd bs).pdu.length (u8s (rd bs).pdu)
theorem end_no {bs : List Nat} {w w' : World} {e : Ending} {E : Nat} (hr : rd bs = ⟨0, 0, [], 0, E⟩) (he : e = nought E) (hb : Below w.heap.size w w') : OpenEnd bs w e w' := by
  unfold OpenEnd
  rw [hr]
  exact ⟨hb, none, 0, he, World.ownsRow_nil ..⟩
theorem end_yes {bs : List Nat} {w w' : World} {e : Ending} {id unit n : Nat} {pdu : List Nat} (hr : rd bs = ⟨id, unit, pdu, n, 0⟩) (he : ∃ pv, e = .returned (.tuple #[.agg #[.int .u16 id, .int .u8 unit, pv], .int .i64 n, .int .i64 0]) ∧ w'.ownsRow w.heap.size 5 1 pv pdu.length (u8s pdu)) (hb : Below w.heap.size w w') : OpenEnd bs w e w' := by
  unfold OpenEnd
  rw [hr]
  obtain ⟨pv, rfl, hs⟩ := he
  obtain ⟨po, pc, rfl⟩ := (own_sl hs).shape
  rw [u8s_len] at hs ⊢
  exact ⟨hb, po, pc, rfl, hs⟩
theorem open_c {v : Value} {bs : List Nat} {w : World} (h : Sl w v (u8s bs)) (hB : Bytes bs) (hm : bs.length ≤ 10000) : Calls Try.prog 20 #[v] w (OpenEnd bs w) := by
  by_cases hs : bs.length < 6
  · obtain ⟨ao, c, rfl⟩ := h.shape
    rw [u8s_len]
    exact (open_short ao _ c w hs).mono fun e w' ⟨he, hb⟩ => end_no (by unfold rd; rw [if_pos hs]) he hb
  rcases h with ⟨h, _⟩ | ⟨b, off, cap, rfl, hcap, hc⟩
  · have := congrArg List.length h
    rw [u8s_len, List.length_nil] at this
    omega
  rw [u8s_len] at hcap ⊢
  by_cases h2 : wordAt bs 2 = 0
  case neg => exact (open_41 b off _ cap bs w (by omega) hcap (by omega) rfl hB hc h2).mono fun e w' ⟨he, hb⟩ => end_no (by unfold rd; rw [if_neg hs, if_pos h2]) he hb
  by_cases h4 : 2 ≤ wordAt bs 4 ∧ wordAt bs 4 ≤ 254
  case neg => exact (open_40 b off _ cap bs w (by omega) hcap (by omega) rfl hB hc h2 h4).mono fun e w' ⟨he, hb⟩ => end_no (by unfold rd; rw [if_neg hs, if_neg (by omega), if_pos h4]) he hb
  by_cases h5 : bs.length < 6 + wordAt bs 4
  · exact (open_wait b off _ cap (6 + wordAt bs 4) bs w (by omega) hcap (by omega) rfl hB hc h2 h4 (by omega) h5).mono fun e w' ⟨he, hb⟩ => end_no (by unfold rd; rw [if_neg hs, if_neg (by omega), if_neg (by omega), if_pos h5]) he hb
  · exact (open_yes b off _ cap (6 + wordAt bs 4) bs w (by omega) hcap (by omega) rfl hB hc h2 h4 (by omega) (by omega)).mono fun e w' ⟨he, hb⟩ => end_yes (by unfold rd; rw [if_neg hs, if_neg (by omega), if_neg (by omega), if_neg h5]) he hb
theorem ropen_c {v : Value} {bs : List Nat} {w : World} (h : Sl w v (u8s bs)) (hB : Bytes bs) (hm : bs.length ≤ 10000) : Calls Try.prog 8 #[v] w (OpenEnd bs w) := by
  by_cases hs : bs.length < 6
  · obtain ⟨ao, c, rfl⟩ := h.shape
    rw [u8s_len]
    exact (ropen_short ao _ c w hs).mono fun e w' ⟨he, hb⟩ => end_no (by unfold rd; rw [if_pos hs]) he hb
  rcases h with ⟨h, _⟩ | ⟨b, off, cap, rfl, hcap, hc⟩
  · have := congrArg List.length h
    rw [u8s_len, List.length_nil] at this
    omega
  rw [u8s_len] at hcap ⊢
  by_cases h2 : wordAt bs 2 = 0
  case neg => exact (ropen_41 b off _ cap bs w (by omega) (by omega) rfl hB hc h2).mono fun e w' ⟨he, hb⟩ => end_no (by unfold rd; rw [if_neg hs, if_pos h2]) he hb
  by_cases h4 : 2 ≤ wordAt bs 4 ∧ wordAt bs 4 ≤ 254
  case neg =>
    have hr : rd bs = ⟨0, 0, [], 0, 40⟩ := by unfold rd; rw [if_neg hs, if_neg (by omega), if_pos h4]
    by_cases h3 : wordAt bs 4 < 2
    · exact (ropen_40a b off _ cap bs w (by omega) (by omega) rfl hB hc h2 h3).mono fun e w' ⟨he, hb⟩ => end_no hr he hb
    · exact (ropen_40b b off _ cap bs w (by omega) (by omega) rfl hB hc h2 (by omega)).mono fun e w' ⟨he, hb⟩ => end_no hr he hb
  by_cases h5 : bs.length < 6 + wordAt bs 4
  · exact (ropen_wait b off _ cap (6 + wordAt bs 4) bs w (by omega) (by omega) rfl hB hc h2 h4 (by omega) h5).mono fun e w' ⟨he, hb⟩ => end_no (by unfold rd; rw [if_neg hs, if_neg (by omega), if_neg (by omega), if_pos h5]) he hb
  · exact (ropen_yes b off _ cap (6 + wordAt bs 4) bs w (by omega) hcap (by omega) rfl hB hc h2 h4 (by omega) (by omega)).mono fun e w' ⟨he, hb⟩ => end_yes (by unfold rd; rw [if_neg hs, if_neg (by omega), if_neg (by omega), if_neg h5]) he hb
theorem rw_no {v pv : Value} {id unit : Nat} {pdu : List Nat} {w : World} (h : IsFr w v id unit pdu pv) (hm : pdu.length ≤ 600) (hf : ¬ (1 ≤ pdu.length ∧ pdu.length ≤ 253)) : Calls Try.prog 14 #[v] w fun e w' => e = .returned (.tuple #[.slice none 0 0, .int .i64 41]) ∧ Below w.heap.size w w' := by
  obtain ⟨rfl, _, _, _, s⟩ := h
  obtain ⟨ao, c, rfl⟩ := s.shape
  rw [u8s_len]
  exact mbap_no _ _ ao _ c w (by omega) hf
theorem rw_yes {v pv : Value} {id unit : Nat} {pdu : List Nat} {w : World} (h : IsFr w v id unit pdu pv) (hf : 1 ≤ pdu.length ∧ pdu.length ≤ 253) : Calls Try.prog 14 #[v] w fun e w' => ∃ v', e = .returned (.tuple #[v', .int .i64 0]) ∧ w'.ownsRow w.heap.size 5 1 v' (mb id unit pdu).length (u8s (mb id unit pdu)) ∧ Below w.heap.size w w' := by
  obtain ⟨rfl, hi, _, _, s⟩ := h
  obtain ⟨ao, c, rfl⟩ := s.shape
  rw [u8s_len] at s ⊢
  exact mbap_yes id unit _ c (pdu.length + 1) pdu ao w rfl (by omega) (by omega) hi s
theorem made_own (X : World) (c base : Nat) (hb : base ≤ X.heap.size) (hc : c ≤ 1000000) : (X.alloc (.cells (madeCells #[.int .u8 0] c) 5)).ownsRow base 5 1 (.slice (some ⟨X.heap.size, 0, none⟩) 0 c) ([] : List Nat).length (u8s []) :=
  World.ownsRow_made X _ c hb (by unfold maxLen; omega) (by rw [size_madeCells, Nat.mul_one])
theorem lit_sl (w : World) (x : Nat) : Sl (w.alloc (.cells #[.int .u8 x] 5)) (.slice (some ⟨w.heap.size, 0, none⟩) 1 1) (u8s [x]) := own_sl (lit_own w x)
theorem ex_bytes : Bytes [0, 1, 0, 0, 0, 2, 17, 3] := by intro x hx; simp at hx; omega
theorem OpenEnd.is {bs : List Nat} {w w' : World} {e : Ending} (h : OpenEnd bs w e w') {id unit n E : Nat} {pdu : List Nat} (hr : rd bs = ⟨id, unit, pdu, n, E⟩) :
    Below w.heap.size w w' ∧ ∃ po pc, e = .returned (.tuple #[.agg #[.int .u16 id, .int .u8 unit, .slice po pdu.length pc], .int .i64 n, .int .i64 E]) ∧ w'.ownsRow w.heap.size 5 1 (.slice po pdu.length pc) pdu.length (u8s pdu) := by
  unfold OpenEnd at h
  rw [hr] at h
  exact h
theorem lit_bytes (w : World) (l : List Nat) (a : Array Value) (n : Nat) (ha : a.toList = u8s l) (hn : n = l.length) : Sl (w.alloc (.cells a 5)) (.slice (some ⟨w.heap.size, 0, none⟩) n n) (u8s l) := by
  refine Or.inr ⟨w.heap.size, 0, n, by rw [u8s_len, hn], by rw [u8s_len, hn]; exact Nat.le_refl _, fun k u hk => ?_⟩
  rw [World.cell?_alloc_new, Nat.zero_add, ← Array.getElem?_toList, ha]
  exact hk
theorem rd_id {bs : List Nat} (h : Bytes bs) : (rd bs).id < 65536 := by
  unfold rd
  repeat' split
  all_goals first | exact wordAt_lt h 0 | decide
theorem rd_unit {bs : List Nat} (h : Bytes bs) : (rd bs).unit < 256 := by
  unfold rd
  repeat' split
  all_goals first | exact h.at 6 | decide
end Go.Proofs.Ytjfaocpbhhpbdaa
