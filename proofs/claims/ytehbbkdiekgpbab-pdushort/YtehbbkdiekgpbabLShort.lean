/- The walk of PduShort, whole. -/
import Derived.Test.YtehbbkdiekgpbabLShexc
import Derived.Test.YtehbbkdiekgpbabLShbits
import Derived.Test.YtehbbkdiekgpbabLShregs
import Derived.Test.YtehbbkdiekgpbabJ4
namespace Go.Proofs.Ytehbbkdiekgpbab
open Go.RowKit
open Pdu
theorem some_rq {w : World} {v : Value} {q : Rq} (h : IsRq w v q) : ∃ (q0 q1 q2 q3 : Int) (bo : Option Addr) (nb bc : Nat) (ro : Option Addr) (nr rc : Nat), v = .agg #[.int .u8 q0, .int .u16 q1, .int .u16 q2, .int .u16 q3, .slice bo nb bc, .slice ro nr rc] := by
  obtain ⟨_, bv, rv, rfl, h1, h2⟩ := h
  obtain ⟨bo, bc, rfl⟩ := h1.shape
  obtain ⟨ro, rc, rfl⟩ := h2.shape
  exact ⟨_, _, _, _, _, _, _, _, _, _, rfl⟩
theorem some_rp {w : World} {v : Value} {q : Rp} (h : IsRp w v q) : ∃ (q0 q1 q2 q3 : Int) (bo : Option Addr) (nb bc : Nat) (ro : Option Addr) (nr rc : Nat), v = .agg #[.int .u8 q0, .int .u8 q1, .int .u16 q2, .int .u16 q3, .slice bo nb bc, .slice ro nr rc] := by
  obtain ⟨_, bv, rv, rfl, h1, h2⟩ := h
  obtain ⟨bo, bc, rfl⟩ := h1.shape
  obtain ⟨ro, rc, rfl⟩ := h2.shape
  exact ⟨_, _, _, _, _, _, _, _, _, _, rfl⟩
theorem open_more {bs ms : List Nat} (hr : IsReq bs) (hm : ms ≠ []) (W : World) (e : Ending) (W' : World) (h : OpenEnd (bs ++ ms) W e W') : Below W.heap.size W W' ∧ ∃ (q0 q1 q2 q3 : Int) (bo : Option Addr) (nb bc : Nat) (ro : Option Addr) (nr rc : Nat), e = .returned (.tuple #[.agg #[.int .u8 q0, .int .u16 q1, .int .u16 q2, .int .u16 q3, .slice bo nb bc, .slice ro nr rc], .int .i64 30]) := by
  obtain ⟨k, ⟨hi, _⟩ | ⟨_, rfl⟩⟩ := h
  · exact absurd ((more_iff hr).1 hi) hm
  · exact ⟨k, _, _, _, _, _, _, _, _, _, _, rfl⟩
theorem open_none {bs : List Nat} (hr : IsReq bs) (W : World) (e : Ending) (W' : World) (h : OpenEnd (bs ++ []) W e W') : Below W.heap.size W W' ∧ ∃ (q0 q1 q2 q3 : Int) (bo : Option Addr) (nb bc : Nat) (ro : Option Addr) (nr rc : Nat), e = .returned (.tuple #[.agg #[.int .u8 q0, .int .u16 q1, .int .u16 q2, .int .u16 q3, .slice bo nb bc, .slice ro nr rc], .int .i64 0]) := by
  obtain ⟨k, ⟨_, v, rfl, hv⟩ | ⟨hi, _⟩⟩ := h
  · obtain ⟨q0, q1, q2, q3, bo, nb, bc, ro, nr, rc, rfl⟩ := some_rq hv
    exact ⟨k, _, _, _, _, _, _, _, _, _, _, rfl⟩
  · exact absurd ((more_iff hr).2 rfl) hi
theorem answer_more {q : Rq} {bs ms : List Nat} (hr : IsAns q bs) (hm : ms ≠ []) (W : World) (e : Ending) (W' : World) (h : AnsEnd q (bs ++ ms) W e W') : Below W.heap.size W W' ∧ ∃ (q0 q1 q2 q3 : Int) (bo : Option Addr) (nb bc : Nat) (ro : Option Addr) (nr rc : Nat), e = .returned (.tuple #[.agg #[.int .u8 q0, .int .u8 q1, .int .u16 q2, .int .u16 q3, .slice bo nb bc, .slice ro nr rc], .int .i64 30]) := by
  obtain ⟨k, ⟨hi, _⟩ | ⟨_, rfl⟩⟩ := h
  · exact absurd ((ans_more hr).1 hi) hm
  · exact ⟨k, _, _, _, _, _, _, _, _, _, _, rfl⟩
theorem answer_none {q : Rq} {bs : List Nat} (hr : IsAns q bs) (W : World) (e : Ending) (W' : World) (h : AnsEnd q (bs ++ []) W e W') : Below W.heap.size W W' ∧ ∃ (q0 q1 q2 q3 : Int) (bo : Option Addr) (nb bc : Nat) (ro : Option Addr) (nr rc : Nat), e = .returned (.tuple #[.agg #[.int .u8 q0, .int .u8 q1, .int .u16 q2, .int .u16 q3, .slice bo nb bc, .slice ro nr rc], .int .i64 0]) := by
  obtain ⟨k, ⟨_, v, rfl, hv⟩ | ⟨hi, _⟩⟩ := h
  · obtain ⟨q0, q1, q2, q3, bo, nb, bc, ro, nr, rc, rfl⟩ := some_rp hv
    exact ⟨k, _, _, _, _, _, _, _, _, _, _, rfl⟩
  · exact absurd ((ans_more hr).2 rfl) hi
theorem len_exc (a0 : Nat) : 1 ≤ (repBytes ⟨a0, 4, 0, 0, [], []⟩).length ∧ (repBytes ⟨a0, 4, 0, 0, [], []⟩).length ≤ 900 := by simp [repBytes]
theorem len_bits {a0 a2 : Nat} {l : List Bool} (hk : a0 = 1 ∨ a0 = 2) (hl : l.length = a2) (h : a2 ≤ 2000) : 1 ≤ (repBytes ⟨a0, 0, 0, 0, l, []⟩).length ∧ (repBytes ⟨a0, 0, 0, 0, l, []⟩).length ≤ 900 := by
  have hp : (pack l).length = packed a2 := by rw [pack_length, hl]
  have hq : packed a2 ≤ 250 := by unfold packed; omega
  rcases hk with rfl | rfl <;> simp [repBytes, rtail, hp] <;> omega
theorem len_regs {a0 a2 : Nat} {l : List Nat} (hk : a0 = 3 ∨ a0 = 4 ∨ a0 = 23) (hl : l.length = a2) (h : a2 ≤ 125) : 1 ≤ (repBytes ⟨a0, 0, 0, 0, [], l⟩).length ∧ (repBytes ⟨a0, 0, 0, 0, [], l⟩).length ≤ 900 := by
  have hp : (wds l).length = 2 * a2 := by rw [wds_length, hl]
  rcases hk with rfl | rfl | rfl <;> simp [repBytes, rtail, hp] <;> omega
theorem hd_cut {a0 p : Nat} (h : 5 ≤ a0) : ((repBytes ⟨a0, 4, 0, 0, [], []⟩).take p).getD 0 0 ≠ a0 := by
  match p with
  | 0 => simp [repBytes]; omega
  | p + 1 => simp [repBytes]
theorem hd_more {a0 : Nat} {ms : List Nat} : (repBytes ⟨a0, 4, 0, 0, [], []⟩ ++ ms).getD 0 0 ≠ a0 := by simp [repBytes]
theorem fr_bits {a0 a2 : Nat} (hk : a0 = 1 ∨ a0 = 2) (h : 1 ≤ a2 ∧ a2 ≤ 2000) : RFitsN a0 0 0 0 a2 0 := Or.inr ⟨rfl, Or.inl ⟨hk, h.1, h.2, rfl, rfl, rfl⟩⟩
theorem fr_regs {a0 a2 : Nat} (hk : a0 = 3 ∨ a0 = 4 ∨ a0 = 23) (h : 1 ≤ a2 ∧ a2 ≤ 125) : RFitsN a0 0 0 0 0 a2 := Or.inr ⟨rfl, Or.inr (Or.inl ⟨hk, h.1, h.2, rfl, rfl, rfl⟩)⟩
theorem fr_exc {a0 x : Nat} (h : a0 < 128) (hx : x ≠ 0) : RFitsN a0 x 0 0 0 0 := Or.inl ⟨hx, h, rfl, rfl, rfl, rfl⟩
theorem known_b {a0 : Nat} {P : Prop} (hk : a0 = 1 ∨ a0 = 2) : a0 = 1 ∨ a0 = 2 ∨ a0 = 3 ∨ a0 = 4 ∨ a0 = 23 ∨ P := hk.elim Or.inl fun h => Or.inr (Or.inl h)
theorem known_r {a0 : Nat} {P : Prop} (hk : a0 = 3 ∨ a0 = 4 ∨ a0 = 23) : a0 = 1 ∨ a0 = 2 ∨ a0 = 3 ∨ a0 = 4 ∨ a0 = 23 ∨ P := by
  rcases hk with h | h | h
  · exact Or.inr (Or.inr (Or.inl h))
  · exact Or.inr (Or.inr (Or.inr (Or.inl h)))
  · exact Or.inr (Or.inr (Or.inr (Or.inr (Or.inl h))))
theorem five {a0 : Nat} (hk : a0 = 5 ∨ a0 = 6 ∨ a0 = 15 ∨ a0 = 16 ∨ a0 = 22) : 5 ≤ a0 ∧ a0 < 128 := by omega
set_option maxHeartbeats 1600000 in
theorem short_law {v so : Value} {k : Int} {q : Rq} {ms : List Nat} {w : World} (h : IsRq w v q) (hs : Sl w so (u8s ms)) (hM : Bytes ms) : Calls Try.prog 4 #[v, .int .i64 k, so] w fun e w' => e = .returned (.bool true) ∧ Below w.heap.size w w' := by
  have h' := h
  obtain ⟨ok, av, aw, rfl, _, _⟩ := h'
  obtain ⟨a0, a1, a2, a3, a4, a5⟩ := q
  unfold rqV at h ⊢
  simp only at h ⊢
  obtain ⟨xo, c, rfl⟩ := hs.shape
  rw [u8s_len] at hs ⊢
  by_cases hl : a4.length ≤ 2500 ∧ a5.length ≤ 200
  case neg => exact short_heavy a0 a1 a2 a3 _ c k a4 a5 av aw xo w h hl
  by_cases hn : ms.length ≤ 50
  case neg => exact short_big a0 a1 a2 a3 _ c k a4 a5 av aw xo w h hl (by omega)
  by_cases fa : Rq.Fits ⟨a0, a1, a2, a3, a4, a5⟩
  case neg => exact short_no a0 a1 a2 a3 _ c k a4 a5 av aw xo w h hl hn fa
  have hR := (isReq_bytes fa ok).1
  have hk : ((a0 = 1 ∨ a0 = 2) ∧ 1 ≤ a2 ∧ a2 ≤ 2000) ∨ ((a0 = 3 ∨ a0 = 4) ∧ 1 ≤ a2 ∧ a2 ≤ 125) ∨ (a0 = 23 ∧ 1 ≤ a2 ∧ a2 ≤ 125) ∨ (a0 = 5 ∨ a0 = 6 ∨ a0 = 15 ∨ a0 = 16 ∨ a0 = 22) := by
    have hf := fa
    unfold Rq.Fits FitsN at hf
    simp only at hf
    omega
  have lf : (List.replicate a2 false).length = a2 := List.length_replicate
  have lz : (List.replicate a2 0).length = a2 := List.length_replicate
  have h256 : a0 < 256 := ok.fn
  have okb : Rp.Ok ⟨a0, 0, 0, 0, List.replicate a2 false, []⟩ := ⟨h256, by simp, by simp, by simp, fun _ h => by simp at h⟩
  have okr : Rp.Ok ⟨a0, 0, 0, 0, [], List.replicate a2 0⟩ := ⟨h256, by simp, by simp, by simp, fun x h => by have := (List.mem_replicate.1 h).2; omega⟩
  have oke : Rp.Ok ⟨a0, 4, 0, 0, [], []⟩ := ⟨h256, by simp, by simp, by simp, fun _ h => by simp at h⟩
  rcases hk with ⟨hk, hb⟩ | ⟨hk, hb⟩ | ⟨hk, hb⟩ | hk
  · have hA := (m_bits fa hk lf).1
    have fr : Rp.Fits ⟨a0, 0, 0, 0, List.replicate a2 false, []⟩ := by
      show RFitsN a0 0 0 0 (List.replicate a2 false).length 0
      rw [lf]
      exact fr_bits hk hb
    by_cases hm : ms = []
    · subst hm
      exact short_bits0 a0 a1 a2 a3 _ c k a4 a5 av aw xo w h hl fa hk [] hs hM rfl hn rfl (open_none hR) (answer_none hA) (fun p hp => ans_cut hA hp) fr okb (len_bits hk lf hb.2) (fun p => known_b hk) (known_b hk)
    · exact short_bits30 a0 a1 a2 a3 _ c k a4 a5 av aw xo w h hl fa hk ms hs hM rfl hn (decide_eq_true (List.length_pos_iff.2 hm)) (open_more hR hm) (answer_more hA hm) (fun p hp => ans_cut hA hp) fr okb (len_bits hk lf hb.2) (fun p => known_b hk) (known_b hk)
  · have hk3 : a0 = 3 ∨ a0 = 4 ∨ a0 = 23 := hk.elim Or.inl fun h => Or.inr (Or.inl h)
    have hA := (m_regs (regs := List.replicate a2 0) fa hk3 lz).1
    have fr : Rp.Fits ⟨a0, 0, 0, 0, [], List.replicate a2 0⟩ := by
      show RFitsN a0 0 0 0 0 (List.replicate a2 0).length
      rw [lz]
      exact fr_regs hk3 hb
    by_cases hm : ms = []
    · subst hm
      exact short_regs0 a0 a1 a2 a3 _ c k a4 a5 av aw xo w h hl fa hk [] hs hM rfl hn rfl (open_none hR) (answer_none hA) (fun p hp => ans_cut hA hp) fr okr (len_regs hk3 lz hb.2) (fun p => known_r hk3) (known_r hk3)
    · exact short_regs30 a0 a1 a2 a3 _ c k a4 a5 av aw xo w h hl fa hk ms hs hM rfl hn (decide_eq_true (List.length_pos_iff.2 hm)) (open_more hR hm) (answer_more hA hm) (fun p hp => ans_cut hA hp) fr okr (len_regs hk3 lz hb.2) (fun p => known_r hk3) (known_r hk3)
  · have hk3 : a0 = 3 ∨ a0 = 4 ∨ a0 = 23 := Or.inr (Or.inr hk)
    have hA := (m_regs (regs := List.replicate a2 0) fa hk3 lz).1
    have fr : Rp.Fits ⟨a0, 0, 0, 0, [], List.replicate a2 0⟩ := by
      show RFitsN a0 0 0 0 0 (List.replicate a2 0).length
      rw [lz]
      exact fr_regs hk3 hb
    by_cases hm : ms = []
    · subst hm
      exact short_regw0 a0 a1 a2 a3 _ c k a4 a5 av aw xo w h hl fa hk [] hs hM rfl hn rfl (open_none hR) (answer_none hA) (fun p hp => ans_cut hA hp) fr okr (len_regs hk3 lz hb.2) (fun p => known_r hk3) (known_r hk3)
    · exact short_regw30 a0 a1 a2 a3 _ c k a4 a5 av aw xo w h hl fa hk ms hs hM rfl hn (decide_eq_true (List.length_pos_iff.2 hm)) (open_more hR hm) (answer_more hA hm) (fun p hp => ans_cut hA hp) fr okr (len_regs hk3 lz hb.2) (fun p => known_r hk3) (known_r hk3)
  · have hA := (m_exc (x := 4) fa (by decide)).1
    have fr : Rp.Fits ⟨a0, 4, 0, 0, [], []⟩ := by
      exact fr_exc (x := 4) (five hk).2 (by decide)
    by_cases hm : ms = []
    · subst hm
      exact short_exc0 a0 a1 a2 a3 _ c k a4 a5 av aw xo w h hl fa hk [] hs hM rfl hn rfl (open_none hR) (answer_none hA) (fun p hp => ans_cut hA hp) fr oke (len_exc a0) (fun p => Or.inr (Or.inr (Or.inr (Or.inr (Or.inr (hd_cut (five hk).1)))))) (Or.inr (Or.inr (Or.inr (Or.inr (Or.inr hd_more)))))
    · exact short_exc30 a0 a1 a2 a3 _ c k a4 a5 av aw xo w h hl fa hk ms hs hM rfl hn (decide_eq_true (List.length_pos_iff.2 hm)) (open_more hR hm) (answer_more hA hm) (fun p hp => ans_cut hA hp) fr oke (len_exc a0) (fun p => Or.inr (Or.inr (Or.inr (Or.inr (Or.inr (hd_cut (five hk).1)))))) (Or.inr (Or.inr (Or.inr (Or.inr (Or.inr hd_more)))))
end Go.Proofs.Ytehbbkdiekgpbab
