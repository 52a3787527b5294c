/- A reply that is written for a request answers it, in plain mathematics. -/
import Derived.Test.YtehbbkdiekgpbabPlain6
namespace Go.Proofs.Ytehbbkdiekgpbab
open Pdu
theorem m_bits {a0 a1 a2 a3 : Nat} {a4 bits : List Bool} {a5 : List Nat} (hf : Rq.Fits ⟨a0, a1, a2, a3, a4, a5⟩) (hk : a0 = 1 ∨ a0 = 2) (hb : bits.length = a2) : IsAns ⟨a0, a1, a2, a3, a4, a5⟩ (repBytes ⟨a0, 0, 0, 0, bits, []⟩) ∧ readAns ⟨a0, a1, a2, a3, a4, a5⟩ (repBytes ⟨a0, 0, 0, 0, bits, []⟩) = ⟨a0, 0, 0, 0, bits, []⟩ := by
  have hf' := hf
  unfold Rq.Fits FitsN at hf'
  simp only at hf'
  have hp : packed a2 ≤ 250 := by unfold packed; omega
  have hl : (pack bits).length = packed a2 := by rw [pack_length, hb]
  have e : repBytes ⟨a0, 0, 0, 0, bits, []⟩ = a0 :: packed a2 :: pack bits := by
    rcases hk with rfl | rfl <;> simp [repBytes, rtail, hl] <;> omega
  rw [e]
  refine ⟨⟨hf, Or.inr ⟨by simp, rfl, Or.inl ⟨hk, by simp [hl]; omega, rfl⟩⟩⟩, ?_⟩
  unfold readAns ansOf
  simp only
  rw [if_pos (show (a0 :: packed a2 :: pack bits).getD 0 0 = a0 from rfl), if_pos hk]
  simp only [List.drop_succ_cons, List.drop_zero]
  rw [← hb, ub_pack]
theorem m_regs {a0 a1 a2 a3 : Nat} {a4 : List Bool} {a5 regs : List Nat} (hf : Rq.Fits ⟨a0, a1, a2, a3, a4, a5⟩) (hk : a0 = 3 ∨ a0 = 4 ∨ a0 = 23) (hb : regs.length = a2) : IsAns ⟨a0, a1, a2, a3, a4, a5⟩ (repBytes ⟨a0, 0, 0, 0, [], regs⟩) ∧ readAns ⟨a0, a1, a2, a3, a4, a5⟩ (repBytes ⟨a0, 0, 0, 0, [], regs⟩) = ⟨a0, 0, 0, 0, [], regs⟩ := by
  have hf' := hf
  unfold Rq.Fits FitsN at hf'
  simp only at hf'
  have e : repBytes ⟨a0, 0, 0, 0, [], regs⟩ = a0 :: 2 * a2 :: wds regs := by
    rcases hk with rfl | rfl | rfl <;> simp [repBytes, rtail, hb] <;> omega
  rw [e]
  refine ⟨⟨hf, Or.inr ⟨by simp, rfl, Or.inr (Or.inl ⟨hk, by simp [wds_length, hb]; omega, rfl⟩)⟩⟩, ?_⟩
  unfold readAns ansOf
  simp only
  rw [if_pos (show (a0 :: 2 * a2 :: wds regs).getD 0 0 = a0 from rfl), if_neg (by omega), if_pos hk]
  simp only [List.drop_succ_cons, List.drop_zero]
  rw [ws_wds]
theorem m_exc {a0 a1 a2 a3 x : Nat} {a4 : List Bool} {a5 : List Nat} (hf : Rq.Fits ⟨a0, a1, a2, a3, a4, a5⟩) (hx : x ≠ 0) : IsAns ⟨a0, a1, a2, a3, a4, a5⟩ (repBytes ⟨a0, x, 0, 0, [], []⟩) ∧ readAns ⟨a0, a1, a2, a3, a4, a5⟩ (repBytes ⟨a0, x, 0, 0, [], []⟩) = ⟨a0, x, 0, 0, [], []⟩ := by
  have e : repBytes ⟨a0, x, 0, 0, [], []⟩ = [a0 + 128, x] := by unfold repBytes; rw [if_neg hx]
  rw [e]
  refine ⟨⟨hf, Or.inl ⟨rfl, rfl, hx⟩⟩, ?_⟩
  unfold readAns excOf
  simp
theorem m_echo {q : Rq} (hf : q.Fits) (hk : q.fn = 5 ∨ q.fn = 6 ∨ q.fn = 15 ∨ q.fn = 16 ∨ q.fn = 22) : IsAns q (repBytes (echo q)) ∧ readAns q (repBytes (echo q)) = echo q := by
  have e : ∃ t, repBytes (echo q) = q.fn :: t := by
    unfold repBytes
    rw [if_pos (by unfold echo; rfl)]
    exact ⟨_, rfl⟩
  obtain ⟨t, e⟩ := e
  refine ⟨⟨hf, Or.inr ⟨by rw [e]; simp, by rw [e]; rfl, Or.inr (Or.inr ⟨hk, rfl⟩)⟩⟩, ?_⟩
  unfold readAns ansOf
  rw [e]
  rw [if_pos (show (q.fn :: t).getD 0 0 = q.fn from rfl), if_neg (by omega), if_neg (by omega)]
theorem m_other {q p : Rq} {bs : List Nat} (hq : q.Fits) (hne : p.fn ≠ q.fn) (h0 : bs.getD 0 0 = q.fn ∨ bs.getD 0 0 = q.fn + 128) : ¬ IsAns p bs := by
  intro h
  have h1 := fits_128 hq
  have h2 := fits_128 h.1
  rcases h.2 with h | h
  · have := h.2.1
    omega
  · have := h.2.1
    omega
end Go.Proofs.Ytehbbkdiekgpbab
