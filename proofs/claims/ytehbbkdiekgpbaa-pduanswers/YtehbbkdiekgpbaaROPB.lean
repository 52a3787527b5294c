/- The walk: the reference reads a reply: what serves all. -/
import Derived.Test.YtehbbkdiekgpbaaOP
import Derived.Test.YtehbbkdiekgpbaaRReqAll
import Derived.Test.YtehbbkdiekgpbaaTA5
namespace Go.Proofs.Ytehbbkdiekgpbaa
open Go.RowKit
open Pdu
theorem isAns_len {q : Rq} {bs : List Nat} (h : IsAns q bs) : 2 ≤ bs.length := by
  rcases h.2 with h2 | h2
  · have := h2.1
    omega
  · obtain ⟨h1, h0, h3⟩ := h2
    have hf := h.1
    unfold Rq.Fits FitsN at hf
    rcases h3 with h3 | h3 | h3
    · omega
    · omega
    · have h4 := h3.2
      have h5 : 2 ≤ (repBytes (echo q)).length := by
        unfold repBytes rtail echo
        simp only
        rcases h3.1 with e | e | e | e | e <;> simp [e, wd, wds_length] <;> omega
      rw [h4]
      exact h5
theorem echo_bytes {q : Rq} (hk : q.fn = 5 ∨ q.fn = 6 ∨ q.fn = 22) : repBytes (echo q) = reqBytes q := by
  obtain ⟨a0, a1, a2, a3, a4, a5⟩ := q
  simp only at hk
  rcases hk with rfl | rfl | rfl <;> simp [repBytes, rtail, echo, reqBytes, tail]
theorem ans_w2 {fn addr n addr2 : Nat} {bits : List Bool} {regs bs : List Nat} (hk : fn = 5 ∨ fn = 6 ∨ fn = 22) (h0 : bs.getD 0 0 = fn) (hm : 1 ≤ bs.length) : AnsIs ⟨fn, addr, n, addr2, bits, regs⟩ bs ↔ bs = reqBytes ⟨fn, addr, n, addr2, bits, regs⟩ := by
  rw [← echo_bytes hk]
  exact ans_w (by omega) h0 hm
theorem ans_w3 {fn addr n addr2 : Nat} {bits : List Bool} {regs bs : List Nat} (hk : fn = 15 ∨ fn = 16) (h0 : bs.getD 0 0 = fn) (hm : 1 ≤ bs.length) : AnsIs ⟨fn, addr, n, addr2, bits, regs⟩ bs ↔ bs = (reqBytes ⟨fn, addr, n, addr2, bits, regs⟩).take 5 := by
  have e : (reqBytes ⟨fn, addr, n, addr2, bits, regs⟩).take 5 = repBytes (echo ⟨fn, addr, n, addr2, bits, regs⟩) := by
    rcases hk with rfl | rfl <;> simp [repBytes, rtail, echo, reqBytes, tail, wd]
  rw [e]
  exact ans_w (by omega) h0 hm
theorem sl_take {w : World} {v : Value} {l : List Nat} (h : Sl w v (u8s l)) (hl : 5 ≤ l.length) : ∃ yo yc, v = .slice yo l.length yc ∧ l.length ≤ yc ∧ Sl w (.slice yo 5 yc) (u8s (l.take 5)) := by
  rcases h with ⟨h, _⟩ | ⟨b, off, cap, rfl, hcap, hc⟩
  · have := congrArg List.length h
    rw [u8s_len, List.length_nil] at this
    omega
  rw [u8s_len] at hcap
  refine ⟨_, cap, by rw [u8s_len], hcap, Or.inr ⟨b, off, cap, ?_, ?_, fun k u hk => ?_⟩⟩
  · rw [u8s_len, List.length_take]
    simp
    omega
  · rw [u8s_len, List.length_take]
    omega
  · apply hc k u
    have hk2 : k < 5 := by
      have := (List.getElem?_eq_some_iff.1 hk).1
      rw [u8s_len, List.length_take] at this
      omega
    simp only [u8s, List.map_take, List.getElem?_take, if_pos hk2] at hk
    exact hk
end Go.Proofs.Ytehbbkdiekgpbaa
