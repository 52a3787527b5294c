/- Requests cut, and with more behind, in plain mathematics. · Replies cut, and with more behind, in plain mathematics. · A reply that is written for a request answers it, in plain mathematics. -/
import Derived.Test.YtehbbkdiekgpbaaJ3
import Derived.Test.YtehbbkdiekgpbaaOP
namespace Go.Proofs.Ytehbbkdiekgpbaa
open Pdu
theorem reqN_fix {la lb f v g5 g5' v7 v7' g9 g9' : Nat} (ha : IsReqN la f v g5 v7 g9) (hb : IsReqN lb f v g5' v7' g9') (h7 : 10 ≤ la → 10 ≤ lb → v7 = v7') : la = lb := by
  unfold IsReqN at ha hb
  by_cases h10 : 10 ≤ la ∧ 10 ≤ lb
  · have := h7 h10.1 h10.2
    subst this
    omega
  · omega
theorem isReq_fix {a b : List Nat} (ha : IsReq a) (hb : IsReq b) (h : ∀ i, i < a.length → i < b.length → a.getD i 0 = b.getD i 0) : a.length = b.length := by
  have la := ha.1
  have lb := hb.1
  rw [isReq_iff] at ha hb
  have e0 := h 0 (by omega) (by omega)
  have e3 : wordAt a 3 = wordAt b 3 := by
    unfold wordAt
    rw [h 3 (by omega) (by omega), h 4 (by omega) (by omega)]
  rw [e0, e3] at ha
  refine reqN_fix ha hb fun h1 h2 => ?_
  unfold wordAt
  rw [h 7 (by omega) (by omega), h 8 (by omega) (by omega)]
theorem cut_no {bs : List Nat} {k : Nat} (h : IsReq bs) (hk : k < bs.length) : ¬ IsReq (bs.take k) := by
  intro hc
  have e := isReq_fix hc h (fun i h1 _ => by
    rw [List.length_take] at h1
    simp only [List.getD_eq_getElem?_getD, List.getElem?_take]
    rw [if_pos (by omega)])
  rw [List.length_take] at e
  omega
theorem more_iff {bs more : List Nat} (h : IsReq bs) : IsReq (bs ++ more) ↔ more = [] := by
  constructor
  · intro hc
    have e := isReq_fix h hc (fun i h1 _ => by
      rw [getD_app, if_pos h1])
    rw [List.length_append] at e
    exact List.length_eq_zero_iff.1 (by omega)
  · rintro rfl
    rw [List.append_nil]
    exact h
open Pdu
theorem isAns_fix {q : Rq} {a b : List Nat} (ha : IsAns q a) (hb : IsAns q b) (h0 : a.getD 0 0 = b.getD 0 0) : a.length = b.length := by
  have h128 := fits_128 ha.1
  rcases ha.2 with ha | ha
  · rcases hb.2 with hb | hb
    · exact ha.1.trans hb.1.symm
    · have h1 := ha.2.1
      have h2 := hb.2.1
      omega
  · rcases hb.2 with hb | hb
    · have h1 := hb.2.1
      have h2 := ha.2.1
      omega
    · obtain ⟨_, _, h1 | h1 | h1⟩ := ha
      · obtain ⟨_, _, h2 | h2 | h2⟩ := hb
        · exact h1.2.1.trans h2.2.1.symm
        · omega
        · omega
      · obtain ⟨_, _, h2 | h2 | h2⟩ := hb
        · omega
        · exact h1.2.1.trans h2.2.1.symm
        · omega
      · obtain ⟨_, _, h2 | h2 | h2⟩ := hb
        · omega
        · omega
        · rw [h1.2, h2.2]
theorem ans_pos {q : Rq} {bs : List Nat} (h : IsAns q bs) : 1 ≤ bs.length := by
  rcases h.2 with h | h
  · have := h.1
    omega
  · exact h.1
theorem ans_cut {q : Rq} {c : List Nat} {k : Nat} (h : IsAns q c) (hk : k < c.length) : ¬ IsAns q (c.take k) := by
  intro hc
  have h1 := ans_pos hc
  rw [List.length_take] at h1
  have e := isAns_fix hc h (by
    simp only [List.getD_eq_getElem?_getD, List.getElem?_take]
    rw [if_pos (by omega)])
  rw [List.length_take] at e
  omega
theorem ans_more {q : Rq} {c more : List Nat} (h : IsAns q c) : IsAns q (c ++ more) ↔ more = [] := by
  constructor
  · intro hc
    have h1 := ans_pos h
    have e := isAns_fix h hc (by rw [getD_app, if_pos (by omega)])
    rw [List.length_append] at e
    exact List.length_eq_zero_iff.1 (by omega)
  · rintro rfl
    rw [List.append_nil]
    exact h
open Pdu
theorem m_bits {a0 a1 a2 a3 : Nat} {a4 bits : List Bool} {a5 : List Nat} (hf : Rq.Fits ⟨a0, a1, a2, a3, a4, a5⟩) (hk : a0 = 1 ∨ a0 = 2) (hb : bits.length = a2) : IsAns ⟨a0, a1, a2, a3, a4, a5⟩ (repBytes ⟨a0, 0, 0, 0, bits, []⟩) ∧ readAns ⟨a0, a1, a2, a3, a4, a5⟩ (repBytes ⟨a0, 0, 0, 0, bits, []⟩) = ⟨a0, 0, 0, 0, bits, []⟩ := by
  have hf' := hf
  unfold Rq.Fits FitsN at hf'
  simp only at hf'
  have hp : packed a2 ≤ 250 := by unfold packed; omega
  have hl : (pack bits).length = packed a2 := by rw [pack_length, hb]
  have e : repBytes ⟨a0, 0, 0, 0, bits, []⟩ = a0 :: packed a2 :: pack bits := by
    rcases hk with rfl | rfl <;> simp [repBytes, rtail, hl] <;> omega
  rw [e]
  refine ⟨⟨hf, Or.inr ⟨by simp, rfl, Or.inl ⟨hk, by simp [hl]; omega, rfl⟩⟩⟩, ?_⟩
  unfold readAns ansOf
  simp only
  rw [if_pos (show (a0 :: packed a2 :: pack bits).getD 0 0 = a0 from rfl), if_pos hk]
  simp only [List.drop_succ_cons, List.drop_zero]
  rw [← hb, ub_pack]
theorem m_regs {a0 a1 a2 a3 : Nat} {a4 : List Bool} {a5 regs : List Nat} (hf : Rq.Fits ⟨a0, a1, a2, a3, a4, a5⟩) (hk : a0 = 3 ∨ a0 = 4 ∨ a0 = 23) (hb : regs.length = a2) : IsAns ⟨a0, a1, a2, a3, a4, a5⟩ (repBytes ⟨a0, 0, 0, 0, [], regs⟩) ∧ readAns ⟨a0, a1, a2, a3, a4, a5⟩ (repBytes ⟨a0, 0, 0, 0, [], regs⟩) = ⟨a0, 0, 0, 0, [], regs⟩ := by
  have hf' := hf
  unfold Rq.Fits FitsN at hf'
  simp only at hf'
  have e : repBytes ⟨a0, 0, 0, 0, [], regs⟩ = a0 :: 2 * a2 :: wds regs := by
    rcases hk with rfl | rfl | rfl <;> simp [repBytes, rtail, hb] <;> omega
  rw [e]
  refine ⟨⟨hf, Or.inr ⟨by simp, rfl, Or.inr (Or.inl ⟨hk, by simp [wds_length, hb]; omega, rfl⟩)⟩⟩, ?_⟩
  unfold readAns ansOf
  simp only
  rw [if_pos (show (a0 :: 2 * a2 :: wds regs).getD 0 0 = a0 from rfl), if_neg (by omega), if_pos hk]
  simp only [List.drop_succ_cons, List.drop_zero]
  rw [ws_wds]
theorem m_exc {a0 a1 a2 a3 x : Nat} {a4 : List Bool} {a5 : List Nat} (hf : Rq.Fits ⟨a0, a1, a2, a3, a4, a5⟩) (hx : x ≠ 0) : IsAns ⟨a0, a1, a2, a3, a4, a5⟩ (repBytes ⟨a0, x, 0, 0, [], []⟩) ∧ readAns ⟨a0, a1, a2, a3, a4, a5⟩ (repBytes ⟨a0, x, 0, 0, [], []⟩) = ⟨a0, x, 0, 0, [], []⟩ := by
  have e : repBytes ⟨a0, x, 0, 0, [], []⟩ = [a0 + 128, x] := by unfold repBytes; rw [if_neg hx]
  rw [e]
  refine ⟨⟨hf, Or.inl ⟨rfl, rfl, hx⟩⟩, ?_⟩
  unfold readAns excOf
  simp
theorem m_echo {q : Rq} (hf : q.Fits) (hk : q.fn = 5 ∨ q.fn = 6 ∨ q.fn = 15 ∨ q.fn = 16 ∨ q.fn = 22) : IsAns q (repBytes (echo q)) ∧ readAns q (repBytes (echo q)) = echo q := by
  have e : ∃ t, repBytes (echo q) = q.fn :: t := by
    unfold repBytes
    rw [if_pos (by unfold echo; rfl)]
    exact ⟨_, rfl⟩
  obtain ⟨t, e⟩ := e
  refine ⟨⟨hf, Or.inr ⟨by rw [e]; simp, by rw [e]; rfl, Or.inr (Or.inr ⟨hk, rfl⟩)⟩⟩, ?_⟩
  unfold readAns ansOf
  rw [e]
  rw [if_pos (show (q.fn :: t).getD 0 0 = q.fn from rfl), if_neg (by omega), if_neg (by omega)]
theorem m_other {q p : Rq} {bs : List Nat} (hq : q.Fits) (hne : p.fn ≠ q.fn) (h0 : bs.getD 0 0 = q.fn ∨ bs.getD 0 0 = q.fn + 128) : ¬ IsAns p bs := by
  intro h
  have h1 := fits_128 hq
  have h2 := fits_128 h.1
  rcases h.2 with h | h
  · have := h.2.1
    omega
  · have := h.2.1
    omega
end Go.Proofs.Ytehbbkdiekgpbaa
