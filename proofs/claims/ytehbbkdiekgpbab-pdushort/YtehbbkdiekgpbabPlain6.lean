/- Replies cut, and with more behind, in plain mathematics. -/
import Derived.Test.YtehbbkdiekgpbabOP
import Derived.Test.YtehbbkdiekgpbabPlain5
namespace Go.Proofs.Ytehbbkdiekgpbab
open Pdu
theorem isAns_fix {q : Rq} {a b : List Nat} (ha : IsAns q a) (hb : IsAns q b) (h0 : a.getD 0 0 = b.getD 0 0) : a.length = b.length := by
  have h128 := fits_128 ha.1
  rcases ha.2 with ha | ha
  · rcases hb.2 with hb | hb
    · exact ha.1.trans hb.1.symm
    · have h1 := ha.2.1
      have h2 := hb.2.1
      omega
  · rcases hb.2 with hb | hb
    · have h1 := hb.2.1
      have h2 := ha.2.1
      omega
    · obtain ⟨_, _, h1 | h1 | h1⟩ := ha
      · obtain ⟨_, _, h2 | h2 | h2⟩ := hb
        · exact h1.2.1.trans h2.2.1.symm
        · omega
        · omega
      · obtain ⟨_, _, h2 | h2 | h2⟩ := hb
        · omega
        · exact h1.2.1.trans h2.2.1.symm
        · omega
      · obtain ⟨_, _, h2 | h2 | h2⟩ := hb
        · omega
        · omega
        · rw [h1.2, h2.2]
theorem ans_pos {q : Rq} {bs : List Nat} (h : IsAns q bs) : 1 ≤ bs.length := by
  rcases h.2 with h | h
  · have := h.1
    omega
  · exact h.1
theorem ans_cut {q : Rq} {c : List Nat} {k : Nat} (h : IsAns q c) (hk : k < c.length) : ¬ IsAns q (c.take k) := by
  intro hc
  have h1 := ans_pos hc
  rw [List.length_take] at h1
  have e := isAns_fix hc h (by
    simp only [List.getD_eq_getElem?_getD, List.getElem?_take]
    rw [if_pos (by omega)])
  rw [List.length_take] at e
  omega
theorem ans_more {q : Rq} {c more : List Nat} (h : IsAns q c) : IsAns q (c ++ more) ↔ more = [] := by
  constructor
  · intro hc
    have h1 := ans_pos h
    have e := isAns_fix h hc (by rw [getD_app, if_pos (by omega)])
    rw [List.length_append] at e
    exact List.length_eq_zero_iff.1 (by omega)
  · rintro rfl
    rw [List.append_nil]
    exact h
end Go.Proofs.Ytehbbkdiekgpbab
