/- Requests cut, and with more behind, in plain mathematics. -/
import Derived.Test.YtehbbkdiekgpbabJ3
namespace Go.Proofs.Ytehbbkdiekgpbab
open Pdu
theorem reqN_fix {la lb f v g5 g5' v7 v7' g9 g9' : Nat} (ha : IsReqN la f v g5 v7 g9) (hb : IsReqN lb f v g5' v7' g9') (h7 : 10 ≤ la → 10 ≤ lb → v7 = v7') : la = lb := by
  unfold IsReqN at ha hb
  by_cases h10 : 10 ≤ la ∧ 10 ≤ lb
  · have := h7 h10.1 h10.2
    subst this
    omega
  · omega
theorem isReq_fix {a b : List Nat} (ha : IsReq a) (hb : IsReq b) (h : ∀ i, i < a.length → i < b.length → a.getD i 0 = b.getD i 0) : a.length = b.length := by
  have la := ha.1
  have lb := hb.1
  rw [isReq_iff] at ha hb
  have e0 := h 0 (by omega) (by omega)
  have e3 : wordAt a 3 = wordAt b 3 := by
    unfold wordAt
    rw [h 3 (by omega) (by omega), h 4 (by omega) (by omega)]
  rw [e0, e3] at ha
  refine reqN_fix ha hb fun h1 h2 => ?_
  unfold wordAt
  rw [h 7 (by omega) (by omega), h 8 (by omega) (by omega)]
theorem cut_no {bs : List Nat} {k : Nat} (h : IsReq bs) (hk : k < bs.length) : ¬ IsReq (bs.take k) := by
  intro hc
  have e := isReq_fix hc h (fun i h1 _ => by
    rw [List.length_take] at h1
    simp only [List.getD_eq_getElem?_getD, List.getElem?_take]
    rw [if_pos (by omega)])
  rw [List.length_take] at e
  omega
theorem more_iff {bs more : List Nat} (h : IsReq bs) : IsReq (bs ++ more) ↔ more = [] := by
  constructor
  · intro hc
    have e := isReq_fix h hc (fun i h1 _ => by
      rw [getD_app, if_pos h1])
    rw [List.length_append] at e
    exact List.length_eq_zero_iff.1 (by omega)
  · rintro rfl
    rw [List.append_nil]
    exact h
end Go.Proofs.Ytehbbkdiekgpbab
