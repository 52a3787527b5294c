/- The reference's way of reading a place is the document's: plain mathematics (stage 10). -/
import Derived.Test.YtkalcabhafcdoaaDoorP2
namespace Go.Proofs.YtkalcabhafcdoaaDoor
open Go.RowKit
open Adr
namespace Adr
theorem dot_ne : ∀ (l : List UInt8) (k : Nat) (_ : k < dot l) (h : k < l.length), ¬ (l[k]).toNat = 46
  | [], k, h, _ => by simp [dot] at h
  | b :: l, k, h, hl => by
    unfold dot at h
    by_cases hb : (b == 46) = true
    · rw [if_pos hb] at h; omega
    · rw [if_neg hb] at h
      match k, h, hl with
      | 0, _, _ => exact fun e => hb (beq_iff_eq.2 (UInt8.toNat_inj.1 e))
      | k + 1, h, hl => exact dot_ne l k (by omega) (by simpa using hl)
theorem dot_is : ∀ (l : List UInt8) (h : dot l < l.length), (l[dot l]).toNat = 46
  | [], h => by simp [dot] at h
  | b :: l, h => by
    by_cases hb : (b == 46) = true
    · have e : dot (b :: l) = 0 := by unfold dot; rw [if_pos hb]
      simp only [e]
      rw [List.getElem_cons_zero, beq_iff_eq.1 hb]
      rfl
    · have e : dot (b :: l) = dot l + 1 := by rw [dot, if_neg hb]
      simp only [e]
      rw [List.getElem_cons_succ]
      exact dot_is l (by rw [e, List.length_cons] at h; omega)
theorem nv_small {l : List UInt8} (h : nb l = true) (hv : nv l < 8) : l.length = 1 := by
  unfold nb at h
  simp only [Bool.and_eq_true, Bool.or_eq_true, decide_eq_true_eq] at h
  obtain ⟨⟨⟨h1, h3⟩, h0⟩, hd⟩ := h
  rcases h0 with h0 | h0
  · omega
  · have hn : nb l = true := nb_yes h1 h3 (Or.inr (by simpa using h0)) hd
    rw [nv_yes hn] at hv
    match l, h1, h3, h0, hd, hv with
    | [a], _, _, _, _, _ => rfl
    | [a, b], _, _, h0, hd, hv =>
      exfalso
      simp [vl, dgt] at hd hv
      have : ¬ a = 48 := by simpa using h0
      have : ¬ a.toNat = 48 := fun e => this (UInt8.toNat_inj.1 e)
      omega
    | [a, b, c], _, _, h0, hd, hv =>
      exfalso
      simp [vl, dgt] at hd hv
      have : ¬ a = 48 := by simpa using h0
      have : ¬ a.toNat = 48 := fun e => this (UInt8.toNat_inj.1 e)
      omega
theorem nb_one {c : UInt8} : nb [c] = dgt c := by simp [nb]
theorem nv_one {c : UInt8} (h : dgt c = true) : nv [c] = c.toNat - 48 := by rw [nv_yes (by rw [nb_one]; exact h)]; simp [vl]
theorem aft_one {r : List UInt8} (h : r.length = dot r + 2) : aft r = [r[dot r + 1]'(by omega)] := by
  unfold aft
  apply List.ext_getElem
  · simp; omega
  · intro i h1 h2
    simp only [List.length_cons, List.length_nil] at h2
    obtain rfl : i = 0 := by omega
    simp
/-- Too short, or too long, behind the point. -/
theorem pb_len {r : List UInt8} (h : ¬ r.length = dot r + 2) : pb true r = false := by
  cases e : pb true r with
  | false => rfl
  | true =>
    exfalso
    simp only [pb, if_true, Bool.and_eq_true, decide_eq_true_eq] at e
    have := nv_small e.1.2 (by omega)
    unfold aft at this
    rw [List.length_drop] at this
    omega
theorem pb_odd {r : List UInt8} (h : r.length = dot r + 2) (hc : ¬ (48 ≤ (r[dot r + 1]'(by omega)).toNat ∧ (r[dot r + 1]'(by omega)).toNat ≤ 55)) : pb true r = false := by
  cases e : pb true r with
  | false => rfl
  | true =>
    exfalso
    simp only [pb, if_true, Bool.and_eq_true, decide_eq_true_eq] at e
    rw [aft_one h] at e
    have hd : dgt (r[dot r + 1]'(by omega)) = true := by rw [← nb_one]; exact e.1.2
    have hv := e.2
    rw [nv_one hd] at hv
    simp only [dgt, Bool.and_eq_true, decide_eq_true_eq] at hd
    omega
theorem pb_bef {r : List UInt8} (h : nb (bef r) = false) : pb true r = false := by simp [pb, h]
theorem pb_all {r : List UInt8} (h : r.length = dot r + 2) (h0 : 48 ≤ (r[dot r + 1]'(by omega)).toNat) (h7 : (r[dot r + 1]'(by omega)).toNat ≤ 55) (hb : nb (bef r) = true) : pb true r = true ∧ pv true r = 8 * nv (bef r) + ((r[dot r + 1]'(by omega)).toNat - 48) := by
  have hd : dgt (r[dot r + 1]'(by omega)) = true := dgt_yes h0 (by omega)
  have hv := nv_one hd
  refine ⟨?_, ?_⟩
  · simp only [pb, if_true, hb, Bool.true_and, Bool.and_eq_true, decide_eq_true_eq]
    rw [aft_one h, nb_one]
    refine ⟨hd, ?_⟩
    rw [hv]
    omega
  · simp only [pv, if_true]
    rw [aft_one h, hv]
    omega
end Adr
end Go.Proofs.YtkalcabhafcdoaaDoor
