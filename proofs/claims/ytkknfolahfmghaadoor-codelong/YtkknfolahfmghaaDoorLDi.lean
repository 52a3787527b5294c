/- The law of deep code, in plain mathematics (stage 20). -/
import Derived.Test.YtkknfolahfmghaaDoorLPi
namespace Go.Proofs.YtkknfolahfmghaaDoor
open Go.RowKit
open Fb Cod
namespace Cod
def drp (m : Nat) : List Ins := List.replicate m ⟨17, 0, 0, 0, nos⟩
theorem drp_len (m : Nat) : (drp m).length = m := by simp [drp]
theorem drp_next (m : Nat) : drp (m + 1) = drp m ++ [⟨17, 0, 0, 0, nos⟩] := List.replicate_succ'
theorem drp_at {m i : Nat} (h : i < m) : (drp m)[i]? = some ⟨17, 0, 0, 0, nos⟩ := by simp [drp, h]
/-- The code of the law. -/
def dpc (n m : Nat) : List Ins := psh 3 n ++ drp m ++ [⟨23, 0, 0, 0, nos⟩]
theorem dpc_eq (n m : Nat) : dpc n m = psh 3 n ++ (drp m ++ [⟨23, 0, 0, 0, nos⟩]) := List.append_assoc ..
theorem dpc_len (n m : Nat) : (dpc n m).length = n + m + 1 := by simp [dpc, psh_len, drp_len]; omega
theorem dpc_whole (n m : Nat) (h : n < 300) (k : m < 300) : whole [] (dpc n m).length = true := by
  unfold whole
  rw [dpc_len, decide_eq_true (show 0 < n + m + 1 by omega), decide_eq_true (show n + m + 1 ≤ 32768 by omega)]
  rfl
theorem dpc_drop (n : Nat) {m j : Nat} (h : j < m) : (dpc n m)[n + j]? = some ⟨17, 0, 0, 0, nos⟩ := by
  rw [dpc_eq, psh_right, List.getElem?_append_left (by rw [drp_len]; exact h)]
  exact drp_at h
theorem dpc_end (n m : Nat) : (dpc n m)[n + m]? = some ⟨23, 0, 0, 0, nos⟩ := by
  rw [dpc_eq, psh_right, List.getElem?_append_right (by rw [drp_len]; exact Nat.le_refl _), drp_len, Nat.sub_self]
  rfl
/-- A number is dropped. -/
theorem drop_nexts {L : List Ins} {i d : Nat} (hx : L[i]? = some ⟨17, 0, 0, 0, nos⟩) (hl : i + 1 < L.length) (h0 : 0 < d) (hd : d ≤ 256) : nexts L (i, d) = [(i + 1, d - 1)] ∧ faultB L (i, d) = false := by
  have e1 : badB ⟨17, 0, 0, 0, nos⟩ d = false := by
    unfold badB
    show (decide (d < 1) || decide (256 < d - 1 + 0)) = false
    rw [decide_eq_false (by omega), decide_eq_false (by omega)]; rfl
  unfold nexts faultB
  rw [hx]
  simp only [e1]
  constructor
  · rw [decide_eq_true hl]
    rfl
  · rw [decide_eq_false (show ¬ i + 1 = L.length by omega)]
    rfl
theorem drop_bad {L : List Ins} {i : Nat} (hx : L[i]? = some ⟨17, 0, 0, 0, nos⟩) : nexts L (i, 0) = [] ∧ faultB L (i, 0) = true := by
  have e1 : badB ⟨17, 0, 0, 0, nos⟩ 0 = true := rfl
  unfold nexts faultB
  rw [hx]
  simp only [e1]
  exact ⟨rfl, rfl⟩
theorem end_nexts {L : List Ins} {i d : Nat} (hx : L[i]? = some ⟨23, 0, 0, 0, nos⟩) (hd : d ≤ 256) : nexts L (i, d) = [] ∧ faultB L (i, d) = false := by
  have e1 : badB ⟨23, 0, 0, 0, nos⟩ d = false := by
    unfold badB
    show (decide (d < 0) || decide (256 < d - 0 + 0)) = false
    rw [decide_eq_false (Nat.not_lt_zero _), decide_eq_false (by omega)]; rfl
  unfold nexts faultB
  rw [hx]
  simp only [e1]
  exact ⟨rfl, rfl⟩
/-- What the law asks. -/
def dpa (n m : Nat) : Option Nat := if 256 < n then some 256 else if n < m then some (2 * n) else none
theorem dpc_ver (n m : Nat) (h : n < 300) (k : m < 300) : Ver [] (dpc n m) (dpa n m) := by
  have hal : alone [] (dpc n m) = none := by
    have hA := alone_app (K := []) (A := psh 3 n) (B := drp m ++ [⟨23, 0, 0, 0, nos⟩]) (by rw [← dpc_eq]; exact dpc_whole n m h k) (psh_rgt 3 n _ [] rfl)
    rw [dpc_eq, hA, Option.map_eq_none_iff]
    refine find_no (fun i x hi hx => ?_)
    rcases Nat.lt_or_ge i m with h1 | h1
    · rw [List.getElem?_append_left (by rw [drp_len]; exact h1), drp_at h1] at hx
      obtain rfl := Option.some.inj hx
      rfl
    · rw [List.getElem?_append_right (by rw [drp_len]; exact h1), drp_len] at hx
      have : i - m = 0 := by
        have := (List.getElem?_eq_some_iff.1 hx).1
        simp at this
        exact this
      rw [this] at hx
      obtain rfl := Option.some.inj hx
      rfl
  refine Or.inr ⟨hal, ?_⟩
  unfold dpa
  by_cases hn : 256 < n
  · rw [if_pos hn]
    refine ⟨256, ?_, by rw [if_pos (by rw [dpc_len]; omega)]⟩
    rw [dpc_eq]
    exact psh_deep 3 _ hn
  · rw [if_neg hn]
    have on1 : ∀ i, i < n → nexts (dpc n m) (i, i) = [(i + 1, i + 1)] ∧ faultB (dpc n m) (i, i) = false := fun i hi => by
      rw [dpc_eq]
      exact psh_nexts 3 _ hi (by simp) (by omega)
    have on2 : ∀ i, n ≤ i → i < n + m → i < 2 * n → nexts (dpc n m) (i, 2 * n - i) = [(i + 1, 2 * n - i - 1)] ∧ faultB (dpc n m) (i, 2 * n - i) = false := fun i h1 h2 h3 => by
      obtain ⟨j, rfl⟩ : ∃ j, i = n + j := ⟨i - n, by omega⟩
      exact drop_nexts (dpc_drop n (by omega)) (by rw [dpc_len]; omega) (by omega) (by omega)
    have on : ∀ i, i < n + m → i < 2 * n → nexts (dpc n m) (i, if i ≤ n then i else 2 * n - i) = [(i + 1, if i + 1 ≤ n then i + 1 else 2 * n - (i + 1))] ∧ faultB (dpc n m) (i, if i ≤ n then i else 2 * n - i) = false := fun i h1 h2 => by
      rcases Nat.lt_or_ge i n with h3 | h3
      · rw [if_pos (show i ≤ n by omega), if_pos (show i + 1 ≤ n by omega)]
        exact on1 i h3
      · rw [if_neg (show ¬ i + 1 ≤ n by omega)]
        have e : (if i ≤ n then i else 2 * n - i) = 2 * n - i := by split <;> omega
        rw [e, show 2 * n - (i + 1) = 2 * n - i - 1 by omega]
        exact on2 i h3 h1 h2
    by_cases hm : n < m
    · rw [if_pos hm]
      have s : Str (dpc n m) (fun i => if i ≤ n then i else 2 * n - i) (2 * n) := by
        refine ⟨by simp, fun i hi => on i (by omega) hi, ?_⟩
        have e : (if 2 * n ≤ n then 2 * n else 2 * n - 2 * n) = 0 := by split <;> omega
        rw [e, show 2 * n = n + n by omega]
        exact (drop_bad (dpc_drop n hm)).1
      refine ⟨2 * n, s.bad (by rw [dpc_len]; omega) ?_, by rw [if_pos (by rw [dpc_len]; omega)]⟩
      have e : (if 2 * n ≤ n then 2 * n else 2 * n - 2 * n) = 0 := by split <;> omega
      rw [e, show 2 * n = n + n by omega]
      exact (drop_bad (dpc_drop n hm)).2
    · rw [if_neg hm]
      have hx := dpc_end n m
      have hd : (if n + m ≤ n then n + m else 2 * n - (n + m)) ≤ 256 := by split <;> omega
      have s : Str (dpc n m) (fun i => if i ≤ n then i else 2 * n - i) (n + m) :=
        ⟨by simp, fun i hi => on i hi (by omega), (end_nexts hx hd).1⟩
      exact ⟨_, s.good (end_nexts hx hd).2, by rw [if_neg (Nat.lt_irrefl _)]⟩
def dpq (n h : Nat) : List Ins := psh 3 n ++ drp h
theorem dpq_len (n h : Nat) : (dpq n h).length = n + h := by simp [dpq, psh_len, drp_len]
theorem dpq_start (n : Nat) : psh 3 n = dpq n 0 := by simp [dpq, drp]
theorem dpq_next (n h : Nat) : dpq n (h + 1) = dpq n h ++ [⟨17, 0, 0, 0, nos⟩] := by rw [dpq, drp_next, dpq, List.append_assoc]
theorem dpa_cases (n m : Nat) : (256 < n ∧ dpa n m = some 256) ∨ (¬ 256 < n ∧ n < m ∧ dpa n m = some (2 * n)) ∨ (¬ 256 < n ∧ ¬ n < m ∧ dpa n m = none) := by
  unfold dpa
  by_cases h1 : 256 < n
  · exact Or.inl ⟨h1, if_pos h1⟩
  refine Or.inr ?_
  rw [if_neg h1]
  by_cases h2 : n < m
  · exact Or.inl ⟨h1, h2, if_pos h2⟩
  · exact Or.inr ⟨h1, h2, if_neg h2⟩
end Cod
theorem Bc.cast {w1 W : World} {cb : Nat} {lv : Value} {L N : List Ins} (h : Bc w1 W cb lv L) (e : L = N) : Bc w1 W cb lv N := e ▸ h
end Go.Proofs.YtkknfolahfmghaaDoor
