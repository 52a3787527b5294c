/- The law of copies that are picked (stage 20). -/
import Derived.Test.YtkknfolahfmghaaDoorLB
import Derived.Test.YtkknfolahfmghaaDoorPL
namespace Go.Proofs.YtkknfolahfmghaaDoor
open Go.RowKit
open Fb Cod
namespace Cod
/-- n pushes of this kind. -/
def psh (a : Int) (n : Nat) : List Ins := (List.range n).map fun (i : Nat) => (⟨1, a, 0, (i : Int), nos⟩ : Ins)
theorem psh_len (a : Int) (n : Nat) : (psh a n).length = n := by simp [psh]
theorem psh_at (a : Int) {n i : Nat} (h : i < n) : (psh a n)[i]? = some ⟨1, a, 0, (i : Int), nos⟩ := by simp [psh, h]
theorem psh_next (a : Int) (n : Nat) : psh a (n + 1) = psh a n ++ [⟨1, a, 0, (n : Int), nos⟩] := by simp [psh, List.range_succ]
theorem push_t (a c : Int) : (Ins.mk 1 a 0 c nos).t = 0 := rfl
theorem push_p (a c : Int) : (Ins.mk 1 a 0 c nos).p = 1 := rfl
/-- What stands at a place ahead of the rest. -/
theorem psh_left (a : Int) {n i : Nat} (T : List Ins) (h : i < n) : (psh a n ++ T)[i]? = some ⟨1, a, 0, (i : Int), nos⟩ := by
  rw [List.getElem?_append_left (by rw [psh_len]; exact h)]; exact psh_at a h
theorem psh_right (a : Int) {n : Nat} (T : List Ins) (j : Nat) : (psh a n ++ T)[n + j]? = T[j]? := by
  rw [List.getElem?_append_right (by rw [psh_len]; omega), psh_len, Nat.add_sub_cancel_left]
theorem psh_nexts (a : Int) {n i : Nat} (T : List Ins) (h : i < n) (hl : 0 < T.length) (hd : i < 256) : nexts (psh a n ++ T) (i, i) = [(i + 1, i + 1)] ∧ faultB (psh a n ++ T) (i, i) = false := by
  have e1 : badB ⟨1, a, 0, (i : Int), nos⟩ i = false := by
    unfold badB
    rw [push_t, decide_eq_false (Nat.not_lt_zero i)]
    show (false || decide (256 < i - 0 + 1)) = false
    rw [decide_eq_false (by omega)]; rfl
  have hlen : i + 1 < (psh a n ++ T).length := by rw [List.length_append, psh_len]; omega
  unfold nexts faultB
  rw [psh_left a T h]
  simp only [e1]
  constructor
  · rw [decide_eq_true hlen]
    rfl
  · rw [decide_eq_false (show ¬ i + 1 = (psh a n ++ T).length by omega)]
    rfl
/-- Too many are pushed. -/
theorem psh_deep (a : Int) {n : Nat} (T : List Ins) (h : 256 < n) : Fin (psh a n ++ T) 256 := by
  have e1 : badB ⟨1, a, 0, ((256 : Nat) : Int), nos⟩ 256 = true := by
    unfold badB
    exact (by decide : (decide (256 < 0) || decide (256 < 256 - 0 + 1)) = true)
  have s : Str (psh a n ++ T) (fun i => i) 256 := by
    refine ⟨rfl, fun i hi => ?_, ?_⟩
    · have e2 : badB ⟨1, a, 0, (i : Int), nos⟩ i = false := by
        unfold badB
        rw [push_t, decide_eq_false (Nat.not_lt_zero i)]
        show (false || decide (256 < i - 0 + 1)) = false
        rw [decide_eq_false (by omega)]; rfl
      have hlen : i + 1 < (psh a n ++ T).length := by rw [List.length_append, psh_len]; omega
      unfold nexts faultB
      rw [psh_left a T (show i < n by omega)]
      simp only [e2]
      constructor
      · rw [decide_eq_true hlen]
        rfl
      · rw [decide_eq_false (show ¬ i + 1 = (psh a n ++ T).length by omega)]
        rfl
    · unfold nexts
      rw [psh_left a T h]
      simp only [e1]
      rfl
  refine s.bad (by rw [List.length_append, psh_len]; omega) ?_
  unfold faultB
  rw [psh_left a T h]
  simp only [e1]
  rfl
theorem alone_app {K : List Int} {A B : List Ins} (hw : whole K (A ++ B).length = true) (hA : ∀ (i : Nat) (x : Ins), A[i]? = some x → rgt K (A ++ B).length x = true) : alone K (A ++ B) = (B.findIdx? (fun x => !rgt K (A ++ B).length x)).map (· + A.length) := by
  unfold alone
  rw [hw, if_pos rfl, List.findIdx?_append]
  have : A.findIdx? (fun x => !rgt K (A ++ B).length x) = none := find_no (fun i x _ hx => by rw [hA i x hx]; rfl)
  rw [this]
  simp
theorem psh_rgt (a : Int) (n m : Nat) (K : List Int) (ha : scal a = true) : ∀ (i : Nat) (x : Ins), (psh a n)[i]? = some x → rgt K m x = true := by
  intro i x hx
  have hi := (List.getElem?_eq_some_iff.1 hx).1
  rw [psh_len] at hi
  rw [psh_at a hi] at hx
  obtain rfl := (Option.some.inj hx).symm
  exact ha
/-- The code of the law. -/
def pkc (n : Nat) (k : Int) : List Ins := psh 8 n ++ [⟨24, k, 0, 0, nos⟩, ⟨23, 0, 0, 0, nos⟩]
theorem pkc_len (n : Nat) (k : Int) : (pkc n k).length = n + 2 := by simp [pkc, psh_len]
theorem pkc_whole (n : Nat) (k : Int) (h : n < 300) : whole [] (pkc n k).length = true := by
  unfold whole
  rw [pkc_len, decide_eq_true (show 0 < n + 2 by omega), decide_eq_true (show n + 2 ≤ 32768 by omega)]
  rfl
/-- What the law asks. -/
def pka (n : Nat) (k : Int) : Option Nat := if k < 0 ∨ 256 ≤ k then some n else if 256 < n then some 256 else if k < n ∧ n < 256 then none else some n
theorem pkc_ver (n : Nat) (k : Int) (h : n < 300) : Ver [] (pkc n k) (pka n k) := by
  have hA := alone_app (K := []) (A := psh 8 n) (B := [⟨24, k, 0, 0, nos⟩, ⟨23, 0, 0, 0, nos⟩]) (pkc_whole n k h) (psh_rgt 8 n _ [] rfl)
  have e24 : rgt [] (pkc n k).length ⟨24, k, 0, 0, nos⟩ = (decide (0 ≤ k) && decide (k < 256)) := rfl
  have e23 : rgt [] (pkc n k).length ⟨23, 0, 0, 0, nos⟩ = true := rfl
  change alone [] (pkc n k) = _ at hA
  unfold pka
  by_cases hk : k < 0 ∨ 256 ≤ k
  · rw [if_pos hk]
    refine Or.inl ⟨n, ?_, rfl⟩
    rw [hA]
    have : (!rgt [] (pkc n k).length ⟨24, k, 0, 0, nos⟩) = true := by
      rw [e24]
      rcases hk with hk | hk
      · rw [decide_eq_false (show ¬ 0 ≤ k by omega)]; rfl
      · rw [decide_eq_false (show ¬ k < 256 by omega)]; simp
    rw [List.findIdx?_cons]
    change Option.map _ (if (!rgt [] (pkc n k).length ⟨24, k, 0, 0, nos⟩) = true then some 0 else _) = _
    rw [if_pos this]
    simp [psh_len]
  · rw [if_neg hk]
    have hal : alone [] (pkc n k) = none := by
      rw [hA, Option.map_eq_none_iff]
      refine find_no (fun i x hi hx => ?_)
      match i, hx with
      | 0, hx =>
        simp at hx
        subst hx
        change (!rgt [] (pkc n k).length ⟨24, k, 0, 0, nos⟩) = false
        rw [e24, decide_eq_true (show 0 ≤ k by omega), decide_eq_true (show k < 256 by omega)]
        rfl
      | 1, hx =>
        simp at hx
        subst hx
        exact rfl
      | i + 2, hx => simp at hx
    refine Or.inr ⟨hal, ?_⟩
    by_cases hn : 256 < n
    · rw [if_pos hn]
      exact ⟨256, psh_deep 8 _ hn, by rw [if_pos (by rw [pkc_len]; omega)]⟩
    · rw [if_neg hn]
      obtain ⟨q, rfl⟩ : ∃ q : Nat, k = (q : Int) := ⟨k.toNat, by omega⟩
      have hat : (pkc n q)[n]? = some ⟨24, q, 0, 0, nos⟩ := psh_right 8 (n := n) _ 0
      have ht : (Ins.mk 24 q 0 0 nos).t = 1 + q := by simp [Ins.t, more, tk]
      have hp : (Ins.mk 24 q 0 0 nos).p = 2 + q := by simp [Ins.p, more, pt]
      have hbad : badB ⟨24, q, 0, 0, nos⟩ n = !(decide (q < n) && decide (n < 256)) := by
        unfold badB Ins.dl
        rw [ht, hp]
        by_cases h1 : q < n
        · rw [decide_eq_true h1, decide_eq_false (show ¬ n < 1 + q by omega)]
          by_cases h2 : n < 256
          · rw [decide_eq_true h2, decide_eq_false (show ¬ 256 < n - (1 + q) + (2 + q) by omega)]; rfl
          · rw [decide_eq_false h2, decide_eq_true (show 256 < n - (1 + q) + (2 + q) by omega)]; rfl
        · rw [decide_eq_false h1, decide_eq_true (show n < 1 + q by omega)]; rfl
      by_cases hok : (q : Int) < n ∧ n < 256
      · rw [if_pos hok]
        have hb : badB ⟨24, q, 0, 0, nos⟩ n = false := by rw [hbad, decide_eq_true (show q < n by omega), decide_eq_true hok.2]; rfl
        have hat2 : (pkc n q)[n + 1]? = some ⟨23, 0, 0, 0, nos⟩ := psh_right 8 (n := n) _ 1
        have s : Str (pkc n q) (fun i => if i ≤ n then i else n + 1) (n + 1) := by
          refine ⟨by simp, fun i hi => ?_, ?_⟩
          · rcases Nat.lt_or_ge i n with h1 | h1
            · have := psh_nexts 8 [⟨24, q, 0, 0, nos⟩, ⟨23, 0, 0, 0, nos⟩] h1 (by simp) (by omega)
              rw [if_pos (by omega), if_pos (by omega)]
              exact this
            · obtain rfl : i = n := by omega
              rw [if_pos (Nat.le_refl _), if_neg (by omega)]
              unfold nexts faultB
              rw [hat]
              simp only [hb]
              have hdl : (Ins.mk 24 q 0 0 nos).dl i = i + 1 := by unfold Ins.dl; rw [ht, hp]; omega
              rw [hdl, pkc_len, decide_eq_true (show i + 1 < i + 2 by omega), decide_eq_false (show ¬ i + 1 = i + 2 by omega)]
              exact ⟨rfl, rfl⟩
          · rw [if_neg (by omega)]
            unfold nexts
            rw [hat2]
            have : badB ⟨23, 0, 0, 0, nos⟩ (n + 1) = false := by
              unfold badB
              show (decide (n + 1 < 0) || decide (256 < n + 1 - 0 + 0)) = false
              rw [decide_eq_false (Nat.not_lt_zero _), decide_eq_false (by omega)]; rfl
            simp only [this]
            rfl
        refine ⟨_, s.good ?_, by rw [if_neg (Nat.lt_irrefl _)]⟩
        rw [if_neg (by omega)]
        unfold faultB
        rw [hat2]
        have : badB ⟨23, 0, 0, 0, nos⟩ (n + 1) = false := by
          unfold badB
          show (decide (n + 1 < 0) || decide (256 < n + 1 - 0 + 0)) = false
          rw [decide_eq_false (Nat.not_lt_zero _), decide_eq_false (by omega)]; rfl
        simp only [this]
        rfl
      · rw [if_neg hok]
        have hb : badB ⟨24, q, 0, 0, nos⟩ n = true := by
          rw [hbad]
          by_cases h1 : q < n
          · rw [decide_eq_false (show ¬ n < 256 by omega)]; simp
          · rw [decide_eq_false h1]; rfl
        have s : Str (pkc n q) (fun i => i) n := by
          refine ⟨rfl, fun i hi => psh_nexts 8 _ hi (by simp) (by omega), ?_⟩
          unfold nexts
          rw [hat]
          simp only [hb]
          rfl
        refine ⟨n, s.bad (by rw [pkc_len]; omega) ?_, by rw [if_pos (by rw [pkc_len]; omega)]⟩
        unfold faultB
        rw [hat]
        simp only [hb]
        rfl
end Cod
end Go.Proofs.YtkknfolahfmghaaDoor
