/- The law of long code, in plain mathematics (stage 20). -/
import Derived.Test.YtkknfolahfmghaaDoorLWi
namespace Go.Proofs.YtkknfolahfmghaaDoor
open Go.RowKit
open Fb Cod
namespace Cod
def stp0 : Ins := ⟨21, 0, 0, 0, nos⟩
def nul : Ins := ⟨0, 0, 0, 0, nos⟩
def end0 : Ins := ⟨23, 0, 0, 0, nos⟩
/-- While the code is filled: i are steps, the others are nothing yet. -/
def fil (N i : Nat) : List Ins := List.replicate i stp0 ++ List.replicate (N - i) nul
theorem fil_len {N i : Nat} (h : i ≤ N) : (fil N i).length = N := by simp [fil]; omega
theorem fil_0 (N : Nat) : fil N 0 = List.replicate N nul := by simp [fil]
theorem fil_full (N : Nat) : fil N N = List.replicate N stp0 := by simp [fil]
theorem fil_next {N i : Nat} (h : i < N) : (fil N i).set i stp0 = fil N (i + 1) := by
  unfold fil
  rw [List.set_append_right _ _ (by simp), List.length_replicate, Nat.sub_self, show N - i = (N - (i + 1)) + 1 by omega, List.replicate_succ, List.set_cons_zero, List.replicate_succ', List.append_assoc]
  rfl
/-- The law's code. -/
def loc (N : Nat) : List Ins := (List.replicate N stp0).set (N - 1) end0
theorem loc_len (N : Nat) : (loc N).length = N := by simp [loc]
theorem loc_at {N i : Nat} (h : i + 1 < N) : (loc N)[i]? = some stp0 := by
  unfold loc
  rw [List.getElem?_set_ne (by omega), List.getElem?_replicate, if_pos (by omega)]
theorem loc_end {N : Nat} (h : 0 < N) : (loc N)[N - 1]? = some end0 := by
  unfold loc
  rw [List.getElem?_set_self (by simp; omega)]
def lon (M i : Nat) : List Int := List.replicate i 1 ++ List.replicate (M - i) 0
theorem lon_len {M i : Nat} (h : i ≤ M) : (lon M i).length = M := by simp [lon]; omega
theorem lon_0 (M : Nat) : lon M 0 = List.replicate M 0 := by simp [lon]
theorem lon_full (M : Nat) : lon M M = List.replicate M 1 := by simp [lon]
theorem lon_next {M i : Nat} (h : i < M) : (lon M i).set i 1 = lon M (i + 1) := by
  unfold lon
  rw [List.set_append_right _ _ (by simp), List.length_replicate, Nat.sub_self, show M - i = (M - (i + 1)) + 1 by omega, List.replicate_succ, List.set_cons_zero, List.replicate_succ', List.append_assoc]
  rfl
/-- What the law asks. -/
def loa (N M : Nat) : Option Nat := if N ≤ 32768 ∧ M ≤ 4096 then none else some 0
theorem loc_ver (N M : Nat) (h : 0 < N) : Ver (List.replicate M 1) (loc N) (loa N M) := by
  have hw : whole (List.replicate M 1) (loc N).length = (decide (M ≤ 4096) && decide (N ≤ 32768)) := by
    unfold whole
    have hk : (List.replicate M (1 : Int)).all scal = true := by
      rw [List.all_eq_true]
      intro x hx
      rw [(List.mem_replicate.1 hx).2]; rfl
    rw [loc_len, hk, List.length_replicate, decide_eq_true h, Bool.and_true, Bool.true_and]
  unfold loa
  by_cases hN : N ≤ 32768 ∧ M ≤ 4096
  · rw [if_pos hN]
    have hal : alone (List.replicate M 1) (loc N) = none := by
      unfold alone
      rw [hw, decide_eq_true hN.1, decide_eq_true hN.2, if_pos (show (true && true) = true from rfl)]
      refine find_no (fun i x _ hx => ?_)
      have hi := (List.getElem?_eq_some_iff.1 hx).1
      rw [loc_len] at hi
      by_cases he : i + 1 < N
      · rw [loc_at he] at hx
        obtain rfl := Option.some.inj hx
        rfl
      · obtain rfl : i = N - 1 := by omega
        rw [loc_end h] at hx
        obtain rfl := Option.some.inj hx
        rfl
    have s : Str (loc N) (fun _ => 0) (N - 1) := by
      refine ⟨rfl, fun i hi => ?_, ?_⟩
      · have := ins_goes (d := 0) (loc_at (N := N) (i := i) (by omega)) (t := 0) (p := 0) rfl rfl (Nat.zero_le _) (by decide)
        rw [this.1, this.2, loc_len, decide_eq_true (by omega), decide_eq_false (by omega)]
        exact ⟨rfl, rfl⟩
      · exact (end_nexts (loc_end h) (by decide)).1
    exact Or.inr ⟨hal, _, s.good (end_nexts (loc_end h) (by decide)).2, by rw [if_neg (Nat.lt_irrefl _)]⟩
  · rw [if_neg hN]
    refine Or.inl ⟨0, ?_, rfl⟩
    unfold alone
    rw [hw, if_neg]
    intro hc
    rw [Bool.and_eq_true, decide_eq_true_iff, decide_eq_true_iff] at hc
    exact hN ⟨hc.2, hc.1⟩
theorem loa_cases (n m : Nat) (hn : n < 3) (hm : m < 3) : (n < 2 ∧ m < 2 ∧ loa (32767 + n) (4095 + m) = none) ∨ (n < 2 ∧ ¬ m < 2 ∧ loa (32767 + n) (4095 + m) = some 0) ∨ (¬ n < 2 ∧ loa (32767 + n) (4095 + m) = some 0) := by
  unfold loa
  by_cases h1 : n < 2
  · by_cases h2 : m < 2
    · exact Or.inl ⟨h1, h2, if_pos (by omega)⟩
    · exact Or.inr (Or.inl ⟨h1, h2, if_neg (by omega)⟩)
  · exact Or.inr (Or.inr ⟨h1, if_neg (by omega)⟩)
end Cod
/-- An instruction's operator is set. -/
theorem insv_set : ∀ (L : List Ins) (i : Nat) (x : Ins) (o : Int), L[i]? = some x → (insv L).set (i * 5) (.int .i64 o) = insv (L.set i { x with op := o })
  | [], _, _, _, h => by simp at h
  | a :: L, 0, x, o, h => by
    simp at h
    subst h
    show (a.cs ++ insv L).set (0 * 5) _ = ({ a with op := o } : Ins).cs ++ insv L
    rw [Nat.zero_mul]
    rfl
  | a :: L, i + 1, x, o, h => by
    have := insv_set L i x o (by simpa using h)
    show (a.cs ++ insv L).set ((i + 1) * 5) _ = a.cs ++ insv (L.set i { x with op := o })
    rw [← this, List.set_append_right _ _ (by simp [Ins.cs]; omega), show (i + 1) * 5 - a.cs.length = i * 5 by simp [Ins.cs]; omega]
end Go.Proofs.YtkknfolahfmghaaDoor
