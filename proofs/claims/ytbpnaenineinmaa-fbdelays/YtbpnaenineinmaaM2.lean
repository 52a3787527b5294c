/- What a step's outputs may be; seven more (plain mathematics, stage 17). -/
import Derived.Test.YtbpnaenineinmaaF5
namespace Go.Proofs.Ytbpnaenineinmaa
open Go.RowKit
open Fb
theorem b01_ok (b : Bool) : -2147483648 ≤ b01 b ∧ b01 b ≤ 2147483647 := by cases b <;> decide
theorem el_ok {pt nw k : Int} (h : 0 ≤ pt ∧ pt ≤ 2147483647) : -2147483648 ≤ el pt nw k ∧ el pt nw k ≤ 2147483647 := by
  unfold el since; omega
theorem two_ok {x y : Int} (hx : -2147483648 ≤ x ∧ x ≤ 2147483647) (hy : -2147483648 ≤ y ∧ y ≤ 2147483647) : ∀ z ∈ [x, y], -2147483648 ≤ z ∧ z ≤ 2147483647 := by
  intro z hz
  simp only [List.mem_cons, List.not_mem_nil, or_false] at hz
  rcases hz with rfl | rfl
  · exact hx
  · exact hy
theorem pt_ok (x : Int) : 0 ≤ max (w32 x) 0 ∧ max (w32 x) 0 ≤ 2147483647 := by have := w32_ok x; omega
theorem one_ok {x : Int} (hx : -2147483648 ≤ x ∧ x ≤ 2147483647) : ∀ z ∈ [x], -2147483648 ≤ z ∧ z ≤ 2147483647 := by
  intro z hz
  simp only [List.mem_cons, List.not_mem_nil, or_false] at hz
  rw [hz]; exact hx
theorem ton_ok {a : Bool} {pt k0 k1 k2 nw : Int} (h : 0 ≤ pt ∧ pt ≤ 2147483647) : ∀ z ∈ (ton a pt k0 k1 k2 nw).o, -2147483648 ≤ z ∧ z ≤ 2147483647 := by
  unfold ton
  dsimp only
  repeat' split
  all_goals (first | exact two_ok (by omega) (by omega) | exact two_ok (b01_ok _) (el_ok h))
theorem tof_ok {a : Bool} {pt et k0 k1 k2 nw : Int} (h : 0 ≤ pt ∧ pt ≤ 2147483647) (he : -2147483648 ≤ et ∧ et ≤ 2147483647) : ∀ z ∈ (tof a pt et k0 k1 k2 nw).o, -2147483648 ≤ z ∧ z ≤ 2147483647 := by
  unfold tof
  dsimp only
  repeat' split
  all_goals (first | exact two_ok (by omega) (by omega) | exact two_ok (by omega) he | exact two_ok (b01_ok _) (el_ok h))
theorem tp_ok {a : Bool} {pt et k0 k1 k2 nw : Int} (h : 0 ≤ pt ∧ pt ≤ 2147483647) (he : -2147483648 ≤ et ∧ et ≤ 2147483647) : ∀ z ∈ (tp a pt et k0 k1 k2 nw).o, -2147483648 ≤ z ∧ z ≤ 2147483647 := by
  unfold tp
  dsimp only
  repeat' split
  all_goals (first | exact two_ok (b01_ok _) (by omega) | exact two_ok (b01_ok _) (el_ok h) | exact two_ok (b01_ok _) he)
theorem ctu_ok {a b : Bool} {pv cv k0 k1 k2 : Int} (hc : -32768 ≤ cv ∧ cv ≤ 32767) : ∀ z ∈ (ctu a b pv cv k0 k1 k2).o, -2147483648 ≤ z ∧ z ≤ 2147483647 := by
  unfold ctu
  dsimp only
  refine two_ok (b01_ok _) ?_
  split
  · omega
  · split <;> omega
theorem ctd_ok {a b : Bool} {pv cv k0 k1 k2 : Int} (hp : -32768 ≤ pv ∧ pv ≤ 32767) (hc : -32768 ≤ cv ∧ cv ≤ 32767) : ∀ z ∈ (ctd a b pv cv k0 k1 k2).o, -2147483648 ≤ z ∧ z ≤ 2147483647 := by
  unfold ctd
  dsimp only
  refine two_ok (b01_ok _) ?_
  split
  · omega
  · split <;> omega
theorem ctud_ok {a b r l : Bool} {pv cv k0 k1 k2 : Int} (hp : -32768 ≤ pv ∧ pv ≤ 32767) (hc : -32768 ≤ cv ∧ cv ≤ 32767) : ∀ z ∈ (ctud a b r l pv cv k0 k1 k2).o, -2147483648 ≤ z ∧ z ≤ 2147483647 := by
  unfold ctud
  dsimp only
  intro z hz
  rw [List.mem_cons] at hz
  rcases hz with rfl | hz
  · exact b01_ok _
  · revert z
    refine two_ok (b01_ok _) ?_
    split
    · omega
    · split
      · omega
      · split
        · omega
        · split <;> omega
theorem stp_ok (k : Nat) (l q : List Int) (p0 p1 p2 t : Int) : ∀ z ∈ (stp k l q p0 p1 p2 t).o, -2147483648 ≤ z ∧ z ≤ 2147483647 := by
  match k with
  | 0 => exact ton_ok (pt_ok _)
  | 1 => exact tof_ok (pt_ok _) (w32_ok _)
  | 2 => exact tp_ok (pt_ok _) (w32_ok _)
  | 3 => exact ctu_ok (w16_ok _)
  | 4 => exact ctd_ok (w16_ok _) (w16_ok _)
  | 5 => exact ctud_ok (w16_ok _) (w16_ok _)
  | 6 => exact one_ok (b01_ok _)
  | 7 => exact one_ok (b01_ok _)
  | 8 => exact one_ok (b01_ok _)
  | 9 => exact one_ok (b01_ok _)
  | k + 10 => intro z hz; cases hz
/-- Seven more, of the first j. -/
def p7 (l : List Int) (j : Nat) : List Int := (List.range l.length).map fun i => if i < j then l.getD i 0 + 7 else l.getD i 0
theorem p7_len (l : List Int) (j : Nat) : (p7 l j).length = l.length := by simp [p7]
theorem p7_at (l : List Int) (j i : Nat) (h : i < l.length) : (p7 l j)[i]? = some (if i < j then l.getD i 0 + 7 else l.getD i 0) := by simp [p7, h]
theorem p7_zero (l : List Int) : p7 l 0 = l := by
  apply List.ext_getElem?
  intro i
  by_cases h : i < l.length
  · rw [p7_at l 0 i h, if_neg (by omega), List.getD_eq_getElem?_getD, List.getElem?_eq_getElem h]; rfl
  · rw [List.getElem?_eq_none (by rw [p7_len]; omega), List.getElem?_eq_none (by omega)]
theorem p7_next (l : List Int) (j : Nat) (h : j < l.length) : (p7 l j).set j (l.getD j 0 + 7) = p7 l (j + 1) := by
  apply List.ext_getElem?
  intro i
  rw [List.getElem?_set, p7_len]
  by_cases e : j = i
  · subst e
    rw [if_pos rfl, if_pos h, p7_at l _ j h, if_pos (by omega)]
  · rw [if_neg e]
    by_cases hi : i < l.length
    · rw [p7_at l _ i hi, p7_at l _ i hi]
      by_cases hj : i < j
      · rw [if_pos hj, if_pos (by omega)]
      · rw [if_neg hj, if_neg (by omega)]
    · rw [List.getElem?_eq_none (by rw [p7_len]; omega), List.getElem?_eq_none (by rw [p7_len]; omega)]
theorem i64s_get {l : List Int} {i : Nat} {x : Int} (h : l[i]? = some x) : (i64s l)[i]? = some (.int .i64 x) := by simp [i64s, h]
theorem getD_mem {l : List Int} {j : Nat} (h : j < l.length) : l.getD j 0 ∈ l := by
  rw [List.getD_eq_getElem?_getD, List.getElem?_eq_getElem h]
  exact List.getElem_mem h
theorem pO_le3 (k : Nat) : (pO k).length ≤ 3 := by
  match k with
  | 0 => exact (by decide)
  | 1 => exact (by decide)
  | 2 => exact (by decide)
  | 3 => exact (by decide)
  | 4 => exact (by decide)
  | 5 => exact (by decide)
  | 6 => exact (by decide)
  | 7 => exact (by decide)
  | 8 => exact (by decide)
  | 9 => exact (by decide)
  | k + 10 => exact Nat.zero_le _
theorem stp_len (k : Nat) (l q : List Int) (p0 p1 p2 t : Int) : (stp k l q p0 p1 p2 t).o.length = (pO k).length := by
  match k with
  | 0 =>
    simp only [stp, ton]
    repeat' split
    all_goals rfl
  | 1 =>
    simp only [stp, tof]
    repeat' split
    all_goals rfl
  | 2 =>
    simp only [stp, tp]
    repeat' split
    all_goals rfl
  | 3 => rfl
  | 4 => rfl
  | 5 => rfl
  | 6 => rfl
  | 7 => rfl
  | 8 => rfl
  | 9 => rfl
  | k + 10 => rfl
end Go.Proofs.Ytbpnaenineinmaa
