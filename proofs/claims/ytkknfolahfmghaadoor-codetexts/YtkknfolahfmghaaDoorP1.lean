/- Rows of numbers that are filled (stage 20, after stage 17). -/
import Derived.Test.YtkknfolahfmghaaDoorB1
namespace Go.Proofs.YtkknfolahfmghaaDoor
open Go.RowKit
/-- The first k of these, zeros behind. -/
def part (l : List Int) (k : Nat) : List Int := l.take k ++ List.replicate (l.length - k) 0
theorem part_len (l : List Int) (k : Nat) : (part l k).length = l.length := by simp [part]; omega
theorem part_at (l : List Int) (k j : Nat) : (part l k)[j]? = if j < l.length then (if j < k then l[j]? else some 0) else none := by
  simp only [part, List.getElem?_append, List.length_take, List.getElem?_take, List.getElem?_replicate]
  by_cases hl : j < l.length
  · rw [if_pos hl]
    by_cases hj : j < k
    · rw [if_pos (by rw [Nat.lt_min]; exact ⟨hj, hl⟩), if_pos hj, if_pos hj]
    · rw [if_neg (by rw [Nat.lt_min]; omega), if_neg hj, if_pos (by rw [Nat.min_eq_left (by omega)]; omega)]
  · rw [if_neg hl, if_neg (by rw [Nat.lt_min]; omega), if_neg]
    by_cases hk : k ≤ l.length
    · rw [Nat.min_eq_left hk]; omega
    · rw [Nat.min_eq_right (by omega)]; omega
theorem part_next (l : List Int) (k : Nat) (h : k < l.length) : (part l k).set k (l.getD k 0) = part l (k + 1) := by
  apply List.ext_getElem?
  intro j
  rw [List.getElem?_set, part_len, part_at, part_at]
  by_cases e : k = j
  · subst e
    rw [if_pos rfl, if_pos h, if_pos h, if_pos (by omega), List.getD_eq_getElem?_getD, List.getElem?_eq_getElem h]
    rfl
  · rw [if_neg e]
    by_cases hl : j < l.length
    · rw [if_pos hl, if_pos hl]
      by_cases hj : j < k
      · rw [if_pos hj, if_pos (by omega)]
      · rw [if_neg hj, if_neg (by omega)]
    · rw [if_neg hl, if_neg hl]
theorem part_all (l : List Int) (k : Nat) (h : l.length ≤ k) : part l k = l := by simp [part, List.take_of_length_le h, Nat.sub_eq_zero_of_le h]
theorem part_zero (l : List Int) : part l 0 = List.replicate l.length 0 := by simp [part]
theorem i64s_set (l : List Int) (i : Nat) (x : Int) : i64s (l.set i x) = (i64s l).set i (.int .i64 x) := by simp [i64s, List.map_set]
theorem i64s_rep (n : Nat) : i64s (List.replicate n 0) = List.replicate n (.int .i64 0) := by simp [i64s]
end Go.Proofs.YtkknfolahfmghaaDoor
