/- Numbers with their kind ahead, as tokens (stage 12). -/
import Derived.Test.YtnponognncdkcaaDoorD2
namespace Go.Proofs.YtnponognncdkcaaDoor
open Go.RowKit
open Adr Lx
def nmK (k : Nat) : List UInt8 := (kn k).data.toList
theorem nmK_is (k : Nat) (h2 : 2 ≤ k) (h10 : k ≤ 10) (r : List UInt8) : cz inW (nmK k ++ 35 :: r) = (nmK k).length ∧ (nmK k ++ 35 :: r).take (nmK k).length = nmK k ∧ (nmK k ++ 35 :: r).drop (nmK k).length = 35 :: r ∧ kf (nmK k) = k ∧ (nmK k == [84]) = false ∧ (nmK k ++ 35 :: r).drop ((nmK k).length + 1) = r ∧ (nmK k).length ≤ 5 ∧ ∃ c l, nmK k ++ 35 :: r = c :: l ∧ isL c = true ∧ (∀ il, blk c il = false) ∧ hp (c :: l) [40, 42] = false := by
  have hc : k = 2 ∨ k = 3 ∨ k = 4 ∨ k = 5 ∨ k = 6 ∨ k = 7 ∨ k = 8 ∨ k = 9 ∨ k = 10 := by omega
  rcases hc with rfl | rfl | rfl | rfl | rfl | rfl | rfl | rfl | rfl
  all_goals exact ⟨rfl, rfl, rfl, rfl, rfl, rfl, by decide, _, _, rfl, rfl, fun il => by cases il <;> rfl, rfl⟩
theorem nx_typed {k : Nat} (h2 : 2 ≤ k) (h10 : k ≤ 10) (r : List UInt8) : nx (nmK k ++ 35 :: r) = tyR (nmK k ++ 35 :: r) ((nmK k).length + 1) k := by
  obtain ⟨a1, a2, a3, a4, a5, a6, a7, c, l, e, h1, hb, hc⟩ := nmK_is k h2 h10 r
  have hw : wdR (nmK k ++ 35 :: r) = tyR (nmK k ++ 35 :: r) ((nmK k).length + 1) k := by
    unfold wdR
    rw [a1, a2, a3, a4, a5, show hp (35 :: r) [35] = true by rw [hp_cons, hp_all]; rfl, decide_eq_false (by omega), decide_eq_false (by omega)]
    rfl
  rw [← hw, e, nx_cons, if_pos h1]
theorem stop_nil (b : Nat) : Stop b [] := fun c hc => by cases hc
theorem nil_head : ∀ c ∈ ([] : List UInt8).head?, ¬ c = 35 ∧ dgt c = false := fun c hc => by cases hc
theorem num_dgs {u : Nat} (hu : u ≤ 8589934592) : num (dgs 10 u) = (u, (dgs 10 u).length) := by
  obtain ⟨p1, p2, p3, p4⟩ := dgs_plain u [] nil_head
  have e := dgs_rd (b := 10) (by omega) (by omega) hu (stop_nil 10)
  rw [List.append_nil] at p1 p2 p3 p4 e
  unfold num
  rw [show (bn 0).data.toList = [50, 35] from rfl, show (bn 1).data.toList = [56, 35] from rfl, show (bn 2).data.toList = [49, 54, 35] from rfl, p1, p2, p3]
  exact e
theorem typed_pos {k u : Nat} (h2 : 2 ≤ k) (h10 : k ≤ 10) (hu : u ≤ 8589934592) : nx (nmK k ++ 35 :: dgs 10 u) = ltR 3 k u ((nmK k).length + 1) (dgs 10 u).length := by
  rw [nx_typed h2 h10]
  obtain ⟨a1, a2, a3, a4, a5, a6, a7, _⟩ := nmK_is k h2 h10 (dgs 10 u)
  obtain ⟨p1, p2, p3, p4⟩ := dgs_plain u [] nil_head
  rw [List.append_nil] at p4
  unfold tyR
  rw [a6, decide_eq_false (by omega), p4, num_dgs hu]
  rfl
theorem typed_neg {k u : Nat} (h2 : 2 ≤ k) (h10 : k ≤ 10) (hu : u ≤ 8589934592) (hlo : klo k < 0) : nx (nmK k ++ 35 :: 45 :: dgs 10 u) = ltR 3 k (-(u : Int)) ((nmK k).length + 2) (dgs 10 u).length := by
  rw [nx_typed h2 h10]
  obtain ⟨a1, a2, a3, a4, a5, a6, a7, _⟩ := nmK_is k h2 h10 (45 :: dgs 10 u)
  have e := dgs_rd (b := 10) (by omega) (by omega) hu (stop_nil 10)
  rw [List.append_nil] at e
  unfold tyR
  rw [a6, decide_eq_false (by omega), show hp (45 :: dgs 10 u) [45] = true by rw [hp_cons, hp_all]; rfl, decide_eq_true hlo]
  simp only [Bool.false_and, Bool.false_eq_true, if_false, Bool.and_true, if_true, List.drop_succ_cons, List.drop_zero]
  rw [e]
theorem typed_no {k u : Nat} (h2 : 2 ≤ k) (h10 : k ≤ 10) (hlo : ¬ klo k < 0) : nx (nmK k ++ 35 :: 45 :: dgs 10 u) = er 120 := by
  rw [nx_typed h2 h10]
  obtain ⟨a1, a2, a3, a4, a5, a6, a7, _⟩ := nmK_is k h2 h10 (45 :: dgs 10 u)
  have e : num (45 :: dgs 10 u) = (0, 0) := by
    unfold num
    rw [show (bn 0).data.toList = [50, 35] from rfl, show (bn 1).data.toList = [56, 35] from rfl, show (bn 2).data.toList = [49, 54, 35] from rfl, hp_cons, hp_cons, hp_cons]
    rfl
  unfold tyR
  rw [a6, decide_eq_false (by omega), decide_eq_false hlo, e, Bool.and_false]
  rfl
theorem typed_hex {k n : Nat} (h2 : 2 ≤ k) (h10 : k ≤ 10) (hn : n ≤ 8589934592) : nx (nmK k ++ 35 :: 49 :: 54 :: 35 :: dgs 16 n) = ltR 3 k n ((nmK k).length + 1) (3 + (dgs 16 n).length) := by
  rw [nx_typed h2 h10]
  obtain ⟨a1, a2, a3, a4, a5, a6, a7, _⟩ := nmK_is k h2 h10 (49 :: 54 :: 35 :: dgs 16 n)
  have e := dgs_rd (b := 16) (by omega) (by omega) hn (stop_nil 16)
  rw [List.append_nil] at e
  have hne := (dgs_len (b := 16) (by omega) 8 n (Nat.lt_of_le_of_lt hn (by decide))).2
  have e2 : num (49 :: 54 :: 35 :: dgs 16 n) = (n, 3 + (dgs 16 n).length) := by
    unfold num
    rw [show (bn 0).data.toList = [50, 35] from rfl, show (bn 1).data.toList = [56, 35] from rfl, show (bn 2).data.toList = [49, 54, 35] from rfl, hp_cons, hp_cons, hp_cons, hp_cons, hp_cons, hp_all]
    show byB 2 _ = _
    unfold byB
    show (if (rd 16 (dgs 16 n)).2 = 0 then (0, 0) else ((rd 16 (dgs 16 n)).1, 3 + (rd 16 (dgs 16 n)).2)) = _
    rw [e, if_neg (by show ¬ (dgs 16 n).length = 0; omega)]
  unfold tyR
  rw [a6, decide_eq_false (by omega), hp_cons, e2]
  rfl
theorem ltR_yes {tok k : Nat} {n : Int} {a z : Nat} (hz : 1 ≤ z) (h1 : klo k ≤ n) (h2 : n ≤ khi k) : ltR tok k n a z = ⟨⟨tok, k, n, []⟩, a + z, 0⟩ := by
  unfold ltR
  rw [if_neg (by omega), decide_eq_false (by omega), decide_eq_false (by omega)]
  rfl
theorem ltR_far {tok k : Nat} {n : Int} {a z : Nat} (hz : 1 ≤ z) (h : n < klo k ∨ khi k < n) : ltR tok k n a z = er 163 := by
  unfold ltR
  rw [if_neg (by omega)]
  rcases h with h | h
  · rw [decide_eq_true h]; rfl
  · rw [decide_eq_true h, Bool.or_true]; rfl
end Go.Proofs.YtnponognncdkcaaDoor
