/- What ImageHides holds: calls on two images; what stays (stage 11). -/
import Derived.Test.YtlokdkpfeckdoaaDoorP1
namespace Go.Proofs.YtlokdkpfeckdoaaDoor
open Go.RowKit
open Adr
theorem Two.put {w W : World} {gm gr : Nat} {s t : IS} (h : Two w W gm gr s t) (hw : 0 < w.heap.size) (a n : Int) (v : Nat) : Calls Tryd.prog 8 #[.pointer (some ⟨gm, 0, none⟩), .int .i64 a, .int .i64 n, .int .u16 (v : Int)] W fun e w' => e = .returned (.int .i64 (ge a n)) ∧ Two w w' gm gr (s.put a n v) t := by
  refine (put_c a n v h.ar h.m).mono ?_
  rintro e w' ⟨rfl, i, k⟩
  exact ⟨rfl, h.stepM hw i k⟩
theorem Two.set {w W : World} {gm gr : Nat} {s t : IS} (h : Two w W gm gr s t) (hw : 0 < w.heap.size) (a n : Int) (v : Nat) : Calls Tryd.prog 10 #[.pointer (some ⟨gm, 0, none⟩), .int .i64 a, .int .i64 n, .int .u16 (v : Int)] W fun e w' => e = .returned (.int .i64 (ge a n)) ∧ Two w w' gm gr (s.set a n v) t := by
  refine (set_c a n v h.ar h.m).mono ?_
  rintro e w' ⟨rfl, i, k⟩
  exact ⟨rfl, h.stepM hw i k⟩
theorem Two.rput {w W : World} {gm gr : Nat} {s t : IS} (h : Two w W gm gr s t) (hw : 0 < w.heap.size) (a n : Int) (v : Nat) : Calls Tryd.prog 9 #[.pointer (some ⟨gr, 0, none⟩), .int .i64 a, .int .i64 n, .int .u16 (v : Int)] W fun e w' => e = .returned (.int .i64 (ge a n)) ∧ Two w w' gm gr s (t.put a n v) := by
  refine (rput_c a n v h.r).mono ?_
  rintro e w' ⟨rfl, i, k⟩
  exact ⟨rfl, h.stepR hw i k⟩
theorem Two.rset {w W : World} {gm gr : Nat} {s t : IS} (h : Two w W gm gr s t) (hw : 0 < w.heap.size) (a n : Int) (v : Nat) : Calls Tryd.prog 11 #[.pointer (some ⟨gr, 0, none⟩), .int .i64 a, .int .i64 n, .int .u16 (v : Int)] W fun e w' => e = .returned (.int .i64 (ge a n)) ∧ Two w w' gm gr s (t.set a n v) := by
  refine (rset_c a n v h.r).mono ?_
  rintro e w' ⟨rfl, i, k⟩
  exact ⟨rfl, h.stepR hw i k⟩
theorem three {w : World} {lb lo i : Nat} {what a n : Int} {v : Nat} (h : StepAt w lb lo i ⟨what, a, n, v⟩) : w.cell? ⟨lb, lo + i * 4 + 1, none⟩ = some (.int .i64 a) ∧ w.cell? ⟨lb, lo + i * 4 + 2, none⟩ = some (.int .i64 n) ∧ w.cell? ⟨lb, lo + i * 4 + 3, none⟩ = some (.int .u16 (v : Int)) := ⟨h 1 _ rfl, h 2 _ rfl, h 3 _ rfl⟩
/-- A slice stays where another block has turned. -/
theorem Sl.turn {w u : World} {v : Value} {vs : List Value} {g : Nat} (h : Sl w v vs) (k : Turn g w u) (hne : ∀ b n c, v = .slice (some b) n c → b.block ≠ g) : Sl u v vs := by
  rcases h with h | ⟨b, off, cap, rfl, hcap, hc⟩
  · exact Or.inl h
  · by_cases h0 : vs = []
    · subst h0
      exact Or.inl ⟨rfl, _, _, rfl, fun h => by cases h⟩
    · have hb : b < w.heap.size := lt_of_cell (a := ⟨b, off + 0, none⟩) (hc 0 _ (List.getElem?_eq_getElem (List.length_pos_iff.2 h0)))
      exact Or.inr ⟨b, off, cap, rfl, hcap, hc.kept (k.block b hb (fun e => hne _ _ _ rfl (by simpa using e)))⟩
theorem vals_same {f g : Nat → Nat} {b n : Nat} (h : ∀ i, i < n → f (b + i) = g (b + i)) : vals f b n = vals g b n := by
  unfold vals
  apply List.map_congr_left
  intro i hi
  exact h i (List.mem_range.1 hi)
theorem pub_out (s : IS) (j : Nat) (h : j < 256 ∨ (512 ≤ j ∧ j < 640)) : s.pub.o j = s.o j := by
  show (if 6 * 128 ≤ j ∧ j < 6 * 128 + 128 then _ else if 5 * 128 ≤ j ∧ j < 5 * 128 + 128 then _ else if 3 * 128 ≤ j ∧ j < 3 * 128 + 128 then _ else if 2 * 128 ≤ j ∧ j < 2 * 128 + 128 then _ else s.o j) = s.o j
  rw [if_neg (by omega), if_neg (by omega), if_neg (by omega), if_neg (by omega)]
/-- Inputs stay through a publication. -/
theorem pub_1 (s : IS) : alls s.pub.o 1 = alls s.o 1 := vals_same fun i hi => by
  have e : (szI 1).toNat = 128 := by decide
  have e2 : (1 : Int).toNat = 1 := by decide
  rw [e] at hi
  rw [e2]
  exact pub_out s _ (by omega)
theorem pub_4 (s : IS) : alls s.pub.o 4 = alls s.o 4 := vals_same fun i hi => by
  have e : (szI 4).toNat = 64 := by decide
  have e2 : (4 : Int).toNat = 4 := by decide
  rw [e] at hi
  rw [e2]
  exact pub_out s _ (by omega)
end Go.Proofs.YtlokdkpfeckdoaaDoor
