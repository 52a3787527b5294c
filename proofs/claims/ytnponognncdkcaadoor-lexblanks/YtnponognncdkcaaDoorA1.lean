/- The table of areas, in plain mathematics and in memory; Size, has (stage 12). -/
import Derived.Test.YtnponognncdkcaaDoorS1
namespace Go.Proofs.YtnponognncdkcaaDoor
open Go.RowKit
open Adr
namespace Adr
/-- What an area's texts begin with. -/
def hed : Nat → ByteArray
  | 1 => ⟨#[37, 73, 88]⟩
  | 2 => ⟨#[37, 81, 88]⟩
  | 3 => ⟨#[37, 77, 88]⟩
  | 4 => ⟨#[37, 73, 87]⟩
  | 5 => ⟨#[37, 81, 87]⟩
  | 6 => ⟨#[37, 77, 87]⟩
  | _ => ⟨#[]⟩
def bt : Nat → Bool
  | 1 | 2 | 3 => true
  | _ => false
/-- How many places it has. -/
def sz : Nat → Int
  | 1 | 2 | 3 => 128
  | 4 | 5 | 6 => 64
  | _ => 0
def tb : Nat → Int
  | 1 => 2
  | 2 => 1
  | 3 => 1
  | 4 => 4
  | 5 => 3
  | 6 => 3
  | _ => 0
def frs : Nat → Int
  | 3 => 128
  | 6 => 64
  | _ => 0
/-- The same of any number. -/
def szI (a : Int) : Int := if 1 ≤ a ∧ a ≤ 6 then sz a.toNat else 0
def btI (a : Int) : Bool := decide (1 ≤ a) && decide (a ≤ 3)
def hasI (a n : Int) : Bool := decide (0 ≤ n) && decide (n < szI a)
def coilI (a n : Int) : Int := if hasI a n then frs a.toNat + n else -1
theorem szI_nat (k : Nat) (h : k < 7) : szI k = sz k := by
  have hc : k = 0 ∨ k = 1 ∨ k = 2 ∨ k = 3 ∨ k = 4 ∨ k = 5 ∨ k = 6 := by omega
  rcases hc with rfl | rfl | rfl | rfl | rfl | rfl | rfl <;> decide
theorem szI_out {a : Int} (h : a < 0 ∨ 7 ≤ a) : szI a = 0 := by unfold szI; rw [if_neg (by omega)]
theorem btI_nat (k : Nat) (h : k < 7) : btI k = bt k := by
  have hc : k = 0 ∨ k = 1 ∨ k = 2 ∨ k = 3 ∨ k = 4 ∨ k = 5 ∨ k = 6 := by omega
  rcases hc with rfl | rfl | rfl | rfl | rfl | rfl | rfl <;> decide
theorem btI_out {a : Int} (h : a < 0 ∨ 7 ≤ a) : btI a = false := by
  unfold btI
  rcases h with h | h
  · rw [decide_eq_false (p := 1 ≤ a) (by omega)]; rfl
  · rw [decide_eq_false (p := a ≤ 3) (by omega)]; simp
theorem sz_le (k : Nat) : 0 ≤ sz k ∧ sz k ≤ 128 := by unfold sz; split <;> decide
theorem szI_le (a : Int) : 0 ≤ szI a ∧ szI a ≤ 128 := by
  unfold szI
  split
  · exact sz_le _
  · decide
theorem fst_le (k : Nat) : 0 ≤ frs k ∧ frs k ≤ 128 := by unfold frs; split <;> decide
theorem hasI_yes {a n : Int} (h : hasI a n = true) : 0 ≤ n ∧ n < szI a ∧ n < 128 ∧ 1 ≤ a ∧ a ≤ 6 := by
  unfold hasI at h
  rw [Bool.and_eq_true, decide_eq_true_eq, decide_eq_true_eq] at h
  refine ⟨h.1, h.2, by have := szI_le a; omega, ?_⟩
  by_cases ha : 1 ≤ a ∧ a ≤ 6
  · exact ha
  · have h2 := h.2; unfold szI at h2; rw [if_neg ha] at h2; omega
theorem hasI_mk {a n : Int} (h0 : 0 ≤ n) (h1 : n < szI a) : hasI a n = true := by unfold hasI; rw [decide_eq_true h0, decide_eq_true h1]; rfl
theorem hasI_lo {a n : Int} (h : n < 0) : hasI a n = false := by unfold hasI; rw [decide_eq_false (p := 0 ≤ n) (by omega)]; rfl
theorem hasI_hi {a n : Int} (h : szI a ≤ n) : hasI a n = false := by unfold hasI; rw [decide_eq_false (p := n < szI a) (by omega)]; simp
end Adr
def cells35 : Array Value := #[.string ⟨#[]⟩, .int .i64 0, .bool false, .int .i64 0, .int .i64 0, .string ⟨#[37, 73, 88]⟩, .int .i64 128, .bool true, .int .i64 2, .int .i64 0, .string ⟨#[37, 81, 88]⟩, .int .i64 128, .bool true, .int .i64 1, .int .i64 0, .string ⟨#[37, 77, 88]⟩, .int .i64 128, .bool true, .int .i64 1, .int .i64 128, .string ⟨#[37, 73, 87]⟩, .int .i64 64, .bool false, .int .i64 4, .int .i64 0, .string ⟨#[37, 81, 87]⟩, .int .i64 64, .bool false, .int .i64 3, .int .i64 0, .string ⟨#[37, 77, 87]⟩, .int .i64 64, .bool false, .int .i64 3, .int .i64 64]
/-- The table of areas lies in the program's fifth block. -/
def AreasAt (w : World) : Prop := ∃ t fr, w.heap[4]? = some (.cells cells35 t fr)
theorem AreasAt.same {w w' : World} (h : AreasAt w) (k : Same w w') : AreasAt w' := by
  obtain ⟨t, fr, h⟩ := h
  exact ⟨t, fr, by rw [k.heap]; exact h⟩
theorem AreasAt.below {w w' : World} (h : AreasAt w) (k : Below w.heap.size w w') : AreasAt w' := by
  obtain ⟨t, fr, h⟩ := h
  have hs : 4 < w.heap.size := by
    by_cases hz : 4 < w.heap.size
    · exact hz
    · rw [Array.getElem?_eq_none (by omega)] at h; cases h
  exact ⟨t, fr, (Below.block k 4 hs).trans h⟩
theorem AreasAt.cell {w : World} (h : AreasAt w) (j : Nat) : w.cell? ⟨4, j, none⟩ = cells35[j]? := by
  obtain ⟨t, fr, h⟩ := h
  exact cell_of_row w 4 j cells35 t fr h
theorem seven {p : Nat → Prop} (h0 : p 0) (h1 : p 1) (h2 : p 2) (h3 : p 3) (h4 : p 4) (h5 : p 5) (h6 : p 6) (k : Nat) (h : k < 7) : p k := by
  have hc : k = 0 ∨ k = 1 ∨ k = 2 ∨ k = 3 ∨ k = 4 ∨ k = 5 ∨ k = 6 := by omega
  rcases hc with rfl | rfl | rfl | rfl | rfl | rfl | rfl <;> assumption
theorem seven_cases {k : Nat} (h : k < 7) : k = 0 ∨ k = 1 ∨ k = 2 ∨ k = 3 ∨ k = 4 ∨ k = 5 ∨ k = 6 := by omega
theorem row35 (k : Nat) (h : k < 7) : cells35[k * 5]? = some (.string (hed k)) ∧ cells35[k * 5 + 1]? = some (.int .i64 (sz k)) ∧ cells35[k * 5 + 2]? = some (.bool (bt k)) ∧ cells35[k * 5 + 3]? = some (.int .i64 (tb k)) ∧ cells35[k * 5 + 4]? = some (.int .i64 (frs k)) := by
  have hc : k = 0 ∨ k = 1 ∨ k = 2 ∨ k = 3 ∨ k = 4 ∨ k = 5 ∨ k = 6 := by omega
  rcases hc with rfl | rfl | rfl | rfl | rfl | rfl | rfl
  all_goals exact ⟨rfl, rfl, rfl, rfl, rfl⟩
theorem AreasAt.row {w : World} (h : AreasAt w) (k : Nat) (hk : k < 7) : w.cell? ⟨4, k * 5, none⟩ = some (.string (hed k)) ∧ w.cell? ⟨4, k * 5 + 1, none⟩ = some (.int .i64 (sz k)) ∧ w.cell? ⟨4, k * 5 + 2, none⟩ = some (.bool (bt k)) ∧ w.cell? ⟨4, k * 5 + 3, none⟩ = some (.int .i64 (tb k)) ∧ w.cell? ⟨4, k * 5 + 4, none⟩ = some (.int .i64 (frs k)) := by
  obtain ⟨a, b, c, d, e⟩ := row35 k hk
  exact ⟨(h.cell _).trans a, (h.cell _).trans b, (h.cell _).trans c, (h.cell _).trans d, (h.cell _).trans e⟩
set_option maxHeartbeats 800000 in
theorem size_in (k : Nat) (hk : k < 7) (w : World) (hA : AreasAt w) : Calls Tryd.prog 84 #[.int .i64 k] w fun e w' => e = .returned (.int .i64 (sz k)) ∧ w' = w := by
  obtain ⟨c0, c1, c2, c3, c4⟩ := hA.row k hk
  have hk' : (k : Int) < 7 := by omega
  have hd : decide ((7 : Int) ≤ k) = false := decide_eq_false (by omega)
  go_enter Tryd.func84, Tryd.ntmps84
  go_wp2
  go_ret
  exact ⟨rfl, rfl⟩
theorem size_out (a : Int) (h : a < 0 ∨ 7 ≤ a) (w : World) : Calls Tryd.prog 84 #[.int .i64 a] w fun e w' => e = .returned (.int .i64 0) ∧ w' = w := by
  rcases h with h | h
  · go_enter Tryd.func84, Tryd.ntmps84
    go_wp2
    go_ret
    exact ⟨rfl, rfl⟩
  · have h2 : ¬ a < 0 := by omega
    go_enter Tryd.func84, Tryd.ntmps84
    go_wp2
    go_ret
    exact ⟨rfl, rfl⟩
theorem int_cases (a : Int) : (∃ k : Nat, k < 7 ∧ a = k) ∨ (a < 0 ∨ 7 ≤ a) := by
  by_cases h : 0 ≤ a ∧ a < 7
  · exact Or.inl ⟨a.toNat, by omega, by omega⟩
  · exact Or.inr (by omega)
/-- Size, of any number. -/
theorem size_c (a : Int) (w : World) (hA : AreasAt w) : Calls Tryd.prog 84 #[.int .i64 a] w fun e w' => e = .returned (.int .i64 (szI a)) ∧ w' = w := by
  rcases int_cases a with ⟨k, hk, rfl⟩ | h
  · rw [szI_nat k hk]; exact size_in k hk w hA
  · rw [szI_out h]; exact size_out a h w
set_option maxHeartbeats 800000 in
/-- has, of any numbers. -/
theorem has_c (a n : Int) (w : World) (hA : AreasAt w) : Calls Tryd.prog 68 #[.int .i64 a, .int .i64 n] w fun e w' => e = .returned (.bool (hasI a n)) ∧ w' = w := by
  by_cases h : 0 ≤ n
  · unfold hasI
    rw [decide_eq_true h]
    go_enter Tryd.func68, Tryd.ntmps68
    go_wp2_with (go_at_call 84; refine (size_c _ _ hA).mono ?_; rintro e w' ⟨rfl, hw⟩; subst w')
    go_ret
    exact ⟨rfl, rfl⟩
  · rw [hasI_lo (by omega)]
    go_enter Tryd.func68, Tryd.ntmps68
    go_wp2
    go_ret
    exact ⟨rfl, rfl⟩
end Go.Proofs.YtnponognncdkcaaDoor
