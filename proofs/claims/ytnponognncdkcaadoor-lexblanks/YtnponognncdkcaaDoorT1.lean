/- The tables in memory (stage 12). -/
import Derived.Test.YtnponognncdkcaaDoorQ1
namespace Go.Proofs.YtnponognncdkcaaDoor
open Go.RowKit
open Adr Lx
def cells36 : Array Value := #[.string ⟨#[]⟩, .int .i64 0, .int .i64 0, .string ⟨#[66, 79, 79, 76]⟩, .int .i64 0, .int .i64 1, .string ⟨#[83, 73, 78, 84]⟩, .int .i64 (-128), .int .i64 127, .string ⟨#[73, 78, 84]⟩, .int .i64 (-32768), .int .i64 32767, .string ⟨#[68, 73, 78, 84]⟩, .int .i64 (-2147483648), .int .i64 2147483647, .string ⟨#[85, 83, 73, 78, 84]⟩, .int .i64 0, .int .i64 255, .string ⟨#[85, 73, 78, 84]⟩, .int .i64 0, .int .i64 65535, .string ⟨#[85, 68, 73, 78, 84]⟩, .int .i64 0, .int .i64 4294967295, .string ⟨#[66, 89, 84, 69]⟩, .int .i64 0, .int .i64 255, .string ⟨#[87, 79, 82, 68]⟩, .int .i64 0, .int .i64 65535, .string ⟨#[68, 87, 79, 82, 68]⟩, .int .i64 0, .int .i64 4294967295, .string ⟨#[84, 73, 77, 69]⟩, .int .i64 (-2147483648), .int .i64 2147483647]
def cells6 : Array Value := #[.string (bn 0), .int .i64 2, .string (bn 1), .int .i64 8, .string (bn 2), .int .i64 16]
def cells10 : Array Value := #[.string (uN 0), .int .i64 86400000, .string (uN 1), .int .i64 3600000, .string (uN 2), .int .i64 60000, .string (uN 3), .int .i64 1000, .string (uN 4), .int .i64 1]
/-- A table lies in this block. -/
def RowAt (w : World) (g : Nat) (cs : Array Value) : Prop := ∃ t fr, w.heap[g]? = some (.cells cs t fr)
theorem RowAt.lt {w : World} {g : Nat} {cs : Array Value} (h : RowAt w g cs) : g < w.heap.size := by
  obtain ⟨t, fr, h⟩ := h
  by_cases hz : g < w.heap.size
  · exact hz
  · rw [Array.getElem?_eq_none (by omega)] at h; cases h
theorem RowAt.below {w w' : World} {g : Nat} {cs : Array Value} (h : RowAt w g cs) (k : Below w.heap.size w w') : RowAt w' g cs := by
  have hs := h.lt
  obtain ⟨t, fr, h⟩ := h
  exact ⟨t, fr, (Below.block k g hs).trans h⟩
theorem RowAt.cell {w : World} {g : Nat} {cs : Array Value} (h : RowAt w g cs) (j : Nat) : w.cell? ⟨g, j, none⟩ = cs[j]? := by
  obtain ⟨t, fr, h⟩ := h
  exact cell_of_row w g j cs t fr h
theorem below_new1 (w : World) (o : Obj) : Below w.heap.size w (w.alloc o) := Below.alloc (Below.refl _ _) (Nat.le_refl _) _
/-- The tables lie, and what else a walk asks of the program's variables. -/
structure Tabs (w : World) : Prop where
  kinds : RowAt w 0 cells36
  err : w.cell? ⟨1, 0, none⟩ = some (.iface 97 (.agg #[.pointer (some ⟨6, 26, none⟩)]))
  max : ∃ m, w.cell? ⟨2, 0, none⟩ = some (.int .i64 m)
  bases : RowAt w 3 cells6
  areas : AreasAt w
  units : RowAt w 5 cells10
theorem Tabs.five {w : World} (h : Tabs w) : 5 < w.heap.size := h.units.lt
theorem Tabs.below {w w' : World} (h : Tabs w) (k : Below w.heap.size w w') : Tabs w' := by
  have h5 := h.five
  obtain ⟨m, hm⟩ := h.max
  exact ⟨h.kinds.below k, (k.cell (p := ⟨1, 0, none⟩) (show 1 < _ by omega)).trans h.err, ⟨m, (k.cell (p := ⟨2, 0, none⟩) (show 2 < _ by omega)).trans hm⟩, h.bases.below k, h.areas.below k, h.units.below k⟩
theorem Tabs.same {w w' : World} (h : Tabs w) (k : Same w w') : Tabs w' := h.below k.below
theorem row36 (k : Nat) (h : k < 12) : cells36[k * 3]? = some (.string (kn k)) ∧ cells36[k * 3 + 1]? = some (.int .i64 (klo k)) ∧ cells36[k * 3 + 2]? = some (.int .i64 (khi k)) := by
  have hc : k = 0 ∨ k = 1 ∨ k = 2 ∨ k = 3 ∨ k = 4 ∨ k = 5 ∨ k = 6 ∨ k = 7 ∨ k = 8 ∨ k = 9 ∨ k = 10 ∨ k = 11 := by omega
  rcases hc with rfl | rfl | rfl | rfl | rfl | rfl | rfl | rfl | rfl | rfl | rfl | rfl
  all_goals exact ⟨rfl, rfl, rfl⟩
theorem Tabs.kind {w : World} (h : Tabs w) (k : Nat) (hk : k < 12) : w.cell? ⟨0, k * 3, none⟩ = some (.string (kn k)) ∧ w.cell? ⟨0, k * 3 + 1, none⟩ = some (.int .i64 (klo k)) ∧ w.cell? ⟨0, k * 3 + 2, none⟩ = some (.int .i64 (khi k)) := by
  obtain ⟨a, b, c⟩ := row36 k hk
  exact ⟨(h.kinds.cell _).trans a, (h.kinds.cell _).trans b, (h.kinds.cell _).trans c⟩
theorem isK_of {l : List UInt8} {k : Nat} (h0 : 0 < k) (h : ((kn k).data.toList == l) = true) : isK l k = true := by unfold isK; rw [decide_eq_true h0, h]; rfl
theorem isK_no {l : List UInt8} {k : Nat} (h : ((kn k).data.toList == l) = false) : isK l k = false := by unfold isK; rw [h]; simp
theorem isK_0 (l : List UInt8) : isK l 0 = false := rfl
theorem kf_at {l : List UInt8} {k : Nat} (hk : k < 12) (h : isK l k = true) (hs : ∀ j, j < k → isK l j = false) : kf l = k := by
  have e : (List.range 12).find? (isK l) = some k := by
    rw [List.find?_range_eq_some]
    exact ⟨h, by simpa using hk, fun j hj => by rw [hs j hj]; rfl⟩
  unfold kf
  rw [e]
  rfl
theorem kf_none {l : List UInt8} (hs : ∀ j, j < 12 → isK l j = false) : kf l = 0 := by
  have e : (List.range 12).find? (isK l) = none := by
    rw [List.find?_eq_none]
    intro j hj
    rw [hs j (by simpa using hj)]
    exact Bool.false_ne_true
  unfold kf
  rw [e]
  rfl
theorem kf_lt (l : List UInt8) : kf l < 12 := by
  unfold kf
  cases e : (List.range 12).find? (isK l) with
  | none => decide
  | some k => have := List.mem_of_find?_eq_some e; simpa using this
theorem kf_is {l : List UInt8} (h : kf l ≠ 0) : (kn (kf l)).data.toList = l := by
  unfold kf at *
  cases e : (List.range 12).find? (isK l) with
  | none => rw [e] at h; exact absurd rfl h
  | some k =>
    have := List.find?_some e
    unfold isK at this
    rw [Bool.and_eq_true] at this
    exact beq_iff_eq.1 this.2
end Go.Proofs.YtnponognncdkcaaDoor
