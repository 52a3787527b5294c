/- A table in memory, and what of the memory a call may turn. -/
import Derived.Test.YthhlahimaoiinaaWk4
import Derived.Test.YthhlahimaoiinaaOnce
import Derived.Laws.NewBlocks
namespace Go.Proofs.Ythhlahimaoiinaa
open Go.RowKit
open Crc

/-- Of all that was there only the cells from lo to hi of block b may have turned. -/
structure Only (b lo hi : Nat) (w w' : World) : Prop where
  os : w'.os = w.os
  tape : w'.tape = w.tape
  output : w'.output = w.output
  size : w'.heap.size = w.heap.size
  block : ∀ k, k ≠ b → w'.heap[k]? = w.heap[k]?
  cell : ∀ j, ¬ (lo ≤ j ∧ j < hi) → w'.cell? ⟨b, j, none⟩ = w.cell? ⟨b, j, none⟩
  frozen : ∀ j, w'.frozen? ⟨b, j, none⟩ = w.frozen? ⟨b, j, none⟩

theorem Only.refl (b lo hi : Nat) (w : World) : Only b lo hi w w := ⟨rfl, rfl, rfl, rfl, fun _ _ => rfl, fun _ _ => rfl, fun _ => rfl⟩
theorem Only.trans {b lo hi : Nat} {w u v : World} (h : Only b lo hi w u) (k : Only b lo hi u v) : Only b lo hi w v :=
  ⟨k.os.trans h.os, k.tape.trans h.tape, k.output.trans h.output, k.size.trans h.size, fun i hi => (k.block i hi).trans (h.block i hi), fun j hj => (k.cell j hj).trans (h.cell j hj), fun j => (k.frozen j).trans (h.frozen j)⟩
theorem Only.wide {b lo hi lo' hi' : Nat} {w u : World} (h : Only b lo hi w u) (h1 : lo' ≤ lo) (h2 : hi ≤ hi') : Only b lo' hi' w u :=
  ⟨h.os, h.tape, h.output, h.size, h.block, fun j hj => h.cell j (by omega), h.frozen⟩
theorem Only.drew {b lo hi : Nat} {w u : World} (h : Only b lo hi w u) : Only b lo hi w u.drew := ⟨h.os, h.tape, h.output, h.size, h.block, h.cell, h.frozen⟩
theorem Only.setCell {b lo hi : Nat} {w u : World} (h : Only b lo hi w u) {j : Nat} (h1 : lo ≤ j) (h2 : j < hi) (v : Value) : Only b lo hi w (u.setCell ⟨b, j, none⟩ v) := by
  refine h.trans ⟨rfl, rfl, rfl, by simp [World.setCell], fun k hk => Below.heap_setCell _ _ _ _ hk, fun i hi => World.cell?_setCell_other _ _ _ _ ?_, fun i => by simp⟩
  intro e
  simp only [Addr.mk.injEq] at e
  omega
theorem Only.below {b lo hi B : Nat} {w u : World} (h : Only b lo hi w u) (hB : B ≤ b) : Below B w u :=
  ⟨h.os, h.tape, h.output, by rw [h.size]; exact Nat.le_refl _, fun k hk => h.block k (by omega)⟩
theorem Only.other {b lo hi : Nat} {w u : World} (h : Only b lo hi w u) {a : Addr} (ha : a.block ≠ b) : u.cell? a = w.cell? a := World.cell?_of_block (w := w) (h.block a.block ha)

/-- The table in block b from o on: d is 0 as long as it isn't made, 1 then. -/
structure Tab (w : World) (b o d : Nat) : Prop where
  done : w.cell? ⟨b, o, none⟩ = some (.int .u32 d)
  lock : w.cell? ⟨b, o + 1, none⟩ = some (.int .i32 0)
  made : w.cell? ⟨b, o + 3, none⟩ = some (.int .i64 d)
  sums : ∀ j, j < 256 → w.cell? ⟨b, o + 4 + j, none⟩ = some (.int .u16 (d * its 40961 8 j : Nat))
  free : ∀ j, w.frozen? ⟨b, j, none⟩ = false

theorem Tab.kept {w u : World} {b o d lo hi : Nat} (h : Tab w b o d) (k : Only b lo hi w u) (hd : hi ≤ o ∨ o + 260 ≤ lo) : Tab u b o d :=
  ⟨(k.cell _ (by omega)).trans h.done, (k.cell _ (by omega)).trans h.lock, (k.cell _ (by omega)).trans h.made, fun j hj => (k.cell _ (by omega)).trans (h.sums j hj), fun j => (k.frozen j).trans (h.free j)⟩
theorem Tab.below {w u : World} {b o d B : Nat} (h : Tab w b o d) (k : Below B w u) (hb : b < B) : Tab u b o d :=
  ⟨(k.cell hb).trans h.done, (k.cell hb).trans h.lock, (k.cell hb).trans h.made, fun j hj => (k.cell hb).trans (h.sums j hj), fun j => (k.frozen hb).trans (h.free j)⟩
theorem lt_of_cell {w : World} {a : Addr} {v : Value} (h : w.cell? a = some v) : a.block < w.heap.size := by
  rcases Nat.lt_or_ge a.block w.heap.size with h' | h'
  · exact h'
  · simp [World.cell?, Array.getElem?_eq_none h'] at h
/-- The bytes of v, if there are any, lie outside block b. -/
def Apart (v : Value) (bs : List Nat) (b : Nat) : Prop := bs ≠ [] → ∀ a n c, v = .slice (some a) n c → a.block ≠ b
theorem Slice.lt {w : World} {v : Value} {bs : List Nat} (h : Slice w v bs) (hne : bs ≠ []) (a : Addr) (n c : Nat) (hv : v = .slice (some a) n c) : a.block < w.heap.size := by
  obtain ⟨_, ⟨h2, _⟩ | ⟨b, off, cap, rfl, hc⟩⟩ := h
  · exact absurd h2 hne
  · simp only [Value.slice.injEq, Option.some.injEq] at hv
    rw [← hv.1]
    exact lt_of_cell (hc 0 (List.length_pos_iff.2 hne))
theorem Slice.apart {w : World} {v : Value} {bs : List Nat} {b : Nat} (h : Slice w v bs) (hb : w.heap.size ≤ b) : Apart v bs b := fun hne a n c hv => by
  have := h.lt hne a n c hv
  omega
theorem Slice.below {w u : World} {v : Value} {bs : List Nat} (h : Slice w v bs) (k : Below w.heap.size w u) : Slice u v bs := by
  obtain ⟨h1, h2 | ⟨b, off, cap, rfl, hc⟩⟩ := h
  · exact ⟨h1, Or.inl h2⟩
  · exact ⟨h1, Or.inr ⟨b, off, cap, rfl, fun i hi => (k.cell (p := ⟨b, off + i, none⟩) (lt_of_cell (hc i hi))).trans (hc i hi)⟩⟩
theorem Slice.only {w u : World} {v : Value} {bs : List Nat} {b lo hi : Nat} (h : Slice w v bs) (k : Only b lo hi w u) (hb : Apart v bs b) : Slice u v bs := by
  obtain ⟨h1, h2 | ⟨b, off, cap, rfl, hc⟩⟩ := h
  · exact ⟨h1, Or.inl h2⟩
  · exact ⟨h1, Or.inr ⟨b, off, cap, rfl, fun i hi => (k.other (a := ⟨b, off + i, none⟩) (hb (List.length_pos_iff.1 (by omega)) ⟨b, off, none⟩ _ _ rfl)).trans (hc i hi)⟩⟩
end Go.Proofs.Ythhlahimaoiinaa
