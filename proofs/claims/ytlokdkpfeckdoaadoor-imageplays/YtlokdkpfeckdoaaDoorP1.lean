/- What the laws hold: two images, a step; the calls on them (stage 11). -/
import Derived.Test.YtlokdkpfeckdoaaDoorK2
import Derived.Test.YtlokdkpfeckdoaaDoorI6
import Derived.Deep.CutBlock
import Derived.Deep.CutRange
namespace Go.Proofs.YtlokdkpfeckdoaaDoor
open Go.RowKit
open Adr
namespace Adr
/-- A step of a script. -/
structure Stp where
  what : Int
  area : Int
  off : Int
  v : Nat
def Stp.cs (x : Stp) : List Value := [.int .i64 x.what, .int .i64 x.area, .int .i64 x.off, .int .u16 (x.v : Int)]
end Adr
/-- The i-th step of a list that lies in memory. -/
def StepAt (w : World) (lb lo i : Nat) (x : Stp) : Prop := ∀ k u, x.cs[k]? = some u → w.cell? ⟨lb, lo + i * 4 + k, none⟩ = some u
theorem keep_cell {w u : World} {p : Addr} {v : Value} (k : Below w.heap.size w u) (h : w.cell? p = some v) : u.cell? p = some v := (k.cell (lt_of_cell h)).trans h
theorem StepAt.below {w u : World} {lb lo i : Nat} {x : Stp} (h : StepAt w lb lo i x) (k : Below w.heap.size w u) : StepAt u lb lo i x := fun j v hv => keep_cell k (h j v hv)
/-- The project's image in block gm, the reference's in gr. -/
structure Two (w W : World) (gm gr : Nat) (s t : IS) : Prop where
  m : Im W gm s
  r : Im W gr t
  ne : gm ≠ gr
  lm : w.heap.size ≤ gm
  lr : w.heap.size ≤ gr
  k : Below w.heap.size w W
  ar : AreasAt W
theorem AreasAt.turn {w u : World} {g : Nat} (h : AreasAt w) (k : Turn g w u) (hg : 0 < g) : AreasAt u := by
  obtain ⟨t, fr, h⟩ := h
  have hs : 0 < w.heap.size := by
    by_cases hz : 0 < w.heap.size
    · exact hz
    · rw [Array.getElem?_eq_none (by omega)] at h; cases h
  exact ⟨t, fr, (k.block 0 hs (fun e => by simp at e; omega)).trans h⟩
theorem AreasAt.pos {w : World} (h : AreasAt w) : 0 < w.heap.size := by
  obtain ⟨t, fr, h⟩ := h
  by_cases hz : 0 < w.heap.size
  · exact hz
  · rw [Array.getElem?_eq_none (by omega)] at h; cases h
theorem Two.below {w W u : World} {gm gr : Nat} {s t : IS} (h : Two w W gm gr s t) (k : Below W.heap.size W u) : Two w u gm gr s t :=
  ⟨h.m.below k, h.r.below k, h.ne, h.lm, h.lr, h.k.trans (k.mono h.k.size), h.ar.below k⟩
theorem Two.same {w W u : World} {gm gr : Nat} {s t : IS} (h : Two w W gm gr s t) (k : Same W u) : Two w u gm gr s t := h.below k.below
/-- The first has turned. -/
theorem Two.stepM {w W u : World} {gm gr : Nat} {s t s' : IS} (h : Two w W gm gr s t) (hw : 0 < w.heap.size) (i : Im u gm s') (k : Turn gm W u) : Two w u gm gr s' t :=
  ⟨i, h.r.turn k h.ne.symm, h.ne, h.lm, h.lr, below_turn h.k k h.lm h.k.size, h.ar.turn k (by have := h.lm; omega)⟩
theorem Two.stepR {w W u : World} {gm gr : Nat} {s t t' : IS} (h : Two w W gm gr s t) (hw : 0 < w.heap.size) (i : Im u gr t') (k : Turn gr W u) : Two w u gm gr s t' :=
  ⟨h.m.turn k h.ne, i, h.ne, h.lm, h.lr, below_turn h.k k h.lr h.k.size, h.ar.turn k (by have := h.lr; omega)⟩
/-- A step's own copy in block bx. -/
structure Box (w W : World) (gm gr bx : Nat) (s t : IS) (x : Stp) : Prop where
  two : Two w W gm gr s t
  b : W.heap[bx]? = some (.cells x.cs.toArray 30 (0, 0))
  bm : bx ≠ gm
  br : bx ≠ gr
  pos : 0 < w.heap.size
theorem Box.lt {w W : World} {gm gr bx : Nat} {s t : IS} {x : Stp} (h : Box w W gm gr bx s t x) : bx < W.heap.size := (Array.getElem?_eq_some_iff.1 h.b).1
theorem Box.same {w W u : World} {gm gr bx : Nat} {s t : IS} {x : Stp} (h : Box w W gm gr bx s t x) (k : Same W u) : Box w u gm gr bx s t x := ⟨h.two.same k, by rw [k.heap]; exact h.b, h.bm, h.br, h.pos⟩
theorem Box.stepM {w W u : World} {gm gr bx : Nat} {s t s' : IS} {x : Stp} (h : Box w W gm gr bx s t x) (i : Im u gm s') (k : Turn gm W u) : Box w u gm gr bx s' t x := ⟨h.two.stepM h.pos i k, (k.block bx h.lt (fun e => h.bm (by simpa using e))).trans h.b, h.bm, h.br, h.pos⟩
theorem Box.stepR {w W u : World} {gm gr bx : Nat} {s t t' : IS} {x : Stp} (h : Box w W gm gr bx s t x) (i : Im u gr t') (k : Turn gr W u) : Box w u gm gr bx s t' x := ⟨h.two.stepR h.pos i k, (k.block bx h.lt (fun e => h.br (by simpa using e))).trans h.b, h.bm, h.br, h.pos⟩
theorem Box.c0 {w W : World} {gm gr bx : Nat} {s t : IS} {x : Stp} (h : Box w W gm gr bx s t x) : W.cell? ⟨bx, 0, none⟩ = some (.int .i64 x.what) := cell_row h.b rfl
theorem Box.c1 {w W : World} {gm gr bx : Nat} {s t : IS} {x : Stp} (h : Box w W gm gr bx s t x) : W.cell? ⟨bx, 1, none⟩ = some (.int .i64 x.area) := cell_row h.b rfl
theorem Box.c2 {w W : World} {gm gr bx : Nat} {s t : IS} {x : Stp} (h : Box w W gm gr bx s t x) : W.cell? ⟨bx, 2, none⟩ = some (.int .i64 x.off) := cell_row h.b rfl
theorem Box.c3 {w W : World} {gm gr bx : Nat} {s t : IS} {x : Stp} (h : Box w W gm gr bx s t x) : W.cell? ⟨bx, 3, none⟩ = some (.int .u16 (x.v : Int)) := cell_row h.b rfl
/-- The cells that a step's call loads. -/
theorem Box.three {w W : World} {gm gr bx : Nat} {s t : IS} {x : Stp} (h : Box w W gm gr bx s t x) : W.cell? ⟨bx, 1, none⟩ = some (.int .i64 x.area) ∧ W.cell? ⟨bx, 2, none⟩ = some (.int .i64 x.off) ∧ W.cell? ⟨bx, 3, none⟩ = some (.int .u16 (x.v : Int)) := ⟨h.c1, h.c2, h.c3⟩
theorem Box.put {w W : World} {gm gr bx : Nat} {s t : IS} {x : Stp} (h : Box w W gm gr bx s t x) (a n : Int) (v : Nat) : Calls Tryd.prog 8 #[.pointer (some ⟨gm, 0, none⟩), .int .i64 a, .int .i64 n, .int .u16 (v : Int)] W fun e w' => e = .returned (.int .i64 (ge a n)) ∧ Box w w' gm gr bx (s.put a n v) t x := by
  refine (put_c a n v h.two.ar h.two.m).mono ?_
  rintro e w' ⟨rfl, i, k⟩
  exact ⟨rfl, h.stepM i k⟩
theorem Box.set {w W : World} {gm gr bx : Nat} {s t : IS} {x : Stp} (h : Box w W gm gr bx s t x) (a n : Int) (v : Nat) : Calls Tryd.prog 10 #[.pointer (some ⟨gm, 0, none⟩), .int .i64 a, .int .i64 n, .int .u16 (v : Int)] W fun e w' => e = .returned (.int .i64 (ge a n)) ∧ Box w w' gm gr bx (s.set a n v) t x := by
  refine (set_c a n v h.two.ar h.two.m).mono ?_
  rintro e w' ⟨rfl, i, k⟩
  exact ⟨rfl, h.stepM i k⟩
theorem Box.rput {w W : World} {gm gr bx : Nat} {s t : IS} {x : Stp} (h : Box w W gm gr bx s t x) (a n : Int) (v : Nat) : Calls Tryd.prog 9 #[.pointer (some ⟨gr, 0, none⟩), .int .i64 a, .int .i64 n, .int .u16 (v : Int)] W fun e w' => e = .returned (.int .i64 (ge a n)) ∧ Box w w' gm gr bx s (t.put a n v) x := by
  refine (rput_c a n v h.two.r).mono ?_
  rintro e w' ⟨rfl, i, k⟩
  exact ⟨rfl, h.stepR i k⟩
theorem Box.rset {w W : World} {gm gr bx : Nat} {s t : IS} {x : Stp} (h : Box w W gm gr bx s t x) (a n : Int) (v : Nat) : Calls Tryd.prog 11 #[.pointer (some ⟨gr, 0, none⟩), .int .i64 a, .int .i64 n, .int .u16 (v : Int)] W fun e w' => e = .returned (.int .i64 (ge a n)) ∧ Box w w' gm gr bx s (t.set a n v) x := by
  refine (rset_c a n v h.two.r).mono ?_
  rintro e w' ⟨rfl, i, k⟩
  exact ⟨rfl, h.stepR i k⟩
theorem put_n (s : IS) (a n : Int) (v : Nat) : (s.put a n v).n = s.n := by unfold IS.put; split <;> rfl
theorem set_n (s : IS) (a n : Int) (v : Nat) : (s.set a n v).n = s.n := by unfold IS.set; split <;> rfl
end Go.Proofs.YtlokdkpfeckdoaaDoor
