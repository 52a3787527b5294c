/- The reference's timer: what all ways share (stage 17). -/
import Derived.Test.YtbpnaenineinmaaR2
import Derived.Test.YtbpnaenineinmaaM3
namespace Go.Proofs.Ytbpnaenineinmaa
open Go.RowKit
open Fb
/-- The world behind a keep's store. -/
def st3 (W : World) (g : Nat) (a b c : Int) : World := ((W.setCell ⟨g, 0, none⟩ (.int .i64 a)).setCell ⟨g, 1, none⟩ (.int .i64 b)).setCell ⟨g, 2, none⟩ (.int .i64 c)
theorem st3_turn (W : World) (g : Nat) (a b c : Int) : Turn g W (st3 W g a b c) := (((Turn.refl g W).set 0 _).set 1 _).set 2 _
/-- What is kept lies in block g. -/
abbrev Kr (w : World) (g : Nat) (a b c : Int) : Prop := w.heap[g]? = some (.cells #[.int .i64 a, .int .i64 b, .int .i64 c] 23 (0, 0))
theorem Kr.cells {w : World} {g : Nat} {a b c : Int} (h : Kr w g a b c) : w.cell? ⟨g, 0, none⟩ = some (.int .i64 a) ∧ w.cell? ⟨g, 1, none⟩ = some (.int .i64 b) ∧ w.cell? ⟨g, 2, none⟩ = some (.int .i64 c) ∧ ∀ j, w.frozen? ⟨g, j, none⟩ = false :=
  ⟨cell_row (l := [.int .i64 a, .int .i64 b, .int .i64 c]) h rfl, cell_row (l := [.int .i64 a, .int .i64 b, .int .i64 c]) h rfl, cell_row (l := [.int .i64 a, .int .i64 b, .int .i64 c]) h rfl, fun _ => frozen_row (l := [.int .i64 a, .int .i64 b, .int .i64 c]) h⟩
theorem Kr.lt {w : World} {g : Nat} {a b c : Int} (h : Kr w g a b c) : g < w.heap.size := (Array.getElem?_eq_some_iff.1 h).1
theorem Kr.below {w u : World} {g : Nat} {a b c : Int} (h : Kr w g a b c) (k : Below w.heap.size w u) : Kr u g a b c := (k.block g h.lt).trans h
theorem Kr.set0 {w : World} {g : Nat} {a b c : Int} (h : Kr w g a b c) (x : Int) : Kr (w.setCell ⟨g, 0, none⟩ (.int .i64 x)) g x b c := by
  show _ = _
  rw [set_row (l := [.int .i64 a, .int .i64 b, .int .i64 c]) h]
  rfl
theorem Kr.set1 {w : World} {g : Nat} {a b c : Int} (h : Kr w g a b c) (x : Int) : Kr (w.setCell ⟨g, 1, none⟩ (.int .i64 x)) g a x c := by
  show _ = _
  rw [set_row (l := [.int .i64 a, .int .i64 b, .int .i64 c]) h]
  rfl
theorem Kr.set2 {w : World} {g : Nat} {a b c : Int} (h : Kr w g a b c) (x : Int) : Kr (w.setCell ⟨g, 2, none⟩ (.int .i64 x)) g a b x := by
  show _ = _
  rw [set_row (l := [.int .i64 a, .int .i64 b, .int .i64 c]) h]
  rfl
/-- A call's two boxes: what is kept, the result's. -/
structure Tb (w wr : World) (k0 k1 k2 : Int) : Prop where
  kp : Kr wr w.heap.size k0 k1 k2
  rs : Kr wr (w.heap.size + 1) 0 0 0
  bl : Below w.heap.size w wr
theorem Tb.below {w wr u : World} {k0 k1 k2 : Int} (h : Tb w wr k0 k1 k2) (k : Below wr.heap.size wr u) : Tb w u k0 k1 k2 := ⟨h.kp.below k, h.rs.below k, below_and h.bl k⟩
theorem Tb.far {w wr : World} {k0 k1 k2 : Int} (h : Tb w wr k0 k1 k2) (j : Nat) (v : Value) : Kr (wr.setCell ⟨w.heap.size, j, none⟩ v) (w.heap.size + 1) 0 0 0 := (((Turn.refl w.heap.size wr).set j v).block _ h.rs.lt (fun e => by simp at e)).trans h.rs
theorem Tb.bel {w wr : World} {k0 k1 k2 : Int} (h : Tb w wr k0 k1 k2) (j : Nat) (v : Value) : Below w.heap.size w (wr.setCell ⟨w.heap.size, j, none⟩ v) := h.bl.trans (((Turn.refl w.heap.size wr).set j v).below (Nat.le_refl _) h.bl.size)
theorem Tb.set0 {w wr : World} {k0 k1 k2 : Int} (h : Tb w wr k0 k1 k2) (x : Int) : Tb w (wr.setCell ⟨w.heap.size, 0, none⟩ (.int .i64 x)) x k1 k2 := ⟨h.kp.set0 x, h.far 0 _, h.bel 0 _⟩
theorem Tb.set1 {w wr : World} {k0 k1 k2 : Int} (h : Tb w wr k0 k1 k2) (x : Int) : Tb w (wr.setCell ⟨w.heap.size, 1, none⟩ (.int .i64 x)) k0 x k2 := ⟨h.kp.set1 x, h.far 1 _, h.bel 1 _⟩
theorem Tb.set2 {w wr : World} {k0 k1 k2 : Int} (h : Tb w wr k0 k1 k2) (x : Int) : Tb w (wr.setCell ⟨w.heap.size, 2, none⟩ (.int .i64 x)) k0 k1 x := ⟨h.kp.set2 x, h.far 2 _, h.bel 2 _⟩
/-- The end: the outputs' row is new, what is kept is copied. -/
theorem Tb.fin {w wr : World} {k0 k1 k2 : Int} (h : Tb w wr k0 k1 k2) (l : List Int) : w.heap.size ≤ wr.heap.size ∧ Row64 (st3 (wr.alloc (.cells (i64s l).toArray 2)) (w.heap.size + 1) k0 k1 k2).drew wr.heap.size l ∧ Below w.heap.size w (st3 (wr.alloc (.cells (i64s l).toArray 2)) (w.heap.size + 1) k0 k1 k2).drew := by
  have lt := h.rs.lt
  refine ⟨h.bl.size, ?_, below_drew ((below_new h.bl _).trans ((st3_turn _ (w.heap.size + 1) k0 k1 k2).below (by omega) (by have := h.bl.size; simp; omega)))⟩
  exact ((st3_turn _ (w.heap.size + 1) k0 k1 k2).block wr.heap.size (by simp) (fun e => by simp at e; omega)).trans (row_new wr l)
/-- In any world behind a new block the boxes are as they were. -/
theorem Tb.news {w wr : World} {k0 k1 k2 : Int} (h : Tb w wr k0 k1 k2) (o : Obj) : Tb w (wr.alloc o) k0 k1 k2 := h.below (below_new (Below.refl _ wr) o)
theorem el_gt {pt nw k : Int} (h : pt < since nw k) : el pt nw k = pt := by unfold el; omega
theorem el_le {pt nw k : Int} (h : ¬ pt < since nw k) : el pt nw k = since nw k := by unfold el; omega
theorem ne_b {x y : Int} (h : x ≠ y) : (x == y) = false ∧ (x != y) = true := ⟨by rw [beq_eq_false_iff_ne]; exact h, by rw [bne_iff_ne]; exact h⟩
end Go.Proofs.Ytbpnaenineinmaa
