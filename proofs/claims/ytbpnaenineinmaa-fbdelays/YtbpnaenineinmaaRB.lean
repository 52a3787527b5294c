/- The reference's Step: what all blocks share (stage 17). -/
import Derived.Test.YtbpnaenineinmaaR3
namespace Go.Proofs.Ytbpnaenineinmaa
open Go.RowKit
open Fb
/-- The boxes and the rows of inputs and outputs. -/
structure Sb (w wr : World) (k0 k1 k2 : Int) (ab bb : Nat) (A B : List Int) : Prop where
  tb : Tb w wr k0 k1 k2
  ra : Row64 wr ab A
  rb : Row64 wr bb B
  ga : w.heap.size + 1 < ab
  gb : w.heap.size + 1 < bb
  ne : ab ≠ bb
theorem Sb.below {w wr u : World} {k0 k1 k2 : Int} {ab bb : Nat} {A B : List Int} (h : Sb w wr k0 k1 k2 ab bb A B) (k : Below wr.heap.size wr u) : Sb w u k0 k1 k2 ab bb A B := ⟨h.tb.below k, row_below h.ra k, row_below h.rb k, h.ga, h.gb, h.ne⟩
theorem Sb.far {w wr : World} {k0 k1 k2 : Int} {ab bb : Nat} {A B : List Int} (h : Sb w wr k0 k1 k2 ab bb A B) (j : Nat) (v : Value) : Row64 (wr.setCell ⟨w.heap.size, j, none⟩ v) ab A ∧ Row64 (wr.setCell ⟨w.heap.size, j, none⟩ v) bb B :=
  ⟨(((Turn.refl w.heap.size wr).set j v).block _ (row_lt h.ra) (fun e => by have := h.ga; simp at e; omega)).trans h.ra, (((Turn.refl w.heap.size wr).set j v).block _ (row_lt h.rb) (fun e => by have := h.gb; simp at e; omega)).trans h.rb⟩
theorem Sb.set0 {w wr : World} {k0 k1 k2 : Int} {ab bb : Nat} {A B : List Int} (h : Sb w wr k0 k1 k2 ab bb A B) (x : Int) : Sb w (wr.setCell ⟨w.heap.size, 0, none⟩ (.int .i64 x)) x k1 k2 ab bb A B := ⟨h.tb.set0 x, (h.far 0 _).1, (h.far 0 _).2, h.ga, h.gb, h.ne⟩
theorem Sb.set1 {w wr : World} {k0 k1 k2 : Int} {ab bb : Nat} {A B : List Int} (h : Sb w wr k0 k1 k2 ab bb A B) (x : Int) : Sb w (wr.setCell ⟨w.heap.size, 1, none⟩ (.int .i64 x)) k0 x k2 ab bb A B := ⟨h.tb.set1 x, (h.far 1 _).1, (h.far 1 _).2, h.ga, h.gb, h.ne⟩
theorem Sb.set2 {w wr : World} {k0 k1 k2 : Int} {ab bb : Nat} {A B : List Int} (h : Sb w wr k0 k1 k2 ab bb A B) (x : Int) : Sb w (wr.setCell ⟨w.heap.size, 2, none⟩ (.int .i64 x)) k0 k1 x ab bb A B := ⟨h.tb.set2 x, (h.far 2 _).1, (h.far 2 _).2, h.ga, h.gb, h.ne⟩
theorem Tb.turn {w wr u : World} {k0 k1 k2 : Int} {g : Nat} (h : Tb w wr k0 k1 k2) (k : Turn g wr u) (hg : w.heap.size + 1 < g) : Tb w u k0 k1 k2 :=
  ⟨(k.block _ h.kp.lt (fun e => by simp at e; omega)).trans h.kp, (k.block _ h.rs.lt (fun e => by simp at e; omega)).trans h.rs, h.bl.trans (k.below (by omega) h.bl.size)⟩
theorem Sb.out {w wr : World} {k0 k1 k2 : Int} {ab bb : Nat} {A B : List Int} (h : Sb w wr k0 k1 k2 ab bb A B) (j : Nat) (x : Int) : Sb w (wr.setCell ⟨bb, j, none⟩ (.int .i64 x)) k0 k1 k2 ab bb A (B.set j x) :=
  ⟨h.tb.turn ((Turn.refl bb wr).set j _) h.gb, (((Turn.refl bb wr).set j _).block _ (row_lt h.ra) (fun e => h.ne (by simpa using e))).trans h.ra, row_set h.rb x, h.ga, h.gb, h.ne⟩
theorem row_set3 {U : World} {g b : Nat} {l : List Int} {x y z : Int} (r : Row64 U b l) (h : g < b) : Row64 (st3 U g x y z) b l := ((st3_turn U g x y z).block b (row_lt r) (fun e => by simp at e; omega)).trans r
/-- A row that lies behind the boxes: the end of Step. -/
theorem Tb.end {w wr : World} {k0 k1 k2 : Int} {b : Nat} {l : List Int} (h : Tb w wr k0 k1 k2) (r : Row64 wr b l) (hb : w.heap.size + 1 < b) : w.heap.size ≤ b ∧ Row64 (st3 wr (w.heap.size + 1) k0 k1 k2).drew b l ∧ Below w.heap.size w (st3 wr (w.heap.size + 1) k0 k1 k2).drew :=
  ⟨by omega, ((st3_turn wr (w.heap.size + 1) k0 k1 k2).block b (row_lt r) (fun e => by simp at e; omega)).trans r, below_drew (h.bl.trans ((st3_turn wr (w.heap.size + 1) k0 k1 k2).below (by omega) h.bl.size))⟩
end Go.Proofs.Ytbpnaenineinmaa
