/- Six stores into a new block. -/
import Derived.Test.YtehbbkdiekgpbaaWk19
import Derived.Deep.RegionHeld3
namespace Go.Proofs.Ytehbbkdiekgpbaa
open Go.RowKit
open Pdu
theorem alloc_drewN (w : World) (d : Nat) (o : Obj) : (w.drewN d).alloc o = (w.alloc o).drewN d := rfl
theorem setCell_drewN (w : World) (d : Nat) (p : Addr) (v : Value) : (w.drewN d).setCell p v = (w.setCell p v).drewN d := rfl
theorem six_set (X : World) (k n : Nat) (hn : n = X.heap.size) (y0 y1 y2 y3 y4 y5 z0 z1 z2 z3 z4 z5 : Value) (t : TypeId) :
    (((((((X.alloc (.cells #[z0, z1, z2, z3, z4, z5] t)).drewN k).setCell ⟨n, 0, none⟩ y0).setCell ⟨n, 1, none⟩ y1).setCell ⟨n, 2, none⟩ y2).setCell ⟨n, 3, none⟩ y3).setCell ⟨n, 4, none⟩ y4).setCell ⟨n, 5, none⟩ y5 = (X.alloc (.cells #[y0, y1, y2, y3, y4, y5] t)).drewN k := by
  rw [setCell_drewN, setCell_drewN, setCell_drewN, setCell_drewN, setCell_drewN, setCell_drewN]
  rw [World.setCell_alloc_at _ _ _ _ _ hn, World.setCell_alloc_at _ _ _ _ _ hn, World.setCell_alloc_at _ _ _ _ _ hn, World.setCell_alloc_at _ _ _ _ _ hn, World.setCell_alloc_at _ _ _ _ _ hn, World.setCell_alloc_at _ _ _ _ _ hn]
  simp
theorem set_same {Y : World} {g i : Nat} {z y : Value} (h : Y.cell? ⟨g, i, none⟩ = some z) : (Y.setCell ⟨g, i, none⟩ y).cell? ⟨g, i, none⟩ = some y := World.cell?_setCell_same _ _ _ h
theorem set_else {Y : World} {g i j : Nat} {z y : Value} (h : Y.cell? ⟨g, i, none⟩ = some z) (hij : i ≠ j) : (Y.setCell ⟨g, j, none⟩ y).cell? ⟨g, i, none⟩ = some z := by
  rw [World.cell?_setCell_other _ _ _ _ (fun e => hij (congrArg Addr.off e).symm)]
  exact h
theorem set_box {Y : World} {g : Nat} {z0 z1 z2 z3 z4 z5 : Value} (h : Box Y g z0 z1 z2 z3 z4 z5) (y0 y1 y2 y3 y4 y5 : Value) :
    Box ((((((Y.setCell ⟨g, 0, none⟩ y0).setCell ⟨g, 1, none⟩ y1).setCell ⟨g, 2, none⟩ y2).setCell ⟨g, 3, none⟩ y3).setCell ⟨g, 4, none⟩ y4).setCell ⟨g, 5, none⟩ y5) g y0 y1 y2 y3 y4 y5 := by
  obtain ⟨h0, h1, h2, h3, h4, h5⟩ := h
  exact ⟨set_else (set_else (set_else (set_else (set_else (set_same h0) (by decide)) (by decide)) (by decide)) (by decide)) (by decide),
    set_else (set_else (set_else (set_else (set_same (set_else h1 (by decide))) (by decide)) (by decide)) (by decide)) (by decide),
    set_else (set_else (set_else (set_same (set_else (set_else h2 (by decide)) (by decide))) (by decide)) (by decide)) (by decide),
    set_else (set_else (set_same (set_else (set_else (set_else h3 (by decide)) (by decide)) (by decide))) (by decide)) (by decide),
    set_else (set_same (set_else (set_else (set_else (set_else h4 (by decide)) (by decide)) (by decide)) (by decide))) (by decide),
    set_same (set_else (set_else (set_else (set_else (set_else h5 (by decide)) (by decide)) (by decide)) (by decide)) (by decide))⟩
theorem Box.far {Y : World} {g : Nat} {z0 z1 z2 z3 z4 z5 : Value} (h : Box Y g z0 z1 z2 z3 z4 z5) {p : Addr} (hp : p.block ≠ g) (v : Value) : Box (Y.setCell p v) g z0 z1 z2 z3 z4 z5 :=
  ⟨(World.cell?_setCell_far _ _ _ _ hp).trans h.c0, (World.cell?_setCell_far _ _ _ _ hp).trans h.c1, (World.cell?_setCell_far _ _ _ _ hp).trans h.c2, (World.cell?_setCell_far _ _ _ _ hp).trans h.c3, (World.cell?_setCell_far _ _ _ _ hp).trans h.c4, (World.cell?_setCell_far _ _ _ _ hp).trans h.c5⟩
theorem Box.grow {Y : World} {g : Nat} {z0 z1 z2 z3 z4 z5 : Value} (h : Box Y g z0 z1 z2 z3 z4 z5) (o : Obj) : Box (Y.alloc o) g z0 z1 z2 z3 z4 z5 :=
  h.below (below_new (Below.refl _ Y) o) (lt_of_cell h.c0)
theorem Box.drewN {Y : World} {g : Nat} {z0 z1 z2 z3 z4 z5 : Value} (h : Box Y g z0 z1 z2 z3 z4 z5) (d : Nat) : Box (Y.drewN d) g z0 z1 z2 z3 z4 z5 := ⟨h.c0, h.c1, h.c2, h.c3, h.c4, h.c5⟩
theorem own_set {Y : World} {base n : Nat} {e : TypeId} {v : Value} {vs : List Value} {p : Addr} (h : Y.ownsRow base e 1 v n vs) (hp : p.block < base) (u : Value) : (Y.setCell p u).ownsRow base e 1 v n vs := ownsRow_setCell_below h hp u
theorem own_six {Y : World} {base n g : Nat} {e : TypeId} {v : Value} {vs : List Value} (h : Y.ownsRow base e 1 v n vs) (hp : g < base) (y0 y1 y2 y3 y4 y5 : Value) :
    (((((((Y.setCell ⟨g, 0, none⟩ y0).setCell ⟨g, 1, none⟩ y1).setCell ⟨g, 2, none⟩ y2).setCell ⟨g, 3, none⟩ y3).setCell ⟨g, 4, none⟩ y4).setCell ⟨g, 5, none⟩ y5)).ownsRow base e 1 v n vs :=
  own_set (own_set (own_set (own_set (own_set (own_set h hp _) hp _) hp _) hp _) hp _) hp _
theorem below_six {w Y : World} {g : Nat} (h : Below w.heap.size w Y) (hg : w.heap.size ≤ g) (y0 y1 y2 y3 y4 y5 : Value) :
    Below w.heap.size w ((((((Y.setCell ⟨g, 0, none⟩ y0).setCell ⟨g, 1, none⟩ y1).setCell ⟨g, 2, none⟩ y2).setCell ⟨g, 3, none⟩ y3).setCell ⟨g, 4, none⟩ y4).setCell ⟨g, 5, none⟩ y5) :=
  Below.setCell (Below.setCell (Below.setCell (Below.setCell (Below.setCell (Below.setCell h hg _) hg _) hg _) hg _) hg _) hg _
end Go.Proofs.Ytehbbkdiekgpbaa
