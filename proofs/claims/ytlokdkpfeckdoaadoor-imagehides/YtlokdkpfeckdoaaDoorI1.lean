/- An image: what it holds, in plain mathematics and in memory (stage 11). -/
import Derived.Test.YtlokdkpfeckdoaaDoorA2
namespace Go.Proofs.YtlokdkpfeckdoaaDoor
open Go.RowKit
open Adr
namespace Adr
/-- Where a place lies in a buffer. -/
def pl (a n : Int) : Nat := a.toNat * 128 + n.toNat
theorem pl_lt {a n : Int} (h : hasI a n = true) : pl a n < 896 := by
  obtain ⟨h0, h1, h2, h3, h4⟩ := hasI_yes h
  unfold pl
  omega
/-- What is told of a place, and which error. -/
def gv (f : Nat → Nat) (a n : Int) : Nat := if hasI a n then f (pl a n) else 0
def ge (a n : Int) : Int := if hasI a n then 0 else 110
def upd (f : Nat → Nat) (p v : Nat) : Nat → Nat := fun j => if j = p then v else f j
/-- What an image holds: the outer values, the working ones, by cells; how often was published. -/
structure IS where
  o : Nat → Nat
  k : Nat → Nat
  n : Nat
def IS.put (s : IS) (a n : Int) (v : Nat) : IS := if hasI a n then { s with o := upd s.o (pl a n) (bv a v) } else s
def IS.set (s : IS) (a n : Int) (v : Nat) : IS := if hasI a n then { s with k := upd s.k (pl a n) (bv a v) } else s
def IS.latch (s : IS) : IS := { s with k := s.o }
/-- One area is published. -/
def IS.area (s : IS) (a : Nat) : IS := { s with o := fun j => if a * 128 ≤ j ∧ j < a * 128 + 128 then s.k j else s.o j }
def IS.more (s : IS) : IS := { s with n := s.n + 1 }
def IS.pub (s : IS) : IS := ((((s.area 2).area 3).area 5).area 6).more
def IS.zero : IS := ⟨fun _ => 0, fun _ => 0, 0⟩
end Adr
/-- A buffer in memory. -/
def Buf (w : World) (g o : Nat) (f : Nat → Nat) : Prop := ∀ j, j < 896 → w.cell? ⟨g, o + j, none⟩ = some (.int .u16 (f j : Int))
/-- An image in block g. -/
structure Im (w : World) (g : Nat) (s : IS) : Prop where
  out : Buf w g 0 s.o
  wrk : Buf w g 896 s.k
  num : w.cell? ⟨g, 1792, none⟩ = some (.int .u64 (s.n : Int))
  free : ∀ j, w.frozen? ⟨g, j, none⟩ = false
theorem Im.lt {w : World} {g : Nat} {s : IS} (t : Im w g s) : g < w.heap.size := lt_of_cell t.num
theorem frozen_kept {w u : World} {g j : Nat} (k : u.heap[g]? = w.heap[g]?) : u.frozen? ⟨g, j, none⟩ = w.frozen? ⟨g, j, none⟩ := by
  unfold World.frozen?
  simp only [k]
theorem Im.heap {w u : World} {g : Nat} {s : IS} (t : Im w g s) (k : u.heap[g]? = w.heap[g]?) : Im u g s :=
  ⟨fun j hj => (World.cell?_of_block (w := w) (a := ⟨g, 0 + j, none⟩) k).trans (t.out j hj), fun j hj => (World.cell?_of_block (w := w) (a := ⟨g, 896 + j, none⟩) k).trans (t.wrk j hj), (World.cell?_of_block (w := w) (a := ⟨g, 1792, none⟩) k).trans t.num, fun j => (frozen_kept k).trans (t.free j)⟩
theorem Im.below {w u : World} {g : Nat} {s : IS} (t : Im w g s) (k : Below w.heap.size w u) : Im u g s := t.heap (k.block g t.lt)
theorem Im.same {w u : World} {g : Nat} {s : IS} (t : Im w g s) (k : Same w u) : Im u g s := t.heap (by rw [k.heap])
theorem Im.turn {w u : World} {g h : Nat} {s : IS} (t : Im w g s) (k : Turn h w u) (hne : g ≠ h) : Im u g s := t.heap (k.block g t.lt (fun e => hne (by simpa using e)))
theorem frozen_set {w : World} {g j : Nat} {a : Addr} {v : Value} : (w.setCell a v).frozen? ⟨g, j, none⟩ = w.frozen? ⟨g, j, none⟩ := World.frozen?_setCell ..
theorem set_same {w : World} {g p : Nat} {v x : Value} (h : w.cell? ⟨g, p, none⟩ = some x) : (w.setCell ⟨g, p, none⟩ v).cell? ⟨g, p, none⟩ = some v := World.cell?_setCell_same _ _ _ h
theorem set_else {w : World} {g i j : Nat} {z y : Value} (h : w.cell? ⟨g, i, none⟩ = some z) (hij : i ≠ j) : (w.setCell ⟨g, j, none⟩ y).cell? ⟨g, i, none⟩ = some z := by
  rw [World.cell?_setCell_other _ _ _ _ (fun e => hij (congrArg Addr.off e).symm)]
  exact h
theorem Buf.set {w : World} {g o : Nat} {f : Nat → Nat} (h : Buf w g o f) (p v : Nat) (hp : p < 896) : Buf (w.setCell ⟨g, o + p, none⟩ (.int .u16 (v : Int))) g o (upd f p v) := fun j hj => by
  unfold upd
  by_cases e : j = p
  · subst e
    rw [if_pos rfl]
    exact set_same (h j hj)
  · rw [if_neg e]
    exact set_else (h j hj) (by omega)
theorem Buf.far {w : World} {g o : Nat} {f : Nat → Nat} (h : Buf w g o f) (q : Nat) (v : Value) (hq : q < o ∨ o + 896 ≤ q) : Buf (w.setCell ⟨g, q, none⟩ v) g o f := fun j hj => set_else (h j hj) (by omega)
theorem Im.setO {w : World} {g : Nat} {s : IS} (t : Im w g s) (p v : Nat) (hp : p < 896) : Im (w.setCell ⟨g, p, none⟩ (.int .u16 (v : Int))) g { s with o := upd s.o p v } := by
  refine ⟨?_, t.wrk.far _ _ (by omega), set_else t.num (by omega), fun j => frozen_set.trans (t.free j)⟩
  have := t.out.set p v hp
  rw [Nat.zero_add] at this
  exact this
theorem Im.setK {w : World} {g : Nat} {s : IS} (t : Im w g s) (p v : Nat) (hp : p < 896) : Im (w.setCell ⟨g, 896 + p, none⟩ (.int .u16 (v : Int))) g { s with k := upd s.k p v } :=
  ⟨t.out.far _ _ (by omega), t.wrk.set p v hp, set_else t.num (by omega), fun j => frozen_set.trans (t.free j)⟩
theorem Im.setN {w : World} {g : Nat} {s : IS} (t : Im w g s) (n : Nat) : Im (w.setCell ⟨g, 1792, none⟩ (.int .u64 (n : Int))) g { s with n := n } :=
  ⟨t.out.far _ _ (by omega), t.wrk.far _ _ (by omega), set_same t.num, fun j => frozen_set.trans (t.free j)⟩
/-- Many cells at once. -/
theorem Turn.cells {g : Nat} {w w' : World} (h : Turn g w w') : ∀ (vs : List Value) (o : Nat), Turn g w (w'.setCells g o vs) := by
  intro vs
  induction vs generalizing w' with
  | nil => intro o; exact h
  | cons v r ih => intro o; exact ih (h.set o v) (o + 1)
def u16f (f : Nat → Nat) (b n : Nat) : List Value := (List.range n).map fun j => .int .u16 (f (b + j) : Int)
theorem u16f_len (f : Nat → Nat) (b n : Nat) : (u16f f b n).length = n := by simp [u16f]
theorem u16f_at (f : Nat → Nat) (b n j : Nat) (h : j < n) : (u16f f b n)[j]? = some (.int .u16 (f (b + j) : Int)) := by simp [u16f, List.getElem?_range h]
theorem u16f_one (f : Nat → Nat) (b n : Nat) : ∀ u ∈ u16f f b n, u.oneCell' = true := by
  intro u hu
  simp only [u16f, List.mem_map] at hu
  obtain ⟨x, _, rfl⟩ := hu
  rfl
theorem Buf.range {w : World} {g o : Nat} {f : Nat → Nat} (h : Buf w g o f) (b n : Nat) (hb : b + n ≤ 896) : w.rangeAt g (o + b) (u16f f b n) := fun j v hv => by
  have hj : j < n := by have := (List.getElem?_eq_some_iff.1 hv).1; rw [u16f_len] at this; exact this
  rw [u16f_at f b n j hj] at hv
  obtain rfl := Option.some.inj hv
  have := h (b + j) (by omega)
  rw [← Nat.add_assoc] at this
  exact this
theorem Im.thereO {w : World} {g : Nat} {s : IS} (t : Im w g s) (b n : Nat) (h : b + n ≤ 1793) : w.there g b n := fun j hj => by
  refine ⟨?_, t.free _⟩
  by_cases h1 : b + j < 896
  · have := t.out (b + j) h1
    rw [Nat.zero_add] at this
    rw [this]; rfl
  · by_cases h2 : b + j < 1792
    · have := t.wrk (b + j - 896) (by omega)
      rw [show 896 + (b + j - 896) = b + j by omega] at this
      rw [this]; rfl
    · rw [show b + j = 1792 by omega, t.num]; rfl
theorem cells_in {w : World} {g o : Nat} {vs : List Value} (ht : w.there g o vs.length) {j : Nat} {v : Value} (hv : vs[j]? = some v) : (w.setCells g o vs).cell? ⟨g, o + j, none⟩ = some v := World.rangeAt_setCells_same w g o vs ht j v hv
theorem cells_out {w : World} {g o q : Nat} {vs : List Value} (h : q < o ∨ o + vs.length ≤ q) : (w.setCells g o vs).cell? ⟨g, q, none⟩ = w.cell? ⟨g, q, none⟩ := World.cell?_setCells_out g vs o w ⟨g, q, none⟩ (fun _ _ => h)
theorem frozen_cells {w : World} {g o j : Nat} {vs : List Value} : (w.setCells g o vs).frozen? ⟨g, j, none⟩ = w.frozen? ⟨g, j, none⟩ := World.frozen?_setCells ..
theorem Im.latched {w : World} {g : Nat} {s : IS} (t : Im w g s) : Im (w.setCells g 896 (u16f s.o 0 896)) g s.latch := by
  have hl := u16f_len s.o 0 896
  refine ⟨fun j hj => ?_, fun j hj => ?_, ?_, fun j => frozen_cells.trans (t.free j)⟩
  · rw [cells_out (by omega)]; exact t.out j hj
  · have := u16f_at s.o 0 896 j hj
    rw [Nat.zero_add] at this
    exact cells_in (by rw [hl]; exact t.thereO 896 896 (by omega)) this
  · rw [cells_out (by omega)]; exact t.num
theorem Im.published {w : World} {g : Nat} {s : IS} (t : Im w g s) (a : Nat) (ha : a < 7) : Im (w.setCells g (a * 128) (u16f s.k (a * 128) 128)) g (s.area a) := by
  have hl := u16f_len s.k (a * 128) 128
  refine ⟨fun j hj => ?_, fun j hj => ?_, ?_, fun j => frozen_cells.trans (t.free j)⟩
  · rw [Nat.zero_add]
    show _ = some (Value.int .u16 (((if a * 128 ≤ j ∧ j < a * 128 + 128 then s.k j else s.o j : Nat)) : Int))
    by_cases h : a * 128 ≤ j ∧ j < a * 128 + 128
    · rw [if_pos h]
      obtain ⟨i, rfl⟩ : ∃ i, j = a * 128 + i := ⟨j - a * 128, by omega⟩
      exact cells_in (by rw [hl]; exact t.thereO (a * 128) 128 (by omega)) (u16f_at s.k (a * 128) 128 i (by omega))
    · rw [if_neg h, cells_out (by omega)]
      have := t.out j hj
      rw [Nat.zero_add] at this
      exact this
  · rw [cells_out (by omega)]; exact t.wrk j hj
  · rw [cells_out (by omega)]; exact t.num
theorem area_s (s : IS) (a : Nat) : (s.area a).k = s.k ∧ (s.area a).n = s.n := ⟨rfl, rfl⟩
end Go.Proofs.YtlokdkpfeckdoaaDoor
