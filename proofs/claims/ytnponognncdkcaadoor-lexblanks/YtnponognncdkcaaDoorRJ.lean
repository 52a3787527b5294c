/- The reference's typed literals, walked: times (stage 12). -/
import Derived.Test.YtnponognncdkcaaDoorJ1
import Derived.Test.YtnponognncdkcaaDoorRF
import Derived.Test.YtnponognncdkcaaDoorJ8
import Derived.Test.YtnponognncdkcaaDoorR1
namespace Go.Proofs.YtnponognncdkcaaDoor
open Go.RowKit
open Adr Lx
theorem Turn.far {g : Nat} {w w' : World} (h : Turn g w w') {b : Nat} (hb : w.heap.size ≤ b) (k : Nat) (v : Value) : Turn g w (w'.setCell ⟨b, k, none⟩ v) := by
  refine ⟨h.os, h.tape, h.output, by simpa using h.size, fun j hj hne => ?_⟩
  rw [Below.heap_setCell _ _ _ _ (by show ¬ j = b; omega)]
  exact h.block j hj hne
/-- A token lies in block b, and may be written. -/
structure TB (W : World) (b : Nat) (x y n : Int) (u : ByteArray) (v : Int) : Prop where
  c0 : W.cell? ⟨b, 0, none⟩ = some (.int .i64 x)
  c1 : W.cell? ⟨b, 1, none⟩ = some (.int .i64 y)
  c2 : W.cell? ⟨b, 2, none⟩ = some (.int .i64 n)
  c3 : W.cell? ⟨b, 3, none⟩ = some (.string u)
  c4 : W.cell? ⟨b, 4, none⟩ = some (.int .i64 v)
  fr : ∀ j, W.frozen? ⟨b, j, none⟩ = false
  lt : b < W.heap.size
theorem Turn.cell {g : Nat} {w w' : World} (h : Turn g w w') {b : Nat} (hb : b < w.heap.size) (hg : ¬ b = g) (k : Nat) : w'.cell? ⟨b, k, none⟩ = w.cell? ⟨b, k, none⟩ ∧ w'.frozen? ⟨b, k, none⟩ = w.frozen? ⟨b, k, none⟩ := by
  have e := h.block b hb (by simpa using hg)
  exact ⟨World.cell?_of_block (a := ⟨b, k, none⟩) e, World.frozen?_of_block (a := ⟨b, k, none⟩) e⟩
theorem TB.turn {W W' : World} {b g : Nat} {x y n v : Int} {u : ByteArray} (h : TB W b x y n u v) (k : Turn g W W') (hg : ¬ b = g) : TB W' b x y n u v :=
  ⟨(k.cell h.lt hg 0).1.trans h.c0, (k.cell h.lt hg 1).1.trans h.c1, (k.cell h.lt hg 2).1.trans h.c2, (k.cell h.lt hg 3).1.trans h.c3, (k.cell h.lt hg 4).1.trans h.c4, fun j => (k.cell h.lt hg j).2.trans (h.fr j), Nat.lt_of_lt_of_le h.lt k.size⟩
theorem tb_new (w : World) (x y n v : Int) (u : ByteArray) : TB (w.alloc (.cells #[.int .i64 x, .int .i64 y, .int .i64 n, .string u, .int .i64 v] 31)) w.heap.size x y n u v :=
  ⟨by simp, by simp, by simp, by simp, by simp, fun j => by simp, by simp⟩
/-- What the reference's readers hand back. -/
def RT (g : Nat) (s : ByteArray) (A a : Nat) (o : Option (Tk × Nat)) (w : World) (e : Ending) (w' : World) : Prop := Turn g w w' ∧ match o with
  | some (t, z) => e = .returned (.tuple #[tv t A, .int .i64 0]) ∧ Sc w' g s (a + z)
  | none => ∃ (x y n E : Int) (u : ByteArray), ¬ E = 0 ∧ e = .returned (.tuple #[.agg #[.int .i64 x, .int .i64 y, .int .i64 n, .string u, .int .i64 A], .int .i64 E])
theorem Sc.lt {W : World} {g : Nat} {s : ByteArray} {a : Nat} (h : Sc W g s a) : g < W.heap.size := by
  rcases Nat.lt_or_ge g W.heap.size with q | q
  · exact q
  · have := h.c0; simp [World.cell?, Array.getElem?_eq_none q] at this
theorem Sc.far {W : World} {g : Nat} {s : ByteArray} {a : Nat} (h : Sc W g s a) {b : Nat} (hb : ¬ b = g) (k : Nat) (v : Value) : Sc (W.setCell ⟨b, k, none⟩ v) g s a := by
  have e : ∀ j, (W.setCell ⟨b, k, none⟩ v).cell? ⟨g, j, none⟩ = W.cell? ⟨g, j, none⟩ := fun j => World.cell?_setCell_other _ _ _ _ (fun e => by injection e with e1; exact hb e1)
  exact ⟨(e 0).trans h.c0, (e 1).trans h.c1, by simpa using h.fr⟩
/-- A reader's state: the scanner, its token, its result's room. -/
structure TS (w W : World) (g : Nat) (s : ByteArray) (bt br a : Nat) (x y n : Int) (u : ByteArray) (v : Int) : Prop where
  sc : Sc W g s a
  t : TB W bt x y n u v
  r : TB W br 0 0 0 ⟨#[]⟩ 0
  tu : Turn g w W
  gt : g < w.heap.size
  ht : w.heap.size ≤ bt
  hr : w.heap.size ≤ br
theorem TS.turn {w W W' : World} {g bt br a a' : Nat} {s u : ByteArray} {x y n v : Int} (h : TS w W g s bt br a x y n u v) (k : Turn g W W') (hs : Sc W' g s a') : TS w W' g s bt br a' x y n u v :=
  ⟨hs, h.t.turn k (by have := h.gt; have := h.ht; omega), h.r.turn k (by have := h.gt; have := h.hr; omega), h.tu.trans k, h.gt, h.ht, h.hr⟩
theorem TS.below {w W W' : World} {g bt br a : Nat} {s u : ByteArray} {x y n v : Int} (h : TS w W g s bt br a x y n u v) (k : Below W.heap.size W W') : TS w W' g s bt br a x y n u v := h.turn (Turn.ofBelow k) (h.sc.below k)
theorem ts_typed {w : World} {g : Nat} {s : ByteArray} {a : Nat} (A : Nat) (h : Sc w g s a) : TS w ((w.alloc (.cells #[.int .i64 0, .int .i64 0, .int .i64 0, .string ⟨#[]⟩, .int .i64 (A : Nat)] 31)).alloc (.cells #[.int .i64 0, .int .i64 0, .int .i64 0, .string ⟨#[]⟩, .int .i64 0] 31)) g s w.heap.size (w.heap.size + 1) a 0 0 0 ⟨#[]⟩ (A : Nat) := by
  have k1 := below_new1 w (.cells #[.int .i64 0, .int .i64 0, .int .i64 0, .string ⟨#[]⟩, .int .i64 (A : Nat)] 31)
  have t1 := tb_new w 0 0 0 (A : Nat) ⟨#[]⟩
  have s1 := h.below k1
  have hz : (w.alloc (.cells #[.int .i64 0, .int .i64 0, .int .i64 0, .string ⟨#[]⟩, .int .i64 (A : Nat)] 31)).heap.size = w.heap.size + 1 := by simp
  generalize w.alloc (.cells #[.int .i64 0, .int .i64 0, .int .i64 0, .string ⟨#[]⟩, .int .i64 (A : Nat)] 31) = W1 at *
  have k2 := below_new1 W1 (.cells #[.int .i64 0, .int .i64 0, .int .i64 0, .string ⟨#[]⟩, .int .i64 0] 31)
  have t2 := tb_new W1 0 0 0 0 ⟨#[]⟩
  rw [hz] at t2
  have hg := h.lt
  exact ⟨s1.below k2, t1.turn (Turn.ofBelow (g := g) k2) (by omega), t2, (Turn.ofBelow (g := g) k1).trans (Turn.ofBelow k2), hg, Nat.le_refl _, Nat.le_succ _⟩
theorem rt_none {g : Nat} {s : ByteArray} {A a : Nat} {w w' : World} {x y n E : Int} {u : ByteArray} (hE : ¬ E = 0) (h : Turn g w w') : RT g s A a none w (.returned (.tuple #[.agg #[.int .i64 x, .int .i64 y, .int .i64 n, .string u, .int .i64 (A : Nat)], .int .i64 E])) w' := ⟨h, x, y, n, E, u, hE, rfl⟩
theorem rt_some {g : Nat} {s : ByteArray} {A a : Nat} {w w' : World} {t : Tk} {z : Nat} (h : Turn g w w') (h2 : Sc w' g s (a + z)) : RT g s A a (some (t, z)) w (.returned (.tuple #[tv t A, .int .i64 0])) w' := ⟨h, rfl, h2⟩
theorem TB.far {W : World} {b : Nat} {x y n v : Int} {u : ByteArray} (h : TB W b x y n u v) {c : Nat} (hc : ¬ c = b) (k : Nat) (q : Value) : TB (W.setCell ⟨c, k, none⟩ q) b x y n u v := by
  have e : ∀ j, (W.setCell ⟨c, k, none⟩ q).cell? ⟨b, j, none⟩ = W.cell? ⟨b, j, none⟩ := fun j => World.cell?_setCell_other _ _ _ _ (fun e => by injection e with e1; exact hc e1)
  exact ⟨(e 0).trans h.c0, (e 1).trans h.c1, (e 2).trans h.c2, (e 3).trans h.c3, (e 4).trans h.c4, fun j => by simpa using h.fr j, by simpa using h.lt⟩
theorem cell_off {W : World} {b i j : Nat} (h : ¬ i = j) (q : Value) : (W.setCell ⟨b, i, none⟩ q).cell? ⟨b, j, none⟩ = W.cell? ⟨b, j, none⟩ := World.cell?_setCell_other _ _ _ _ (fun e => by injection e with _ e2; exact h e2)
theorem TB.put0 {W : World} {b : Nat} {x y n v : Int} {u : ByteArray} (h : TB W b x y n u v) (q : Int) : TB (W.setCell ⟨b, 0, none⟩ (.int .i64 q)) b q y n u v :=
  ⟨World.cell?_setCell_same _ _ _ h.c0, (cell_off (by omega) _).trans h.c1, (cell_off (by omega) _).trans h.c2, (cell_off (by omega) _).trans h.c3, (cell_off (by omega) _).trans h.c4, fun j => by simpa using h.fr j, by simpa using h.lt⟩
theorem TB.put1 {W : World} {b : Nat} {x y n v : Int} {u : ByteArray} (h : TB W b x y n u v) (q : Int) : TB (W.setCell ⟨b, 1, none⟩ (.int .i64 q)) b x q n u v :=
  ⟨(cell_off (by omega) _).trans h.c0, World.cell?_setCell_same _ _ _ h.c1, (cell_off (by omega) _).trans h.c2, (cell_off (by omega) _).trans h.c3, (cell_off (by omega) _).trans h.c4, fun j => by simpa using h.fr j, by simpa using h.lt⟩
theorem TB.put3 {W : World} {b : Nat} {x y n v : Int} {u : ByteArray} (h : TB W b x y n u v) (q : ByteArray) : TB (W.setCell ⟨b, 3, none⟩ (.string q)) b x y n q v :=
  ⟨(cell_off (by omega) _).trans h.c0, (cell_off (by omega) _).trans h.c1, (cell_off (by omega) _).trans h.c2, World.cell?_setCell_same _ _ _ h.c3, (cell_off (by omega) _).trans h.c4, fun j => by simpa using h.fr j, by simpa using h.lt⟩
theorem TS.put01 {w W : World} {g bt br a : Nat} {s u : ByteArray} {x y n v : Int} (h : TS w W g s bt br a x y n u v) (hb : ¬ bt = br) (p q : Int) : TS w ((W.setCell ⟨bt, 0, none⟩ (.int .i64 p)).setCell ⟨bt, 1, none⟩ (.int .i64 q)) g s bt br a p q n u v := by
  have h1 := h.gt
  have h2 := h.ht
  exact ⟨(h.sc.far (by omega) _ _).far (by omega) _ _, (h.t.put0 p).put1 q, (h.r.far hb _ _).far hb _ _, (h.tu.far h.ht _ _).far h.ht _ _, h.gt, h.ht, h.hr⟩
theorem TS.put3 {w W : World} {g bt br a : Nat} {s u : ByteArray} {x y n v : Int} (h : TS w W g s bt br a x y n u v) (hb : ¬ bt = br) (q : ByteArray) : TS w (W.setCell ⟨bt, 3, none⟩ (.string q)) g s bt br a x y n q v := by
  have h1 := h.gt
  have h2 := h.ht
  exact ⟨h.sc.far (by omega) _ _, h.t.put3 q, h.r.far hb _ _, h.tu.far h.ht _ _, h.gt, h.ht, h.hr⟩
/-- The scanner goes on by one sign. -/
theorem TS.step {w W : World} {g bt br a : Nat} {s u : ByteArray} {x y n v : Int} (h : TS w W g s bt br a x y n u v) : TS w (W.setCell ⟨g, 1, none⟩ (.int .i64 ((a : Int) + 1))) g s bt br (a + 1) x y n u v := by
  have h1 := h.gt
  have h2 := h.ht
  have h3 := h.hr
  have q := h.sc.set (a + 1)
  rw [show ((a + 1 : Nat) : Int) = (a : Int) + 1 by omega] at q
  exact ⟨q, h.t.far (by omega) _ _, h.r.far (by omega) _ _, h.tu.set 1 _, h1, h2, h3⟩
end Go.Proofs.YtnponognncdkcaaDoor
