/- Two tables side by side, and what was asked of each. -/
import Derived.Test.YthhlahimaoiinaaKnown
namespace Go.Proofs.Ythhlahimaoiinaa
open Go.RowKit
open Crc
def zT2 : Array Value := zT ++ zT
theorem zT_size : zT.size = 260 := by simp [zT]
theorem zT2_info : (Try.prog.info? 54).map (fun i => i.zero) = some (some (.agg zT2)) := by kernel_rfl
theorem zT2_zero (w : World) : Sem.run Try.prog (zeroValue 54) w = .ok (.agg zT2) w := by
  obtain ⟨i, hi, hz⟩ := Option.map_eq_some_iff.1 zT2_info
  simp [zeroValue, typeInfo, hi, hz]
theorem zT2_low (j : Nat) (hj : j < 260) : zT2[j]? = zT[j]? := by
  unfold zT2
  rw [Array.getElem?_append_left (by rw [zT_size]; exact hj)]
theorem zT2_high (j : Nat) : zT2[260 + j]? = zT[j]? := by
  unfold zT2
  rw [Array.getElem?_append_right (by rw [zT_size]; omega), zT_size, Nat.add_sub_cancel_left]
theorem zT2_tab0 (w : World) : Tab (w.alloc (.cells zT2 54)) w.heap.size 0 0 := by
  refine ⟨?_, ?_, ?_, fun j hj => ?_, fun j => World.frozen?_alloc_new ..⟩
  · rw [World.cell?_alloc_new, zT2_low _ (by decide), zT_head 0 (by decide)]; rfl
  · rw [World.cell?_alloc_new, zT2_low _ (by decide), zT_head (0 + 1) (by decide)]; rfl
  · rw [World.cell?_alloc_new, zT2_low _ (by decide), zT_head (0 + 3) (by decide)]; rfl
  · rw [World.cell?_alloc_new, Nat.zero_add, zT2_low _ (by omega), zT_sums j hj, Nat.zero_mul]; rfl
theorem zT2_tab1 (w : World) : Tab (w.alloc (.cells zT2 54)) w.heap.size 260 0 := by
  refine ⟨?_, ?_, ?_, fun j hj => ?_, fun j => World.frozen?_alloc_new ..⟩
  · rw [World.cell?_alloc_new, show 260 = 260 + 0 from rfl, zT2_high, zT_head 0 (by decide)]; rfl
  · rw [World.cell?_alloc_new, zT2_high, zT_head 1 (by decide)]; rfl
  · rw [World.cell?_alloc_new, zT2_high, zT_head 3 (by decide)]; rfl
  · rw [World.cell?_alloc_new, Nat.add_assoc, zT2_high, zT_sums j hj, Nat.zero_mul]; rfl

/-- The two tables lie in block B, made d0 and d1 times; asked, in block B + 1: e0 and e1; below B all is as in w1. -/
structure St (w1 wr : World) (B d0 d1 e0 e1 : Nat) : Prop where
  t0 : Tab wr B 0 d0
  t1 : Tab wr B 260 d1
  a0 : wr.cell? ⟨B + 1, 0, none⟩ = some (.int .i64 e0)
  a1 : wr.cell? ⟨B + 1, 1, none⟩ = some (.int .i64 e1)
  free : ∀ j, wr.frozen? ⟨B + 1, j, none⟩ = false
  below : Below B w1 wr
  b0 : d0 = 0 ∨ d0 = 1
  b1 : d1 = 0 ∨ d1 = 1
theorem Tab.drew {w : World} {b o d : Nat} (h : Tab w b o d) : Tab w.drew b o d := ⟨h.done, h.lock, h.made, h.sums, h.free⟩
theorem St.drew {w1 wr : World} {B d0 d1 e0 e1 : Nat} (h : St w1 wr B d0 d1 e0 e1) : St w1 wr.drew B d0 d1 e0 e1 := ⟨h.t0.drew, h.t1.drew, h.a0, h.a1, h.free, h.below.drew, h.b0, h.b1⟩
theorem St.sum0 {w1 wr w2 : World} {B d0 d1 e0 e1 : Nat} (h : St w1 wr B d0 d1 e0 e1) (k : Only B 0 (0 + 260) wr w2) (t : Tab w2 B 0 1) : St w1 w2 B 1 d1 e0 e1 :=
  ⟨t, h.t1.kept k (by omega), (k.other (a := ⟨B + 1, 0, none⟩) (by simp)).trans h.a0, (k.other (a := ⟨B + 1, 1, none⟩) (by simp)).trans h.a1, fun j => (World.frozen?_of_block (w := wr) (k.block (B + 1) (by omega))).trans (h.free j), h.below.trans (k.below (Nat.le_refl _)), Or.inr rfl, h.b1⟩
theorem St.sum1 {w1 wr w2 : World} {B d0 d1 e0 e1 : Nat} (h : St w1 wr B d0 d1 e0 e1) (k : Only B 260 (260 + 260) wr w2) (t : Tab w2 B 260 1) : St w1 w2 B d0 1 e0 e1 :=
  ⟨h.t0.kept k (by omega), t, (k.other (a := ⟨B + 1, 0, none⟩) (by simp)).trans h.a0, (k.other (a := ⟨B + 1, 1, none⟩) (by simp)).trans h.a1, fun j => (World.frozen?_of_block (w := wr) (k.block (B + 1) (by omega))).trans (h.free j), h.below.trans (k.below (Nat.le_refl _)), h.b0, Or.inr rfl⟩
theorem Tab.store {w : World} {b o d : Nat} (h : Tab w b o d) {a : Addr} (ha : b ≠ a.block) (v : Value) : Tab (w.setCell a v) b o d := by
  have e : ∀ j, (w.setCell a v).cell? ⟨b, j, none⟩ = w.cell? ⟨b, j, none⟩ := fun j => World.cell?_of_block (w := w) (Below.heap_setCell _ _ _ _ ha)
  exact ⟨(e _).trans h.done, (e _).trans h.lock, (e _).trans h.made, fun j hj => (e _).trans (h.sums j hj), fun j => by rw [World.frozen?_setCell]; exact h.free j⟩
theorem St.ask0 {w1 wr : World} {B d0 d1 e0 e1 : Nat} (h : St w1 wr B d0 d1 e0 e1) : St w1 (wr.setCell ⟨B + 1, 0, none⟩ (.int .i64 1)) B d0 d1 1 e1 :=
  ⟨h.t0.store (by simp) _, h.t1.store (by simp) _, World.cell?_setCell_same _ _ _ h.a0, (World.cell?_setCell_other _ _ _ _ (by simp)).trans h.a1, fun j => by rw [World.frozen?_setCell]; exact h.free j, h.below.setCell (by simp) _, h.b0, h.b1⟩
theorem St.ask1 {w1 wr : World} {B d0 d1 e0 e1 : Nat} (h : St w1 wr B d0 d1 e0 e1) : St w1 (wr.setCell ⟨B + 1, 1, none⟩ (.int .i64 1)) B d0 d1 e0 1 :=
  ⟨h.t0.store (by simp) _, h.t1.store (by simp) _, (World.cell?_setCell_other _ _ _ _ (by simp)).trans h.a0, World.cell?_setCell_same _ _ _ h.a1, fun j => by rw [World.frozen?_setCell]; exact h.free j, h.below.setCell (by simp) _, h.b0, h.b1⟩
end Go.Proofs.Ythhlahimaoiinaa
