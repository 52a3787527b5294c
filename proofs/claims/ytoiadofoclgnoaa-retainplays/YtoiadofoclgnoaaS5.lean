/- The walk of a store's Copy (stage 9). -/
import Derived.Test.YtoiadofoclgnoaaS4
namespace Go.Proofs.Ytoiadofoclgnoaa
open Go.RowKit
open Pdu
/-- A store's box. -/
def bx (sz : Nat) (r : Value) (n : Nat) (d : Bool) (l p : Int) : List Value := [.int .i64 (sz : Int), r, .int .i64 (n : Int), .bool d, .int .i64 l, .int .i64 p]
set_option maxHeartbeats 800000 in
theorem copyb_c {w : World} {g h : Nat} {s : SS} (t : St w g h s) : Calls Try.prog 22 #[.pointer (some ⟨g, 0, none⟩)] w fun e w' => ∃ g' h', e = .returned (.pointer (some ⟨g', 0, none⟩)) ∧ St w' g' h' s ∧ Below w.heap.size w w' ∧ w.heap.size ≤ g' ∧ w.heap.size ≤ h' := by
  have c0 := t.cSize
  have c1 := t.cRoom
  have c2 := t.cN
  have c3 := t.cDead
  have c4 := t.cLeft
  have c5 := t.cPre
  have S := hid_as t
  have hL : s.rows.length * s.sz ≤ 262144 := Nat.mul_le_mul t.ok.nhi t.ok.hi
  have RL := hid_as (rows_len t)
  have SL : Hid (Sl w (.slice (some ⟨h, 0, none⟩) (s.rows.length * s.sz) (s.rows.length * s.sz)) (u8s s.rows.flatten)) := by
    have := sub_sl t.lies 0 (s.rows.length * s.sz) (s.rows.length * s.sz) (by rw [rows_len t]; omega) (Nat.le_refl _)
    rw [List.drop_zero, List.take_of_length_le (by rw [rows_len t]; exact Nat.le_refl _)] at this
    exact this
  obtain ⟨L, hLL⟩ : ∃ L, L = s.rows.length * s.sz := ⟨_, rfl⟩
  rw [← hLL] at c1 hL RL SL
  have CR : Hid (∀ W, St W g h s → W.cell? ⟨g, 1, none⟩ = some (.slice (some ⟨h, 0, none⟩) L L)) := fun W q => by rw [hLL]; exact q.cRoom
  have HLL := hid_as hLL
  clear t hLL
  go_enter Try.func22, Try.ntmps22
  go_upto_region 2 with fail
  have kX := hid_as (below_new (Below.refl _ w) (.cells (bx s.sz (.slice (some ⟨h, 0, none⟩) L L) s.n s.dead s.lft s.pre).toArray 74))
  have bX : Hid ((w.alloc (.cells (bx s.sz (.slice (some ⟨h, 0, none⟩) L L) s.n s.dead s.lft s.pre).toArray 74)).heap[w.heap.size]? = some (.cells (bx s.sz (.slice (some ⟨h, 0, none⟩) L L) s.n s.dead s.lft s.pre).toArray 74 (0, 0))) := heap_alloc_new w _
  have zX : Hid ((w.alloc (.cells (bx s.sz (.slice (some ⟨h, 0, none⟩) L L) s.n s.dead s.lft s.pre).toArray 74)).heap.size = w.heap.size + 1) := World.size_alloc ..
  change Code.wp _ _ _ _ (w.alloc (.cells (bx s.sz (.slice (some ⟨h, 0, none⟩) L L) s.n s.dead s.lft s.pre).toArray 74))
  generalize w.alloc (.cells (bx s.sz (.slice (some ⟨h, 0, none⟩) L L) s.n s.dead s.lft s.pre).toArray 74) = X at kX bX zX ⊢
  have SX := hid_as (S.out.below kX.out)
  have cX := CR.out _ SX.out
  obtain ⟨w1, hm, hb1, k1, sz1⟩ := mk_run X L (by omega)
  have B1 := hid_as hb1
  have K1 := hid_as (below_and kX.out k1)
  have bx1 : Hid (w1.heap[w.heap.size]? = some (.cells (bx s.sz (.slice (some ⟨h, 0, none⟩) L L) s.n s.dead s.lft s.pre).toArray 74 (0, 0))) := (k1.block _ (by rw [zX.out]; omega)).trans bX.out
  have c11 : w1.cell? ⟨w.heap.size, 1, none⟩ = some (.slice (some ⟨h, 0, none⟩) L L) := cell_row bx1.out rfl
  have f11 : w1.frozen? ⟨w.heap.size, 1, none⟩ = false := frozen_row bx1.out
  have bY : Hid ((w1.setCell ⟨w.heap.size, 1, none⟩ (.slice (some ⟨X.heap.size, 0, none⟩) L L)).heap[w.heap.size]? = some (.cells (bx s.sz (.slice (some ⟨X.heap.size, 0, none⟩) L L) s.n s.dead s.lft s.pre).toArray 74 (0, 0))) := by
    show _ = _
    rw [set_row bx1.out]
    rfl
  have kY : Hid (Below w.heap.size w (w1.setCell ⟨w.heap.size, 1, none⟩ (.slice (some ⟨X.heap.size, 0, none⟩) L L))) := K1.out.trans (((Turn.refl w.heap.size w1).set 1 _).below (Nat.le_refl _) K1.out.size)
  have rY : Hid ((w1.setCell ⟨w.heap.size, 1, none⟩ (.slice (some ⟨X.heap.size, 0, none⟩) L L)).heap[X.heap.size]? = some (.cells (u8s (List.replicate L 0)).toArray 5 (0, 0))) := by
    show _ = _
    rw [Below.heap_setCell _ _ _ _ (by show X.heap.size ≠ w.heap.size; rw [zX.out]; omega), B1.out]
  clear c0 c1 c2 c3 c4 c5 k1 hb1 sz1
  go_upto_region 3 with fail
  generalize w1.setCell ⟨w.heap.size, 1, none⟩ (.slice (some ⟨X.heap.size, 0, none⟩) L L) = Y at bY kY rY ⊢
  have d1 : Y.cell? ⟨w.heap.size, 1, none⟩ = some (.slice (some ⟨X.heap.size, 0, none⟩) L L) := cell_row bY.out rfl
  have d2 : Y.cell? ⟨g, 1, none⟩ = some (.slice (some ⟨h, 0, none⟩) L L) := CR.out _ (S.out.below kY.out)
  obtain ⟨w2, hr, hb2, t2⟩ := cp_run (w := Y.drew) (g := X.heap.size) (off := 0) (m := L) (c := L) 3 rY.out ((SL.out.below kY.out).drew1) RL.out.symm (Nat.le_refl _) (by rw [List.length_replicate]; omega)
  have e2 : splice (List.replicate L 0) 0 s.rows.flatten = s.rows.flatten := by
    unfold splice
    rw [Nat.zero_add, RL.out]
    simp
  rw [e2] at hb2
  have hneX : w.heap.size ≠ X.heap.size := by rw [zX.out]; omega
  have FIN : Hid (St w2 w.heap.size X.heap.size s ∧ Below w.heap.size w w2 ∧ w.heap.size ≤ w.heap.size ∧ w.heap.size ≤ X.heap.size) := by
    refine ⟨⟨?_, hb2, S.out.ok, S.out.pre0, S.out.pre1⟩, ?_, Nat.le_refl _, by rw [zX.out]; omega⟩
    · rw [← HLL.out]
      exact (t2.block w.heap.size (Array.getElem?_eq_some_iff.1 bY.out).1 (fun e => hneX (by simpa using e))).trans bY.out
    · exact kY.out.drew.trans (t2.below (by rw [zX.out]; omega) kY.out.size)
  clear t2 hb2 e2 hm B1 K1 bx1 c11 f11 bY kY rY
  go_region
  go_wp2
  go_ret
  exact ⟨_, _, rfl, FIN.out⟩
end Go.Proofs.Ytoiadofoclgnoaa
