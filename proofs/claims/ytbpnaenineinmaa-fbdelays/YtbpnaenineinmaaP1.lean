/- Help's Place; a block's life in a law (stage 17). -/
import Derived.Test.YtbpnaenineinmaaR1
namespace Go.Proofs.Ytbpnaenineinmaa
open Go.RowKit
open Fb
theorem tmod_2 (k : Int) : (k.tmod 2 < 0 ∧ -2 < k.tmod 2 ∧ k.tmod 2 + 2 = k % 2) ∨ (¬ k.tmod 2 < 0 ∧ k.tmod 2 = k % 2) := by
  by_cases h : 0 ≤ k
  · rw [Int.tmod_eq_emod_of_nonneg h]; omega
  · have e : k.tmod 2 = -((-k) % 2) := by
      have := Int.neg_tmod (-k) 2
      rw [Int.neg_neg] at this
      rw [this, Int.tmod_eq_emod_of_nonneg (by omega)]
    rw [e]; omega
set_option maxHeartbeats 400000 in
theorem place_2 (k : Int) (w : World) : Calls Try.prog 14 #[.int .i64 k, .int .i64 2] w fun e w' => e = .returned (.int .i64 (k % 2)) ∧ w' = w := by
  rcases tmod_2 k with ⟨h, h2, h3⟩ | ⟨h, h3⟩
  · skip
    go_enter Try.func14, Try.ntmps14
    go_wp2
    go_ret
    exact ⟨rfl, rfl⟩
  · skip
    go_enter Try.func14, Try.ntmps14
    go_wp2
    go_ret
    exact ⟨rfl, rfl⟩
theorem tmod_3 (k : Int) : (k.tmod 3 < 0 ∧ -3 < k.tmod 3 ∧ k.tmod 3 + 3 = k % 3) ∨ (¬ k.tmod 3 < 0 ∧ k.tmod 3 = k % 3) := by
  by_cases h : 0 ≤ k
  · rw [Int.tmod_eq_emod_of_nonneg h]; omega
  · have e : k.tmod 3 = -((-k) % 3) := by
      have := Int.neg_tmod (-k) 3
      rw [Int.neg_neg] at this
      rw [this, Int.tmod_eq_emod_of_nonneg (by omega)]
    rw [e]; omega
set_option maxHeartbeats 400000 in
theorem place_3 (k : Int) (w : World) : Calls Try.prog 14 #[.int .i64 k, .int .i64 3] w fun e w' => e = .returned (.int .i64 (k % 3)) ∧ w' = w := by
  rcases tmod_3 k with ⟨h, h2, h3⟩ | ⟨h, h3⟩
  · skip
    go_enter Try.func14, Try.ntmps14
    go_wp2
    go_ret
    exact ⟨rfl, rfl⟩
  · skip
    go_enter Try.func14, Try.ntmps14
    go_wp2
    go_ret
    exact ⟨rfl, rfl⟩
theorem tmod_10 (k : Int) : (k.tmod 10 < 0 ∧ -10 < k.tmod 10 ∧ k.tmod 10 + 10 = k % 10) ∨ (¬ k.tmod 10 < 0 ∧ k.tmod 10 = k % 10) := by
  by_cases h : 0 ≤ k
  · rw [Int.tmod_eq_emod_of_nonneg h]; omega
  · have e : k.tmod 10 = -((-k) % 10) := by
      have := Int.neg_tmod (-k) 10
      rw [Int.neg_neg] at this
      rw [this, Int.tmod_eq_emod_of_nonneg (by omega)]
    rw [e]; omega
set_option maxHeartbeats 400000 in
theorem place_10 (k : Int) (w : World) : Calls Try.prog 14 #[.int .i64 k, .int .i64 10] w fun e w' => e = .returned (.int .i64 (k % 10)) ∧ w' = w := by
  rcases tmod_10 k with ⟨h, h2, h3⟩ | ⟨h, h3⟩
  · skip
    go_enter Try.func14, Try.ntmps14
    go_wp2
    go_ret
    exact ⟨rfl, rfl⟩
  · skip
    go_enter Try.func14, Try.ntmps14
    go_wp2
    go_ret
    exact ⟨rfl, rfl⟩
/-- A block's life: what it keeps, its outputs. -/
structure Lf (w wr : World) (kb b : Nat) (k0 k1 k2 : Int) (l : List Int) : Prop where
  kp : wr.heap[kb]? = some (.cells #[.int .i64 k0, .int .i64 k1, .int .i64 k2] 23 (0, 0))
  row : Row64 wr b l
  kw : w.heap.size ≤ kb
  bl : Below w.heap.size w wr
theorem Lf.lt {w wr : World} {kb b : Nat} {k0 k1 k2 : Int} {l : List Int} (h : Lf w wr kb b k0 k1 k2 l) : kb < wr.heap.size := (Array.getElem?_eq_some_iff.1 h.kp).1
theorem Lf.c0 {w wr : World} {kb b : Nat} {k0 k1 k2 : Int} {l : List Int} (h : Lf w wr kb b k0 k1 k2 l) : wr.cell? ⟨kb, 0, none⟩ = some (.int .i64 k0) := cell_row (l := [.int .i64 k0, .int .i64 k1, .int .i64 k2]) h.kp rfl
theorem Lf.c1 {w wr : World} {kb b : Nat} {k0 k1 k2 : Int} {l : List Int} (h : Lf w wr kb b k0 k1 k2 l) : wr.cell? ⟨kb, 1, none⟩ = some (.int .i64 k1) := cell_row (l := [.int .i64 k0, .int .i64 k1, .int .i64 k2]) h.kp rfl
theorem Lf.c2 {w wr : World} {kb b : Nat} {k0 k1 k2 : Int} {l : List Int} (h : Lf w wr kb b k0 k1 k2 l) : wr.cell? ⟨kb, 2, none⟩ = some (.int .i64 k2) := cell_row (l := [.int .i64 k0, .int .i64 k1, .int .i64 k2]) h.kp rfl
theorem Lf.fz {w wr : World} {kb b : Nat} {k0 k1 k2 : Int} {l : List Int} (h : Lf w wr kb b k0 k1 k2 l) (j : Nat) : wr.frozen? ⟨kb, j, none⟩ = false := frozen_row (l := [.int .i64 k0, .int .i64 k1, .int .i64 k2]) h.kp
theorem Lf.below {w wr u : World} {kb b : Nat} {k0 k1 k2 : Int} {l : List Int} (h : Lf w wr kb b k0 k1 k2 l) (k : Below wr.heap.size wr u) : Lf w u kb b k0 k1 k2 l := ⟨(k.block _ h.lt).trans h.kp, row_below h.row k, h.kw, h.bl.trans (k.mono h.bl.size)⟩
theorem Lf.step {w wr W : World} {kb b b' : Nat} {k0 k1 k2 x0 x1 x2 : Int} {l l' : List Int} (h : Lf w wr kb b k0 k1 k2 l) (k : Below wr.heap.size wr W) (hb : wr.heap.size ≤ b') (r : Row64 W b' l') : Lf w (((W.setCell ⟨kb, 0, none⟩ (.int .i64 x0)).setCell ⟨kb, 1, none⟩ (.int .i64 x1)).setCell ⟨kb, 2, none⟩ (.int .i64 x2)) kb b' x0 x1 x2 l' := by
  have lt := h.lt
  have kp : W.heap[kb]? = some (.cells ([.int .i64 k0, .int .i64 k1, .int .i64 k2] : List Value).toArray 23 (0, 0)) := (k.block _ lt).trans h.kp
  have T := ((((Turn.refl kb W).set 0 (.int .i64 x0)).set 1 (.int .i64 x1)).set 2 (.int .i64 x2))
  refine ⟨?_, (T.block b' (row_lt r) (fun e => by simp at e; omega)).trans r, h.kw, (h.bl.trans (k.mono h.bl.size)).trans (T.below h.kw (by have := h.bl.size; have := k.size; omega))⟩
  rw [set_row (set_row (set_row kp _) _) _]
  rfl
theorem Lf.turn {w wr u : World} {kb b ib : Nat} {k0 k1 k2 : Int} {l : List Int} (h : Lf w wr kb b k0 k1 k2 l) (k : Turn ib wr u) (hk : kb ≠ ib) (hb : b ≠ ib) (hw : w.heap.size ≤ ib) : Lf w u kb b k0 k1 k2 l :=
  ⟨(k.block _ h.lt (fun e => hk (by simpa using e))).trans h.kp, (k.block _ (row_lt h.row) (fun e => hb (by simpa using e))).trans h.row, h.kw, h.bl.trans (k.below hw h.bl.size)⟩
theorem row_set {w : World} {b j : Nat} {l : List Int} (r : Row64 w b l) (x : Int) : Row64 (w.setCell ⟨b, j, none⟩ (.int .i64 x)) b (l.set j x) := by
  show _ = _
  rw [set_row r, ← i64s_set]
/-- A slice of arrays of so many bools. -/
def Bl (w : World) (ao : Option Addr) (m n : Nat) (f : Nat → Nat → Bool) : Prop := 0 < n → ∃ b off, ao = some ⟨b, off, none⟩ ∧ ∀ j k, j < n → k < m → w.cell? ⟨b, off + j * m + k, none⟩ = some (.bool (f j k))
theorem ctu_is {f0 f1 was : Bool} {pv c y t : Int} (hp : -32768 ≤ pv ∧ pv ≤ 32767) (hc : -32768 ≤ c ∧ c ≤ 32767) : stp 3 [b01 f0, b01 f1, pv] [y, c] (b01 was) 0 0 t = ctu f0 f1 pv c (b01 was) 0 0 := by
  simp only [stp, List.getD_cons_zero, List.getD_cons_succ]
  rw [w16_is hp.1 hp.2, w16_is hc.1 hc.2, show w32 0 = 0 from rfl]
  cases f0 <;> cases f1 <;> cases was <;> rfl
theorem ctd_is {f0 f1 was : Bool} {pv c y t : Int} (hp : -32768 ≤ pv ∧ pv ≤ 32767) (hc : -32768 ≤ c ∧ c ≤ 32767) : stp 4 [b01 f0, b01 f1, pv] [y, c] (b01 was) 0 0 t = ctd f0 f1 pv c (b01 was) 0 0 := by
  simp only [stp, List.getD_cons_zero, List.getD_cons_succ]
  rw [w16_is hp.1 hp.2, w16_is hc.1 hc.2, show w32 0 = 0 from rfl]
  cases f0 <;> cases f1 <;> cases was <;> rfl
end Go.Proofs.Ytbpnaenineinmaa
