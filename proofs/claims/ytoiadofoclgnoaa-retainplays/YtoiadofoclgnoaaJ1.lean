/- A journal and a view in memory; the walks of holdsSlots, Room, newest (stage 9). -/
import Derived.Test.YtoiadofoclgnoaaW4
import Derived.Test.YtoiadofoclgnoaaW5
namespace Go.Proofs.Ytoiadofoclgnoaa
open Go.RowKit
open Pdu
/-- What a journal holds. -/
structure JS where
  n : Nat
  set : Bool
  slot : Nat
  turn : Nat
  scan : Nat
  laid : Nat
structure Jn (w : World) (gj g : Nat) (J : JS) : Prop where
  box : w.heap[gj]? = some (.cells ([.pointer (some ⟨g, 0, none⟩), .int .i64 (J.n : Int), .bool J.set, .int .i64 (J.slot : Int), .int .u64 (J.turn : Int), .int .u64 (J.scan : Int), .int .u64 (J.laid : Int)] : List Value).toArray 59 (0, 0))
/-- A view's cells. -/
def vwc (R : Nat → Rc) (V : Nat → Value) (bg : Bool) : List Value := [.int .u64 ((R 0).t : Int), .int .u64 ((R 0).s : Int), V 0, .int .u64 ((R 1).t : Int), .int .u64 ((R 1).s : Int), V 1, .int .u64 ((R 2).t : Int), .int .u64 ((R 2).s : Int), V 2, .int .u64 ((R 3).t : Int), .int .u64 ((R 3).s : Int), V 3, .bool bg]
def vwa (R : Nat → Rc) (V : Nat → Value) : Array Value := #[.int .u64 ((R 0).t : Int), .int .u64 ((R 0).s : Int), V 0, .int .u64 ((R 1).t : Int), .int .u64 ((R 1).s : Int), V 1, .int .u64 ((R 2).t : Int), .int .u64 ((R 2).s : Int), V 2, .int .u64 ((R 3).t : Int), .int .u64 ((R 3).s : Int), V 3]
structure Vw (w : World) (gv base : Nat) (R : Nat → Rc) (V : Nat → Value) (bg : Bool) : Prop where
  box : w.heap[gv]? = some (.cells (vwc R V bg).toArray 64 (0, 0))
  own : ∀ i, i < 4 → w.ownsRow base 2 1 (V i) (R i).l.length (i64s (R i).l)
theorem own64_below {w u : World} {base n : Nat} {v : Value} {vs : List Value} (h : w.ownsRow base 2 1 v n vs) (k : Below w.heap.size w u) : u.ownsRow base 2 1 v n vs := own_below h k (Nat.le_refl _)
theorem Vw.below {w u : World} {gv base : Nat} {R : Nat → Rc} {V : Nat → Value} {bg : Bool} (h : Vw w gv base R V bg) (k : Below w.heap.size w u) : Vw u gv base R V bg := ⟨(k.block _ (Array.getElem?_eq_some_iff.1 h.box).1).trans h.box, fun i hi => own64_below (h.own i hi) k⟩
theorem Vw.cells {w : World} {gv base : Nat} {R : Nat → Rc} {V : Nat → Value} {bg : Bool} (h : Vw w gv base R V bg) {j : Nat} (hj : j < 4) : w.cell? ⟨gv, j * 3, none⟩ = some (.int .u64 ((R j).t : Int)) ∧ w.cell? ⟨gv, j * 3 + 1, none⟩ = some (.int .u64 ((R j).s : Int)) ∧ w.cell? ⟨gv, j * 3 + 2, none⟩ = some (V j) := by
  have hc : j = 0 ∨ j = 1 ∨ j = 2 ∨ j = 3 := by omega
  rcases hc with rfl | rfl | rfl | rfl <;> exact ⟨cell_row h.box rfl, cell_row h.box rfl, cell_row h.box rfl⟩
theorem Vw.shape {w : World} {gv base : Nat} {R : Nat → Rc} {V : Nat → Value} {bg : Bool} (h : Vw w gv base R V bg) {j : Nat} (hj : j < 4) : ∃ ao c, V j = .slice ao (R j).l.length c := by
  have := (own_sl (h.own j hj)).shape
  rw [i64s_len] at this
  exact this
/-- May this record be the one? -/
def okr (R : Nat → Rc) (n : Int) (i : Nat) : Prop := (R i).t ≠ 0 ∧ (n = -1 ∨ n = ((R i).l.length : Int))
/-- The newest of the first k. -/
def NwK (R : Nat → Rc) (n : Int) (k : Nat) (at_ : Int) : Prop := (at_ = -1 ∧ ∀ i, i < k → ¬ okr R n i) ∨ ∃ j : Nat, j < k ∧ at_ = j ∧ okr R n j ∧ ∀ i, i < k → okr R n i → (R i).t ≤ (R j).t
theorem NwK.skip {R : Nat → Rc} {n : Int} {k : Nat} {a : Int} (h : NwK R n k a) (hk : ¬ okr R n k) : NwK R n (k + 1) a := by
  rcases h with ⟨rfl, h⟩ | ⟨j, hj, rfl, ho, h⟩
  · exact Or.inl ⟨rfl, fun i hi q => (Nat.lt_succ_iff_lt_or_eq.1 hi).elim (fun z => h i z q) (fun z => hk (z ▸ q))⟩
  · exact Or.inr ⟨j, by omega, rfl, ho, fun i hi q => (Nat.lt_succ_iff_lt_or_eq.1 hi).elim (fun z => h i z q) (fun z => absurd (z ▸ q) hk)⟩
theorem NwK.first {R : Nat → Rc} {n : Int} {k : Nat} (h : NwK R n k (-1)) (hk : okr R n k) : NwK R n (k + 1) k := by
  rcases h with ⟨_, h⟩ | ⟨j, hj, e, _⟩
  · exact Or.inr ⟨k, by omega, rfl, hk, fun i hi q => (Nat.lt_succ_iff_lt_or_eq.1 hi).elim (fun z => absurd q (h i z)) (fun z => by rw [z]; exact Nat.le_refl _)⟩
  · omega
theorem NwK.more {R : Nat → Rc} {n : Int} {k j : Nat} (h : NwK R n k j) (hk : okr R n k) (hg : (R j).t < (R k).t) : NwK R n (k + 1) k := by
  rcases h with ⟨e, _⟩ | ⟨j', hj, e, _, h⟩
  · omega
  · obtain rfl : j = j' := by omega
    exact Or.inr ⟨k, by omega, rfl, hk, fun i hi q => (Nat.lt_succ_iff_lt_or_eq.1 hi).elim (fun z => by have := h i z q; omega) (fun z => by rw [z]; exact Nat.le_refl _)⟩
theorem NwK.stay {R : Nat → Rc} {n : Int} {k j : Nat} (h : NwK R n k j) (hg : (R k).t ≤ (R j).t) : NwK R n (k + 1) j := by
  rcases h with ⟨e, _⟩ | ⟨j', hj, e, ho, h⟩
  · omega
  · obtain rfl : j = j' := by omega
    exact Or.inr ⟨j, by omega, rfl, ho, fun i hi q => (Nat.lt_succ_iff_lt_or_eq.1 hi).elim (fun z => h i z q) (fun z => by rw [z]; exact hg)⟩
theorem idx12_0 (R : Nat → Rc) (V : Nat → Value) (W : World) : (Instr.index 62 (.agg (vwa R V)) (.int .i64 0)).run Try.prog W = .ok (RcV (R 0).t (R 0).s (V 0)) W := by kernel_rfl
theorem idx12_1 (R : Nat → Rc) (V : Nat → Value) (W : World) : (Instr.index 62 (.agg (vwa R V)) (.int .i64 1)).run Try.prog W = .ok (RcV (R 1).t (R 1).s (V 1)) W := by kernel_rfl
theorem idx12_2 (R : Nat → Rc) (V : Nat → Value) (W : World) : (Instr.index 62 (.agg (vwa R V)) (.int .i64 2)).run Try.prog W = .ok (RcV (R 2).t (R 2).s (V 2)) W := by kernel_rfl
theorem idx12_3 (R : Nat → Rc) (V : Nat → Value) (W : World) : (Instr.index 62 (.agg (vwa R V)) (.int .i64 3)).run Try.prog W = .ok (RcV (R 3).t (R 3).s (V 3)) W := by kernel_rfl
theorem idx12 (R : Nat → Rc) (V : Nat → Value) (W : World) {k : Nat} (hk : k < 4) : (Instr.index 62 (.agg (vwa R V)) (.int .i64 (k : Int))).run Try.prog W = .ok (RcV (R k).t (R k).s (V k)) W := by
  have hc : k = 0 ∨ k = 1 ∨ k = 2 ∨ k = 3 := by omega
  rcases hc with rfl | rfl | rfl | rfl
  · exact idx12_0 R V W
  · exact idx12_1 R V W
  · exact idx12_2 R V W
  · exact idx12_3 R V W
set_option maxHeartbeats 800000 in
theorem holds_c {w : World} {g h : Nat} {s : SS} (t : St w g h s) : Calls Try.prog 26 #[.pointer (some ⟨g, 0, none⟩)] w fun e w' => e = .returned (.bool (decide (4 ≤ s.rows.length ∧ 64 ≤ s.sz))) ∧ Same w w' := by
  have B := hid_as (blocks_c t)
  have Z := hid_as (fun W (k : Same w W) => size_c (t.same k))
  clear t
  generalize s.rows.length = nb at *
  generalize s.sz = z at *
  by_cases h1 : 4 ≤ nb
  · have d1 : decide ((4 : Int) ≤ (nb : Int)) = true := decide_eq_true (by omega)
    have d2 : (4 : Int) ≤ (nb : Int) := by omega
    go_enter Try.func26, Try.ntmps26
    go_wp2_with fail
    refine B.out.mono ?_
    rintro e w1 ⟨rfl, k1⟩
    have K1 := hid_as k1
    clear k1 B
    go_wp2_with fail
    refine (Z.out _ K1.out).mono ?_
    rintro e w2 ⟨rfl, hw⟩
    subst w2
    clear Z
    go_wp2
    go_ret
    refine ⟨?_, K1.out⟩
    congr 2
    have : (64 : Int) ≤ (z : Int) ↔ (4 ≤ nb ∧ 64 ≤ z) := by omega
    simp [this]
  · have d2 : ¬ (4 : Int) ≤ (nb : Int) := by omega
    have d1 : decide ((4 : Int) ≤ (nb : Int)) = false := decide_eq_false d2
    go_enter Try.func26, Try.ntmps26
    go_wp2_with fail
    refine B.out.mono ?_
    rintro e w1 ⟨rfl, k1⟩
    have K1 := hid_as k1
    clear k1 B Z
    go_wp2
    go_ret
    refine ⟨?_, K1.out⟩
    congr 2
    simp [h1]
/-- How many numbers there is room for. -/
def SS.fit (s : SS) : Bool := decide (4 ≤ s.rows.length ∧ 64 ≤ s.sz)
def SS.room (s : SS) : Nat := if s.fit = true then (s.sz - 36) / 8 else 0
set_option maxHeartbeats 800000 in
theorem room_c {w : World} {g h : Nat} {s : SS} (t : St w g h s) : Calls Try.prog 12 #[.pointer (some ⟨g, 0, none⟩)] w fun e w' => e = .returned (.int .i64 (s.room : Int)) ∧ Same w w' := by
  have B := hid_as (holds_c t)
  have Z := hid_as (fun W (k : Same w W) => size_c (t.same k))
  have hz := t.ok.hi
  have HR : Hid (s.room = if s.fit = true then (s.sz - 36) / 8 else 0) := rfl
  have HF : Hid (s.fit = decide (4 ≤ s.rows.length ∧ 64 ≤ s.sz)) := rfl
  rw [← HF.out] at B
  clear t
  generalize s.room = r at *
  by_cases hf : s.fit = true
  · have h64 : 64 ≤ s.sz := by
      have := hf
      rw [HF.out, decide_eq_true_eq] at this
      exact this.2
    rw [hf] at B
    have HR2 : Hid (r = (s.sz - 36) / 8) := by have := HR.out; rw [if_pos hf] at this; exact this
    have FI := hid_as (fun W => fits_c s.sz W (by omega) (by omega))
    clear HR HF hf
    go_enter Try.func12, Try.ntmps12
    go_wp2_with fail
    refine B.out.mono ?_
    rintro e w1 ⟨rfl, k1⟩
    have K1 := hid_as k1
    clear k1 B
    go_wp2_with fail
    refine (Z.out _ K1.out).mono ?_
    rintro e w2 ⟨rfl, hw⟩
    subst w2
    go_wp2_with fail
    refine (FI.out _).mono ?_
    rintro e w2 ⟨rfl, hw⟩
    subst w2
    clear Z FI
    go_wp2
    go_ret
    exact ⟨by rw [HR2.out]; rfl, K1.out⟩
  · have hf : s.fit = false := by simpa using hf
    rw [hf] at B
    have HR2 : Hid (r = 0) := by have := HR.out; rw [hf] at this; exact this
    clear HR HF hf Z
    go_enter Try.func12, Try.ntmps12
    go_wp2_with fail
    refine B.out.mono ?_
    rintro e w1 ⟨rfl, k1⟩
    have K1 := hid_as k1
    clear k1 B
    go_wp2
    go_ret
    exact ⟨by rw [HR2.out]; rfl, K1.out⟩
end Go.Proofs.Ytoiadofoclgnoaa
