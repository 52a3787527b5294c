/- The walk of comeTo, where it was already (stage 20). -/
import Derived.Test.YtkknfolahfmghaaDoorM2
namespace Go.Proofs.YtkknfolahfmghaaDoor
open Go.RowKit
open Fb Cod
/-- But for three blocks nothing that there was has turned. -/
def Oth (w w' : World) (g m : Nat) (b : Option Nat) : Prop := ∀ j, j < w.heap.size → j ≠ g → j ≠ m → some j ≠ b → w'.heap[j]? = w.heap[j]?
theorem Oth.below {w w' : World} {g m : Nat} {b : Option Nat} (h : Below w.heap.size w w') : Oth w w' g m b := fun j hj _ _ _ => h.block j hj
theorem alloc_row (w : World) (l : List Value) (t : TypeId) : (w.alloc (.cells l.toArray t)).heap[w.heap.size]? = some (.cells l.toArray t (0, 0)) := heap_alloc_new w _
theorem new_drew (w : World) (o : Obj) : Below w.heap.size w (w.alloc o).drew := below_and (below_new1 w o) (Same.drew _).below
set_option maxHeartbeats 3200000 in
set_option maxRecDepth 100000 in
theorem come_k1 {B : Nat} {w : World} {g m : Nat} {lv wv : Value} {S T : List (Nat × Nat)} {wr : Nat} (i d q r : Nat) (f : Nat) (u : Nat → Nat) (h : Wy B w g m lv wv S T wr) (hl : (Instr.lookup 90 (.map (some m)) (.int .i64 (i : Int)) true).run Tryd.prog w = .ok (.tuple #[.agg #[.int .i64 (f : Int), .int .u64 (u 0 : Nat), .int .u64 (u 1 : Nat), .int .u64 (u 2 : Nat), .int .u64 (u 3 : Nat), .int .u64 (u 4 : Nat)], .bool true]) w)
    (hf : f = d) (hu : u q < 18446744073709551616) (hq : d = q * 64 + r) (hr : r < 64) (hq5 : q < 5) (hs : (u q).testBit r = true) :
    Calls Tryd.prog 44 #[.pointer (some ⟨g, 0, none⟩), .int .i64 (i : Int), .int .i64 (d : Int)] w fun e w' => e = .returned (.tuple #[]) ∧ Below w.heap.size w w' := by
  have c1 := h.c1
  have e1 : (d : Int) / 64 = (q : Int) := by omega
  have e1n : d / 64 = q := by omega
  have e2 : (d : Int) % 64 = (r : Int) := by omega
  have e2n : d % 64 = r := by omega
  have e3n : r % 64 = r := by omega
  have q5 : (q : Int) < 5 := by omega
  have e4 := pow_wrap hr
  have tb := bit_yes hu hr hs
  have hb : ((d : Int) != (d : Int)) = false := by simp
  subst hf
  have cq : (w.alloc (.cells #[.int .i64 (f : Int), .int .u64 (u 0 : Nat), .int .u64 (u 1 : Nat), .int .u64 (u 2 : Nat), .int .u64 (u 3 : Nat), .int .u64 (u 4 : Nat)] 101)).cell? ⟨w.heap.size, 1 + q, none⟩ = some (.int .u64 (u q : Nat)) := cell_row (l := mrow f u) (alloc_row w (mrow f u) 101) (mrow_at f u q hq5)
  have HQ := hid_as hq
  clear h hq hu hs
  generalize 2 ^ r = pw at *
  go_enter Tryd.func44, Tryd.ntmps44
  go_wp2
  go_region
  go_wp2
  (try simp only [Exit.inBlock, Exit.then])
  refine bodyPost_ret (results_none rfl _ _ _) rfl ?_
  exact ⟨rfl, new_drew _ _⟩
set_option maxHeartbeats 3200000 in
set_option maxRecDepth 100000 in
theorem come_k2 {B : Nat} {w : World} {g m : Nat} {lv wv : Value} {S T : List (Nat × Nat)} {wr : Nat} (i d q r : Nat) (f : Nat) (u : Nat → Nat) (h : Wy B w g m lv wv S T wr) (hl : (Instr.lookup 90 (.map (some m)) (.int .i64 (i : Int)) true).run Tryd.prog w = .ok (.tuple #[.agg #[.int .i64 (f : Int), .int .u64 (u 0 : Nat), .int .u64 (u 1 : Nat), .int .u64 (u 2 : Nat), .int .u64 (u 3 : Nat), .int .u64 (u 4 : Nat)], .bool true]) w)
    (hf : f ≠ d) (hu : u q < 18446744073709551616) (hq : d = q * 64 + r) (hr : r < 64) (hq5 : q < 5) (hs : (u q).testBit r = true) (hB : B ≤ w.heap.size) :
    Calls Tryd.prog 44 #[.pointer (some ⟨g, 0, none⟩), .int .i64 (i : Int), .int .i64 (d : Int)] w fun e w' => e = .returned (.tuple #[]) ∧ Wy B w' g m lv wv S T (min wr i) ∧ Below B w w' ∧ Oth w w' g m wv.ownBlock := by
  have c1 := h.c1
  have e1 : (d : Int) / 64 = (q : Int) := by omega
  have e1n : d / 64 = q := by omega
  have e2 : (d : Int) % 64 = (r : Int) := by omega
  have e2n : d % 64 = r := by omega
  have e3n : r % 64 = r := by omega
  have q5 : (q : Int) < 5 := by omega
  have e4 := pow_wrap hr
  have tb := bit_yes hu hr hs
  have hb : ((d : Int) != (f : Int)) = true := by rw [bne_iff_ne]; omega
  have FC : Hid (Calls Tryd.prog 58 #[.pointer (some ⟨g, 0, none⟩), .int .i64 (i : Int)] (w.alloc (.cells #[.int .i64 (f : Int), .int .u64 (u 0 : Nat), .int .u64 (u 1 : Nat), .int .u64 (u 2 : Nat), .int .u64 (u 3 : Nat), .int .u64 (u 4 : Nat)] 101)) fun e w' => e = .returned (.tuple #[]) ∧ Wy B w' g m lv wv S T (min wr i) ∧ (Below B w w' ∧ Oth w w' g m wv.ownBlock) ∧ w'.cell? ⟨w.heap.size, 1 + q, none⟩ = some (.int .u64 (u q : Nat))) := by
    refine (fail_c i (h.below (below_new1 w _))).mono ?_
    rintro e w' ⟨rfl, hw, ht⟩
    refine ⟨rfl, hw, ⟨((below_new1 w _).mono hB).trans (ht.below h.gB (by simp; omega)), fun j hj h1 _ _ => (ht.block j (by simp; omega) (fun e => h1 (by simpa using e))).trans ((below_new1 w _).block j hj)⟩, cell_row (l := mrow f u) (t := 101) ?_ (mrow_at f u q hq5)⟩
    rw [ht.block _ (by simp) (fun e => by have := h.glt; simp at e; omega)]
    exact alloc_row w (mrow f u) 101
  have HQ := hid_as hq
  clear h hq hu hs
  generalize 2 ^ r = pw at *
  go_enter Tryd.func44, Tryd.ntmps44
  go_wp2_with (go_at_call 58; refine FC.out.mono ?_; rintro e w1 ⟨rfl, hw1, hb1, cq⟩)
  have R := hid_as (And.intro hw1 hb1)
  clear hw1 hb1 FC
  go_region
  go_wp2
  (try simp only [Exit.inBlock, Exit.then])
  refine bodyPost_ret (results_none rfl _ _ _) rfl ?_
  exact ⟨rfl, R.out.1.same (Same.drew _), R.out.2.1.trans ((Same.drew _).below.mono (by have := R.out.2.1.size; omega)), fun j a1 a2 a3 a4 => R.out.2.2 j a1 a2 a3 a4⟩
theorem Wy.row_ne {B : Nat} {w : World} {g m : Nat} {lv wv : Value} {S T : List (Nat × Nat)} {wr : Nat} (h : Wy B w g m lv wv S T wr) : m ≠ w.heap.size ∧ g ≠ w.heap.size := by
  obtain ⟨F, hF, _⟩ := h.map
  have := hF.lt
  have := h.glt
  omega
end Go.Proofs.YtkknfolahfmghaaDoor
