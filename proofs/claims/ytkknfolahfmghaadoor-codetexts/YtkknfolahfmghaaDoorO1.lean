/- The variables that the program lays: the handle, the table of the operators, the powers of ten (stage 20). -/
import Derived.Test.YtkknfolahfmghaaDoorM1
import Derived.Lib.LaidTab
import Derived.Lib.AppendIntMem
namespace Go.Proofs.YtkknfolahfmghaaDoor
open Go.RowKit
open Cod Fb
namespace Cod
def opw (k : Nat) : List UInt8 := [[], [112, 117, 115, 104], [108, 111, 97, 100], [115, 116, 111, 114, 101], [108, 111, 97, 100, 97, 116], [99, 104, 101, 99, 107, 97, 116], [115, 116, 111, 114, 101, 97, 116], [110, 101, 103], [110, 111, 116], [97, 112, 112, 108, 121], [99, 111, 110, 118, 101, 114, 116], [115, 104, 105, 102, 116], [97, 98, 115], [109, 105, 110], [109, 97, 120], [115, 101, 108], [100, 117, 112], [100, 114, 111, 112], [106, 117, 109, 112], [122, 101, 114, 111], [111, 116, 104, 101, 114], [115, 116, 101, 112], [99, 97, 108, 108], [101, 110, 100], [112, 105, 99, 107]].getD k []
end Cod
def opv (k : Nat) : List Value := [.string (tx (opw k)), .int .i64 (tk k : Nat), .int .i64 (pt k : Nat)]
def ops75 : List Value := (List.range 25).flatMap opv
theorem ops_len : ops75.length = 75 := by kernel_rfl
/-- The program's variables lie as it lays them. -/
structure Tabs (w : World) : Prop where
  err : w.cell? ⟨0, 0, none⟩ = some (.iface 111 (.agg #[.pointer (some ⟨5, 33, none⟩)]))
  ops : ∀ j u, ops75[j]? = some u → w.cell? ⟨1, j, none⟩ = some u
  pow : ∀ u : World, u.heap[2]? = w.heap[2]? → Lib.TabIs Tryd.prog u "internal/strconv.uint64pow10" .u64 Lib.pow10Tab
  big : 4 < w.heap.size
theorem Tabs.belowB {B : Nat} {w w' : World} (h : Tabs w) (hB : 5 ≤ B) (k : Below B w w') : Tabs w' := by
  have h5 := h.big
  exact ⟨(k.cell (p := ⟨0, 0, none⟩) (show 0 < _ by omega)).trans h.err, fun j u hj => (k.cell (p := ⟨1, j, none⟩) (show 1 < _ by omega)).trans (h.ops j u hj), fun u hu => h.pow u (hu.trans (k.block 2 (by omega))), Nat.lt_of_lt_of_le h5 k.size⟩
theorem Tabs.below {w w' : World} (h : Tabs w) (k : Below w.heap.size w w') : Tabs w' := h.belowB (by have := h.big; omega) k
theorem Tabs.tab {w : World} (h : Tabs w) : Lib.TabIs Tryd.prog w "internal/strconv.uint64pow10" .u64 Lib.pow10Tab := h.pow w rfl
theorem Tabs.same {w w' : World} (h : Tabs w) (k : Same w w') : Tabs w' := h.below k.below
theorem flat3 {f : Nat → List Value} (hf : ∀ k, (f k).length = 3) : ∀ (n k j : Nat), k < n → j < 3 → ((List.range n).flatMap f)[k * 3 + j]? = (f k)[j]?
  | 0, k, j, h, _ => absurd h (Nat.not_lt_zero _)
  | n + 1, k, j, h, hj => by
    have hl : ∀ m, ((List.range m).flatMap f).length = m * 3 := fun m => by
      induction m with
      | zero => rfl
      | succ m ih => rw [List.range_succ, List.flatMap_append, List.length_append, ih]; simp [hf]; omega
    rw [List.range_succ, List.flatMap_append]
    by_cases hk : k < n
    · rw [List.getElem?_append_left (by rw [hl]; omega)]
      exact flat3 hf n k j hk hj
    · have : k = n := by omega
      subst this
      rw [List.getElem?_append_right (by rw [hl]; omega), hl, show k * 3 + j - k * 3 = j by omega]
      simp
theorem Tabs.at_ {w : World} (h : Tabs w) {k : Nat} (hk : k < 25) : w.cell? ⟨1, k * 3, none⟩ = some (.string (tx (opw k))) ∧ w.cell? ⟨1, k * 3 + 1, none⟩ = some (.int .i64 (tk k : Nat)) ∧ w.cell? ⟨1, k * 3 + 2, none⟩ = some (.int .i64 (pt k : Nat)) := by
  have e : ∀ j, j < 3 → ops75[k * 3 + j]? = (opv k)[j]? := fun j hj => flat3 (f := opv) (fun _ => rfl) 25 k j hk hj
  exact ⟨h.ops _ _ (e 0 (by omega)), h.ops _ _ (e 1 (by omega)), h.ops _ _ (e 2 (by omega))⟩
end Go.Proofs.YtkknfolahfmghaaDoor
