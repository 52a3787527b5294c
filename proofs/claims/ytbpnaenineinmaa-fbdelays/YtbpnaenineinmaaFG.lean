/- Small things for Step (stage 17). -/
import Derived.Test.YtbpnaenineinmaaFE
namespace Go.Proofs.Ytbpnaenineinmaa
open Go.RowKit
open Fb
theorem own_lies {w : World} {base n g c : Nat} {e : TypeId} {vs : List Value} (h : w.ownsRow base e 1 (.slice (some ⟨g, 0, none⟩) n c) n vs) : Lies w g 0 vs := by
  intro k u hk
  have hl : k < vs.length := (List.getElem?_eq_some_iff.1 hk).1
  have h1 : vs.length = n := by simpa using h.1
  rw [Nat.zero_add, h.cellAt k (by omega), hk]
theorem pO_pos (k : Nat) (hk : k < 10) : 0 < (pO k).length := by
  match k, hk with
  | 0, _ => exact (by decide)
  | 1, _ => exact (by decide)
  | 2, _ => exact (by decide)
  | 3, _ => exact (by decide)
  | 4, _ => exact (by decide)
  | 5, _ => exact (by decide)
  | 6, _ => exact (by decide)
  | 7, _ => exact (by decide)
  | 8, _ => exact (by decide)
  | 9, _ => exact (by decide)
theorem two_new (w : World) (o0 o1 : Obj) : ((w.alloc o0).alloc o1).heap[w.heap.size]? = some o0 ∧ ((w.alloc o0).alloc o1).heap[w.heap.size + 1]? = some o1 ∧ ((w.alloc o0).alloc o1).heap.size = w.heap.size + 2 := by
  refine ⟨?_, ?_, by simp⟩
  · rw [Below.heap_alloc _ _ _ (by simp)]; exact heap_alloc_new w o0
  · have := heap_alloc_new (w.alloc o0) o1
    simpa using this
end Go.Proofs.Ytbpnaenineinmaa
