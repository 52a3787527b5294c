/- The walk: the reference reads a request: what serves all. -/
import Derived.Test.YtehbbkdiekgpbaaTKAll
import Derived.Test.YtehbbkdiekgpbaaJ3
namespace Go.Proofs.Ytehbbkdiekgpbaa
open Go.RowKit
open Pdu
theorem after_cut2 {w wc : World} {d : Nat} {o0 o2 : Obj} (h : wc = ((w.alloc o0).alloc o2).drewN d) : wc.heap[w.heap.size]? = some o0 ∧ wc.heap[w.heap.size + 1]? = some o2 ∧ Below w.heap.size w wc ∧ w.heap.size + 1 < wc.heap.size := by
  subst h
  have e1 : (w.alloc o0).heap.size = w.heap.size + 1 := World.size_alloc _ _
  have e2 : ((w.alloc o0).alloc o2).heap.size = w.heap.size + 1 + 1 := by rw [World.size_alloc, e1]
  refine ⟨?_, ?_, below_drewN (below_new (below_new (Below.refl _ w) _) _) d, ?_⟩
  · show ((w.alloc o0).alloc o2).heap[w.heap.size]? = some o0
    rw [Below.heap_alloc _ _ _ (by rw [e1]; omega)]
    exact heap_alloc_new w o0
  · show ((w.alloc o0).alloc o2).heap[w.heap.size + 1]? = some o2
    have h := heap_alloc_new (w.alloc o0) o2
    rw [e1] at h
    exact h
  · show w.heap.size + 1 < ((w.alloc o0).alloc o2).heap.size
    rw [e2]; omega
theorem Bs.atw {w : World} {b off n cap : Nat} {bs : List Nat} (h : Bs w b off n cap bs) (k : Nat) (ki : Int) (hki : ki = (k : Int)) (hk : k + 2 ≤ n) (hm : n ≤ 1000000) (W : World) (hW : Below w.heap.size w W) : Calls Try.prog 41 #[.slice (some ⟨b, off, none⟩) n cap, .int .i64 ki] W fun e w' => e = .returned (.int .u16 (wordAt bs k : Nat)) ∧ ∃ m, w' = W.drewN m := by
  have h' := h.below hW
  subst hki
  exact at_c b off n cap k (bs.getD k 0) (bs.getD (k + 1) 0) W (by omega) hm (h.bytes.at k) (h.bytes.at (k + 1)) (h'.at k (by omega)) (h'.at (k + 1) (by omega))
theorem lit_cell {w2 : World} {a : Addr} {v x : Value} {t : TypeId} (hsU : ∀ (a : Addr) (v : Value), (w2.setCell a v).heap.size = w2.heap.size) : ((w2.setCell a v).alloc (.cells #[x] t)).cell? ⟨w2.heap.size, 0, none⟩ = some x := by
  have h := World.cell?_alloc_new (w2.setCell a v) #[x] t 0
  rw [hsU] at h
  exact h
theorem sl_oneW {W : World} {g x : Nat} (h : W.cell? ⟨g, 0, none⟩ = some (.int .u16 x)) : Sl W (.slice (some ⟨g, 0, none⟩) 1 1) (u16s [x]) := by
  refine Or.inr ⟨g, 0, 1, rfl, Nat.le_refl _, fun k u hk => ?_⟩
  match k, hk with
  | 0, hk =>
    simp [u16s] at hk
    rw [← hk]
    exact h
theorem ws_two {bs : List Nat} (h : bs.length = 5) : ws (bs.drop 3) = [wordAt bs 3] := by
  match bs, h with
  | [a, b, c, d, e], _ => simp [ws, wordAt, List.range_succ]
end Go.Proofs.Ytehbbkdiekgpbaa
