/- The walk of BlockPlays, every script (stage 8). -/
import Derived.Test.YtkjbgjiddpkcpaaPLX
import Derived.Test.YtkjbgjiddpkcpaaOpenS
namespace Go.Proofs.Ytkjbgjiddpkcpaa
open Go.RowKit
open Pdu
theorem plays_law {x0 x1 : Int} {n c : Nat} {ao : Option Addr} {L : List Stp} {w : World} (hn : n = L.length) (hn9 : n ≤ 9223372036854775807) (hbig : ∀ x ∈ L, x.b.length ≤ 140737488355328)
    (hF : 0 < n → ∃ lb lo, ao = some ⟨lb, lo, none⟩ ∧ ∀ i x, L[i]? = some x → StepAt w lb lo i x) :
    Calls Try.prog 3 #[.int .i64 x0, .int .i64 x1, .slice ao n c] w fun e w' => e = .returned (.bool true) ∧ Below w.heap.size w w' := by
  refine plays_w (min (max x0 1) 64).toNat (min (max x1 16) 300).toNat n c x0 x1 ao L w ?_ ?_ hn hn9 hbig hF
  · omega
  · omega
end Go.Proofs.Ytkjbgjiddpkcpaa
