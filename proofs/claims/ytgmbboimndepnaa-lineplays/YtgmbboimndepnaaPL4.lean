/- The walk of LinePlays, every script. -/
import Derived.Test.YtgmbboimndepnaaPX
import Derived.Test.YtgmbboimndepnaaOpenS
namespace Go.Proofs.Ytgmbboimndepnaa
open Go.RowKit
open Pdu
theorem plays_law {u n c : Nat} {k : Int} {ao : Option Addr} {L : List Stp} {w : World} (hu : u < 256) (hk : k ≤ 9223372036854775807) (hn : n = L.length) (hn9 : n ≤ 9223372036854775807) (hbig : ∀ x ∈ L, x.b.length ≤ 140737488355328)
    (hF : 0 < n → ∃ lb lo, ao = some ⟨lb, lo, none⟩ ∧ ∀ i x, L[i]? = some x → StepAt w lb lo i x) :
    Calls Try.prog 3 #[.int .u8 (u : Int), .int .i64 k, .slice ao n c] w fun e w' => e = .returned (.bool true) ∧ Below w.heap.size w w' := by
  by_cases h : k < 1
  · exact plays_w u 1 n c k ao L w hu (Or.inl ⟨h, rfl⟩) (by omega) hn hn9 hbig hF
  · exact plays_w u k.toNat n c k ao L w hu (Or.inr ⟨by omega, by omega⟩) (by omega) hn hn9 hbig hF
end Go.Proofs.Ytgmbboimndepnaa
