/- The walk of CrcOnce where a list is too long. -/
import Derived.Test.YthhlahimaoiinaaKnown
namespace Go.Proofs.Ythhlahimaoiinaa
open Go.RowKit
open Crc
set_option maxRecDepth 100000 in
set_option maxHeartbeats 1600000 in
theorem once_big (ao aw : Option Addr) (N M cl cw : Nat) (w : World) (hN : N ≤ 9223372036854775807) (hM : M ≤ 9223372036854775807) (h : 40 < N ∨ 40 < M) :
    Calls Try.prog 6 #[.slice ao N cl, .slice aw M cw] w fun e w' => e = .returned (.bool true) ∧ Below w.heap.size w w' := by
  have hnot : ∀ (x : Bool) (w : World), (Op.unary .not (.bool x)).run Try.prog w = .ok (.bool (!x)) w := fun _ _ => rfl
  by_cases h1 : 40 < N
  · have hd1 : decide ((40 : Int) < N) = true := decide_eq_true (by omega)
    go_enter Try.func6, Try.ntmps6
    go_wp2_with (go_at_call 7; refine (known_c w).mono ?_; rintro e w1 ⟨rfl, k1⟩)
    go_ret
    exact ⟨rfl, k1⟩
  · have hd1 : decide ((40 : Int) < N) = false := decide_eq_false (by omega)
    have hd2 : decide ((40 : Int) < M) = true := decide_eq_true (by omega)
    go_enter Try.func6, Try.ntmps6
    go_wp2_with (go_at_call 7; refine (known_c w).mono ?_; rintro e w1 ⟨rfl, k1⟩)
    go_ret
    exact ⟨rfl, k1⟩
end Go.Proofs.Ythhlahimaoiinaa
