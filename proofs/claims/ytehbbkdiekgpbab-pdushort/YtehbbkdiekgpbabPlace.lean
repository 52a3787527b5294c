/- The walk: a place out of any number. -/
import Derived.Test.YtehbbkdiekgpbabJ2
namespace Go.Proofs.Ytehbbkdiekgpbab
open Go.RowKit
open Pdu
set_option maxHeartbeats 1600000 in
theorem place_c (k : Int) (n : Nat) (hn : 0 < n) (hm : n ≤ 1000000) (w : World) : Calls Try.prog 11 #[.int .i64 k, .int .i64 n] w fun e w' => (∃ p : Nat, p < n ∧ e = .returned (.int .i64 p)) ∧ w' = w := by
  have hne : ¬ (n : Int) = 0 := by omega
  obtain ⟨t, ht⟩ : ∃ t, k.tmod n = t := ⟨_, rfl⟩
  have hb : t.natAbs < n := by
    rw [← ht, Int.natAbs_tmod]
    exact Nat.mod_lt _ (by omega)
  by_cases h0 : t < 0
  · have h1 : -(n : Int) < t := by omega
    clear hb
    go_enter Try.func11, Try.ntmps11
    go_wp2
    go_ret
    exact ⟨⟨(t + n).toNat, by omega, by rw [Int.toNat_of_nonneg (by omega)]; rfl⟩, rfl⟩
  · have h1 : t < n := by omega
    clear hb
    go_enter Try.func11, Try.ntmps11
    go_wp2
    go_ret
    exact ⟨⟨t.toNat, by omega, by rw [Int.toNat_of_nonneg (by omega)]; rfl⟩, rfl⟩
end Go.Proofs.Ytehbbkdiekgpbab
