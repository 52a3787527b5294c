/- A table of depths (stage 13). -/
import Derived.Test.YtgdoanhemgklpaaGreatDoorVU0
namespace Go.Proofs.YtgdoanhemgklpaaGreatDoor
open Go.RowKit
open Adr Lx Sx
set_option maxRecDepth 1000000 in
theorem chP_5_0 : ∀ n : Fin 2, chP (72 + n) = true := by decide +kernel
set_option maxRecDepth 1000000 in
theorem chP_5_2 : ∀ n : Fin 2, chP (74 + n) = true := by decide +kernel
set_option maxRecDepth 1000000 in
theorem chP_5_4 : ∀ n : Fin 2, chP (76 + n) = true := by decide +kernel
set_option maxRecDepth 1000000 in
theorem chP_5_6 : ∀ n : Fin 2, chP (78 + n) = true := by decide +kernel
theorem chP_5 (N : Nat) (h1 : 72 ≤ N) (h2 : N < 80) : chP N = true := by
  by_cases c0 : N < 74
  · have q := chP_5_0 ⟨N - 72, by omega⟩; rw [show 72 + (⟨N - 72, by omega⟩ : Fin 2).val = N by show 72 + (N - 72) = N; omega] at q; exact q
  ·
    by_cases c2 : N < 76
    · have q := chP_5_2 ⟨N - 74, by omega⟩; rw [show 74 + (⟨N - 74, by omega⟩ : Fin 2).val = N by show 74 + (N - 74) = N; omega] at q; exact q
    ·
      by_cases c4 : N < 78
      · have q := chP_5_4 ⟨N - 76, by omega⟩; rw [show 76 + (⟨N - 76, by omega⟩ : Fin 2).val = N by show 76 + (N - 76) = N; omega] at q; exact q
      ·
        have q := chP_5_6 ⟨N - 78, by omega⟩; rw [show 78 + (⟨N - 78, by omega⟩ : Fin 2).val = N by show 78 + (N - 78) = N; omega] at q; exact q
end Go.Proofs.YtgdoanhemgklpaaGreatDoor
