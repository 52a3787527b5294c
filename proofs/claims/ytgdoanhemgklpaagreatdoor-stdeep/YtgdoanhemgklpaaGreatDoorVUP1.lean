/- A table of depths (stage 13). -/
import Derived.Test.YtgdoanhemgklpaaGreatDoorVU0
namespace Go.Proofs.YtgdoanhemgklpaaGreatDoor
open Go.RowKit
open Adr Lx Sx
set_option maxRecDepth 1000000 in
theorem chP_1_0 : ∀ n : Fin 4, chP (32 + n) = true := by decide +kernel
set_option maxRecDepth 1000000 in
theorem chP_1_4 : ∀ n : Fin 4, chP (36 + n) = true := by decide +kernel
set_option maxRecDepth 1000000 in
theorem chP_1_8 : ∀ n : Fin 4, chP (40 + n) = true := by decide +kernel
set_option maxRecDepth 1000000 in
theorem chP_1_12 : ∀ n : Fin 4, chP (44 + n) = true := by decide +kernel
theorem chP_1 (N : Nat) (h1 : 32 ≤ N) (h2 : N < 48) : chP N = true := by
  by_cases c0 : N < 36
  · have q := chP_1_0 ⟨N - 32, by omega⟩; rw [show 32 + (⟨N - 32, by omega⟩ : Fin 4).val = N by show 32 + (N - 32) = N; omega] at q; exact q
  ·
    by_cases c4 : N < 40
    · have q := chP_1_4 ⟨N - 36, by omega⟩; rw [show 36 + (⟨N - 36, by omega⟩ : Fin 4).val = N by show 36 + (N - 36) = N; omega] at q; exact q
    ·
      by_cases c8 : N < 44
      · have q := chP_1_8 ⟨N - 40, by omega⟩; rw [show 40 + (⟨N - 40, by omega⟩ : Fin 4).val = N by show 40 + (N - 40) = N; omega] at q; exact q
      ·
        have q := chP_1_12 ⟨N - 44, by omega⟩; rw [show 44 + (⟨N - 44, by omega⟩ : Fin 4).val = N by show 44 + (N - 44) = N; omega] at q; exact q
end Go.Proofs.YtgdoanhemgklpaaGreatDoor
