/- A table of depths (stage 13). -/
import Derived.Test.YtgdoanhemgklpaaGreatDoorVU0
namespace Go.Proofs.YtgdoanhemgklpaaGreatDoor
open Go.RowKit
open Adr Lx Sx
set_option maxRecDepth 1000000 in
theorem chP_0_0 : ∀ n : Fin 8, chP (0 + n) = true := by decide +kernel
set_option maxRecDepth 1000000 in
theorem chP_0_8 : ∀ n : Fin 8, chP (8 + n) = true := by decide +kernel
set_option maxRecDepth 1000000 in
theorem chP_0_16 : ∀ n : Fin 8, chP (16 + n) = true := by decide +kernel
set_option maxRecDepth 1000000 in
theorem chP_0_24 : ∀ n : Fin 8, chP (24 + n) = true := by decide +kernel
theorem chP_0 (N : Nat) (h1 : 0 ≤ N) (h2 : N < 32) : chP N = true := by
  by_cases c0 : N < 8
  · have q := chP_0_0 ⟨N - 0, by omega⟩; rw [show 0 + (⟨N - 0, by omega⟩ : Fin 8).val = N by show 0 + (N - 0) = N; omega] at q; exact q
  ·
    by_cases c8 : N < 16
    · have q := chP_0_8 ⟨N - 8, by omega⟩; rw [show 8 + (⟨N - 8, by omega⟩ : Fin 8).val = N by show 8 + (N - 8) = N; omega] at q; exact q
    ·
      by_cases c16 : N < 24
      · have q := chP_0_16 ⟨N - 16, by omega⟩; rw [show 16 + (⟨N - 16, by omega⟩ : Fin 8).val = N by show 16 + (N - 16) = N; omega] at q; exact q
      ·
        have q := chP_0_24 ⟨N - 24, by omega⟩; rw [show 24 + (⟨N - 24, by omega⟩ : Fin 8).val = N by show 24 + (N - 24) = N; omega] at q; exact q
end Go.Proofs.YtgdoanhemgklpaaGreatDoor
