/- A table of depths (stage 13). -/
import Derived.Test.YtgdoanhemgklpaaGreatDoorVU0
namespace Go.Proofs.YtgdoanhemgklpaaGreatDoor
open Go.RowKit
open Adr Lx Sx
set_option maxRecDepth 1000000 in
theorem chP_2_0 : ∀ n : Fin 2, chP (48 + n) = true := by decide +kernel
set_option maxRecDepth 1000000 in
theorem chP_2_2 : ∀ n : Fin 2, chP (50 + n) = true := by decide +kernel
set_option maxRecDepth 1000000 in
theorem chP_2_4 : ∀ n : Fin 2, chP (52 + n) = true := by decide +kernel
set_option maxRecDepth 1000000 in
theorem chP_2_6 : ∀ n : Fin 2, chP (54 + n) = true := by decide +kernel
theorem chP_2 (N : Nat) (h1 : 48 ≤ N) (h2 : N < 56) : chP N = true := by
  by_cases c0 : N < 50
  · have q := chP_2_0 ⟨N - 48, by omega⟩; rw [show 48 + (⟨N - 48, by omega⟩ : Fin 2).val = N by show 48 + (N - 48) = N; omega] at q; exact q
  ·
    by_cases c2 : N < 52
    · have q := chP_2_2 ⟨N - 50, by omega⟩; rw [show 50 + (⟨N - 50, by omega⟩ : Fin 2).val = N by show 50 + (N - 50) = N; omega] at q; exact q
    ·
      by_cases c4 : N < 54
      · have q := chP_2_4 ⟨N - 52, by omega⟩; rw [show 52 + (⟨N - 52, by omega⟩ : Fin 2).val = N by show 52 + (N - 52) = N; omega] at q; exact q
      ·
        have q := chP_2_6 ⟨N - 54, by omega⟩; rw [show 54 + (⟨N - 54, by omega⟩ : Fin 2).val = N by show 54 + (N - 54) = N; omega] at q; exact q
end Go.Proofs.YtgdoanhemgklpaaGreatDoor
