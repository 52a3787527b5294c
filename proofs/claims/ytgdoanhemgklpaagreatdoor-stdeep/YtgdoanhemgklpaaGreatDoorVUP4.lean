/- A table of depths (stage 13). -/
import Derived.Test.YtgdoanhemgklpaaGreatDoorVU0
namespace Go.Proofs.YtgdoanhemgklpaaGreatDoor
open Go.RowKit
open Adr Lx Sx
set_option maxRecDepth 1000000 in
theorem chP_4_0 : ∀ n : Fin 2, chP (64 + n) = true := by decide +kernel
set_option maxRecDepth 1000000 in
theorem chP_4_2 : ∀ n : Fin 2, chP (66 + n) = true := by decide +kernel
set_option maxRecDepth 1000000 in
theorem chP_4_4 : ∀ n : Fin 2, chP (68 + n) = true := by decide +kernel
set_option maxRecDepth 1000000 in
theorem chP_4_6 : ∀ n : Fin 2, chP (70 + n) = true := by decide +kernel
theorem chP_4 (N : Nat) (h1 : 64 ≤ N) (h2 : N < 72) : chP N = true := by
  by_cases c0 : N < 66
  · have q := chP_4_0 ⟨N - 64, by omega⟩; rw [show 64 + (⟨N - 64, by omega⟩ : Fin 2).val = N by show 64 + (N - 64) = N; omega] at q; exact q
  ·
    by_cases c2 : N < 68
    · have q := chP_4_2 ⟨N - 66, by omega⟩; rw [show 66 + (⟨N - 66, by omega⟩ : Fin 2).val = N by show 66 + (N - 66) = N; omega] at q; exact q
    ·
      by_cases c4 : N < 70
      · have q := chP_4_4 ⟨N - 68, by omega⟩; rw [show 68 + (⟨N - 68, by omega⟩ : Fin 2).val = N by show 68 + (N - 68) = N; omega] at q; exact q
      ·
        have q := chP_4_6 ⟨N - 70, by omega⟩; rw [show 70 + (⟨N - 70, by omega⟩ : Fin 2).val = N by show 70 + (N - 70) = N; omega] at q; exact q
end Go.Proofs.YtgdoanhemgklpaaGreatDoor
