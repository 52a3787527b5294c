/- A table of depths (stage 13). -/
import Derived.Test.YtgdoanhemgklpaaGreatDoorVU0
namespace Go.Proofs.YtgdoanhemgklpaaGreatDoor
open Go.RowKit
open Adr Lx Sx
set_option maxRecDepth 1000000 in
theorem chP_3_0 : ∀ n : Fin 2, chP (56 + n) = true := by decide +kernel
set_option maxRecDepth 1000000 in
theorem chP_3_2 : ∀ n : Fin 2, chP (58 + n) = true := by decide +kernel
set_option maxRecDepth 1000000 in
theorem chP_3_4 : ∀ n : Fin 2, chP (60 + n) = true := by decide +kernel
set_option maxRecDepth 1000000 in
theorem chP_3_6 : ∀ n : Fin 2, chP (62 + n) = true := by decide +kernel
theorem chP_3 (N : Nat) (h1 : 56 ≤ N) (h2 : N < 64) : chP N = true := by
  by_cases c0 : N < 58
  · have q := chP_3_0 ⟨N - 56, by omega⟩; rw [show 56 + (⟨N - 56, by omega⟩ : Fin 2).val = N by show 56 + (N - 56) = N; omega] at q; exact q
  ·
    by_cases c2 : N < 60
    · have q := chP_3_2 ⟨N - 58, by omega⟩; rw [show 58 + (⟨N - 58, by omega⟩ : Fin 2).val = N by show 58 + (N - 58) = N; omega] at q; exact q
    ·
      by_cases c4 : N < 62
      · have q := chP_3_4 ⟨N - 60, by omega⟩; rw [show 60 + (⟨N - 60, by omega⟩ : Fin 2).val = N by show 60 + (N - 60) = N; omega] at q; exact q
      ·
        have q := chP_3_6 ⟨N - 62, by omega⟩; rw [show 62 + (⟨N - 62, by omega⟩ : Fin 2).val = N by show 62 + (N - 62) = N; omega] at q; exact q
end Go.Proofs.YtgdoanhemgklpaaGreatDoor
