/- A table of depths (stage 13). -/
import Derived.Test.YtgdoanhemgklpaaGreatDoorVU0
namespace Go.Proofs.YtgdoanhemgklpaaGreatDoor
open Go.RowKit
open Adr Lx Sx
set_option maxRecDepth 1000000 in
theorem chE_1_0 : ∀ n : Fin 8, chE [45] [] 1 (0 + n) = true := by decide +kernel
set_option maxRecDepth 1000000 in
theorem chE_1_8 : ∀ n : Fin 8, chE [45] [] 1 (8 + n) = true := by decide +kernel
set_option maxRecDepth 1000000 in
theorem chE_1_16 : ∀ n : Fin 8, chE [45] [] 1 (16 + n) = true := by decide +kernel
set_option maxRecDepth 1000000 in
theorem chE_1_24 : ∀ n : Fin 8, chE [45] [] 1 (24 + n) = true := by decide +kernel
set_option maxRecDepth 1000000 in
theorem chE_1_32 : ∀ n : Fin 8, chE [45] [] 1 (32 + n) = true := by decide +kernel
set_option maxRecDepth 1000000 in
theorem chE_1_40 : ∀ n : Fin 8, chE [45] [] 1 (40 + n) = true := by decide +kernel
set_option maxRecDepth 1000000 in
theorem chE_1_48 : ∀ n : Fin 8, chE [45] [] 1 (48 + n) = true := by decide +kernel
set_option maxRecDepth 1000000 in
theorem chE_1_56 : ∀ n : Fin 8, chE [45] [] 1 (56 + n) = true := by decide +kernel
set_option maxRecDepth 1000000 in
theorem chE_1_64 : ∀ n : Fin 8, chE [45] [] 1 (64 + n) = true := by decide +kernel
set_option maxRecDepth 1000000 in
theorem chE_1_72 : ∀ n : Fin 8, chE [45] [] 1 (72 + n) = true := by decide +kernel
theorem chE_1 (N : Nat) (h1 : 0 ≤ N) (h2 : N < 80) : chE [45] [] 1 N = true := by
  by_cases c0 : N < 8
  · have q := chE_1_0 ⟨N - 0, by omega⟩; rw [show 0 + (⟨N - 0, by omega⟩ : Fin 8).val = N by show 0 + (N - 0) = N; omega] at q; exact q
  ·
    by_cases c8 : N < 16
    · have q := chE_1_8 ⟨N - 8, by omega⟩; rw [show 8 + (⟨N - 8, by omega⟩ : Fin 8).val = N by show 8 + (N - 8) = N; omega] at q; exact q
    ·
      by_cases c16 : N < 24
      · have q := chE_1_16 ⟨N - 16, by omega⟩; rw [show 16 + (⟨N - 16, by omega⟩ : Fin 8).val = N by show 16 + (N - 16) = N; omega] at q; exact q
      ·
        by_cases c24 : N < 32
        · have q := chE_1_24 ⟨N - 24, by omega⟩; rw [show 24 + (⟨N - 24, by omega⟩ : Fin 8).val = N by show 24 + (N - 24) = N; omega] at q; exact q
        ·
          by_cases c32 : N < 40
          · have q := chE_1_32 ⟨N - 32, by omega⟩; rw [show 32 + (⟨N - 32, by omega⟩ : Fin 8).val = N by show 32 + (N - 32) = N; omega] at q; exact q
          ·
            by_cases c40 : N < 48
            · have q := chE_1_40 ⟨N - 40, by omega⟩; rw [show 40 + (⟨N - 40, by omega⟩ : Fin 8).val = N by show 40 + (N - 40) = N; omega] at q; exact q
            ·
              by_cases c48 : N < 56
              · have q := chE_1_48 ⟨N - 48, by omega⟩; rw [show 48 + (⟨N - 48, by omega⟩ : Fin 8).val = N by show 48 + (N - 48) = N; omega] at q; exact q
              ·
                by_cases c56 : N < 64
                · have q := chE_1_56 ⟨N - 56, by omega⟩; rw [show 56 + (⟨N - 56, by omega⟩ : Fin 8).val = N by show 56 + (N - 56) = N; omega] at q; exact q
                ·
                  by_cases c64 : N < 72
                  · have q := chE_1_64 ⟨N - 64, by omega⟩; rw [show 64 + (⟨N - 64, by omega⟩ : Fin 8).val = N by show 64 + (N - 64) = N; omega] at q; exact q
                  ·
                    have q := chE_1_72 ⟨N - 72, by omega⟩; rw [show 72 + (⟨N - 72, by omega⟩ : Fin 8).val = N by show 72 + (N - 72) = N; omega] at q; exact q
end Go.Proofs.YtgdoanhemgklpaaGreatDoor
