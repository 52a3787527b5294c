/- The walks: New, Left, Waits. -/
import Derived.Test.YtgmbboimndepnaaL1
namespace Go.Proofs.Ytgmbboimndepnaa
open Go.RowKit
open Pdu
set_option maxHeartbeats 800000 in
theorem left_c {w : World} {g : Nat} {l : LS} (s : Ln w g l) : Calls Try.prog 16 #[.pointer (some ⟨g, 0, none⟩)] w fun e w' => e = .returned (.int .i64 (l.h : Int)) ∧ w' = w := by
  have hc := s.cHeld
  clear s
  go_enter Try.func16, Try.ntmps16
  go_wp2
  go_ret
  exact ⟨rfl, rfl⟩
set_option maxHeartbeats 800000 in
theorem waits_c {w : World} {g : Nat} {l : LS} (s : Ln w g l) : Calls Try.prog 17 #[.pointer (some ⟨g, 0, none⟩)] w fun e w' => e = .returned (.int .i64 (l.n : Int)) ∧ w' = w := by
  have hc := s.cWaits
  clear s
  go_enter Try.func17, Try.ntmps17
  go_wp2
  go_ret
  exact ⟨rfl, rfl⟩
/-- A new line's cells. -/
def zN (u s : Value) : Array Value := #[u, s, .int .i64 0] ++ Array.replicate 257 (.int .u8 0) ++ #[.int .i64 0, .int .u8 0, .slice none 0 0, .int .u8 0, .slice none 0 0, .int .u8 0, .slice none 0 0, .int .u8 0, .slice none 0 0, .int .u8 0, .slice none 0 0, .int .u8 0, .slice none 0 0, .int .u8 0, .slice none 0 0, .int .u8 0, .slice none 0 0, .int .i64 0, .int .i64 0]
theorem zN_is (u s : Value) : (zL.setIfInBounds 0 u).setIfInBounds 1 s = zN u s := by kernel_rfl
theorem zL_size : zL.size = 279 := by kernel_rfl
theorem zN_row (u s : Nat) : zN (.int .u8 (u : Int)) (.int .i64 (s : Int)) = (new0 u s).row.toArray := by
  apply Array.ext'
  unfold zN LS.row new0 u8s ws0
  rw [List.map_replicate, Array.toList_append, Array.toList_append, Array.toList_replicate]
  rfl
theorem zN_ln (u s : Nat) (w : World) (hu : u < 256) : Ln (w.alloc (.cells (zN (.int .u8 (u : Int)) (.int .i64 (s : Int))) 52)) w.heap.size (new0 u s) :=
  ⟨by rw [← zN_row]; exact heap_alloc_new w _, List.length_replicate, fun x hx => by rw [List.eq_of_mem_replicate hx]; decide, Nat.zero_le _, rfl, (show (0 : Nat) < 8 by decide), Nat.zero_le _, hu⟩
set_option maxRecDepth 100000 in
set_option maxHeartbeats 800000 in
theorem new_a (u s : Nat) (k : Int) (w : World) (hs : (k < 1 ∧ s = 1) ∨ (¬ k < 1 ∧ k = s)) : Calls Try.prog 7 #[.int .u8 (u : Int), .int .i64 k] w fun e w' => e = .returned (.pointer (some ⟨w.heap.size, 0, none⟩)) ∧ w' = w.alloc (.cells (zN (.int .u8 (u : Int)) (.int .i64 (s : Int))) 52) := by
  have hz := zL_zero
  have h0 : ¬ zL = #[] := fun h => by have := congrArg Array.size h; rw [zL_size] at this; cases this
  have h2 : ¬ zL.size < 2 := by rw [zL_size]; decide
  rw [← zN_is]
  generalize zL = z at hz h0 h2 ⊢
  rcases hs with ⟨h1, rfl⟩ | ⟨h1, rfl⟩
  · go_enter Try.func7, Try.ntmps7
    go_wp2
    go_ret
    exact ⟨rfl, rfl⟩
  · go_enter Try.func7, Try.ntmps7
    go_wp2
    go_ret
    exact ⟨rfl, rfl⟩
theorem new_c (u s : Nat) (k : Int) (w : World) (hu : u < 256) (hs : (k < 1 ∧ s = 1) ∨ (¬ k < 1 ∧ k = s)) : Calls Try.prog 7 #[.int .u8 (u : Int), .int .i64 k] w fun e w' => e = .returned (.pointer (some ⟨w.heap.size, 0, none⟩)) ∧ Ln w' w.heap.size (new0 u s) ∧ Below w.heap.size w w' ∧ w'.heap.size = w.heap.size + 1 := by
  refine (new_a u s k w hs).mono ?_
  rintro e w' ⟨rfl, rfl⟩
  exact ⟨rfl, zN_ln u s w hu, below_new (Below.refl _ w) _, World.size_alloc ..⟩
end Go.Proofs.Ytgmbboimndepnaa
