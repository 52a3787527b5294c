/- The walks of machineOf, pinsOf (stage 17). -/
import Derived.Test.YtbpnaenineinmaaF1
namespace Go.Proofs.Ytbpnaenineinmaa
open Go.RowKit
open Fb
/-- No block bears this name. -/
def Nob (s : ByteArray) : Prop := ∀ k, k < 10 → (s.toList == nml k) = false
/-- A row of pins in memory. -/
def prow (l : List (List UInt8 × Int)) : List Value := l.flatMap fun p => [.string (tx p.1), .int .i64 p.2]
theorem prow_len (l : List (List UInt8 × Int)) : (prow l).length = 2 * l.length := by
  induction l with
  | nil => rfl
  | cons a l ih => simp only [prow, List.flatMap_cons, List.length_append, List.length_cons, List.length_nil] at *; omega
def pwd (w : World) (k : Nat) : World := (w.alloc (.cells (prow (pI k)).toArray 86)).alloc (.cells (prow (pO k)).toArray 86)
set_option maxHeartbeats 400000 in
theorem mach_0 (w : World) : Calls Try.prog 17 #[.string (nm 0)] w fun e w' => e = .returned (.iface 73 (.agg #[])) ∧ w' = w := by
  unfold nm nml tx
  go_enter Try.func17, Try.ntmps17
  go_wp2
  go_ret
  exact ⟨rfl, rfl⟩
set_option maxHeartbeats 400000 in
theorem pinsOf_0 (w : World) : Calls Try.prog 27 #[.string (nm 0)] w fun e w' => e = .returned (.tuple #[.slice (some ⟨w.heap.size, 0, none⟩) (pI 0).length (pI 0).length, .slice (some ⟨w.heap.size + 1, 0, none⟩) (pO 0).length (pO 0).length]) ∧ w' = pwd w 0 := by
  unfold nm nml tx
  go_enter Try.func27, Try.ntmps27
  go_wp2
  go_ret2
  exact ⟨by simp [pI, pO], rfl⟩
set_option maxHeartbeats 400000 in
theorem mach_1 (w : World) : Calls Try.prog 17 #[.string (nm 1)] w fun e w' => e = .returned (.iface 74 (.agg #[])) ∧ w' = w := by
  unfold nm nml tx
  go_enter Try.func17, Try.ntmps17
  go_wp2
  go_ret
  exact ⟨rfl, rfl⟩
set_option maxHeartbeats 400000 in
theorem pinsOf_1 (w : World) : Calls Try.prog 27 #[.string (nm 1)] w fun e w' => e = .returned (.tuple #[.slice (some ⟨w.heap.size, 0, none⟩) (pI 1).length (pI 1).length, .slice (some ⟨w.heap.size + 1, 0, none⟩) (pO 1).length (pO 1).length]) ∧ w' = pwd w 1 := by
  unfold nm nml tx
  go_enter Try.func27, Try.ntmps27
  go_wp2
  go_ret2
  exact ⟨by simp [pI, pO], rfl⟩
set_option maxHeartbeats 400000 in
theorem mach_2 (w : World) : Calls Try.prog 17 #[.string (nm 2)] w fun e w' => e = .returned (.iface 75 (.agg #[])) ∧ w' = w := by
  unfold nm nml tx
  go_enter Try.func17, Try.ntmps17
  go_wp2
  go_ret
  exact ⟨rfl, rfl⟩
set_option maxHeartbeats 400000 in
theorem pinsOf_2 (w : World) : Calls Try.prog 27 #[.string (nm 2)] w fun e w' => e = .returned (.tuple #[.slice (some ⟨w.heap.size, 0, none⟩) (pI 2).length (pI 2).length, .slice (some ⟨w.heap.size + 1, 0, none⟩) (pO 2).length (pO 2).length]) ∧ w' = pwd w 2 := by
  unfold nm nml tx
  go_enter Try.func27, Try.ntmps27
  go_wp2
  go_ret2
  exact ⟨by simp [pI, pO], rfl⟩
set_option maxHeartbeats 400000 in
theorem mach_3 (w : World) : Calls Try.prog 17 #[.string (nm 3)] w fun e w' => e = .returned (.iface 70 (.agg #[])) ∧ w' = w := by
  unfold nm nml tx
  go_enter Try.func17, Try.ntmps17
  go_wp2
  go_ret
  exact ⟨rfl, rfl⟩
set_option maxHeartbeats 400000 in
theorem pinsOf_3 (w : World) : Calls Try.prog 27 #[.string (nm 3)] w fun e w' => e = .returned (.tuple #[.slice (some ⟨w.heap.size, 0, none⟩) (pI 3).length (pI 3).length, .slice (some ⟨w.heap.size + 1, 0, none⟩) (pO 3).length (pO 3).length]) ∧ w' = pwd w 3 := by
  unfold nm nml tx
  go_enter Try.func27, Try.ntmps27
  go_wp2
  go_ret2
  exact ⟨by simp [pI, pO], rfl⟩
set_option maxHeartbeats 400000 in
theorem mach_4 (w : World) : Calls Try.prog 17 #[.string (nm 4)] w fun e w' => e = .returned (.iface 71 (.agg #[])) ∧ w' = w := by
  unfold nm nml tx
  go_enter Try.func17, Try.ntmps17
  go_wp2
  go_ret
  exact ⟨rfl, rfl⟩
set_option maxHeartbeats 400000 in
theorem pinsOf_4 (w : World) : Calls Try.prog 27 #[.string (nm 4)] w fun e w' => e = .returned (.tuple #[.slice (some ⟨w.heap.size, 0, none⟩) (pI 4).length (pI 4).length, .slice (some ⟨w.heap.size + 1, 0, none⟩) (pO 4).length (pO 4).length]) ∧ w' = pwd w 4 := by
  unfold nm nml tx
  go_enter Try.func27, Try.ntmps27
  go_wp2
  go_ret2
  exact ⟨by simp [pI, pO], rfl⟩
set_option maxHeartbeats 400000 in
theorem mach_5 (w : World) : Calls Try.prog 17 #[.string (nm 5)] w fun e w' => e = .returned (.iface 72 (.agg #[])) ∧ w' = w := by
  unfold nm nml tx
  go_enter Try.func17, Try.ntmps17
  go_wp2
  go_ret
  exact ⟨rfl, rfl⟩
set_option maxHeartbeats 400000 in
theorem pinsOf_5 (w : World) : Calls Try.prog 27 #[.string (nm 5)] w fun e w' => e = .returned (.tuple #[.slice (some ⟨w.heap.size, 0, none⟩) (pI 5).length (pI 5).length, .slice (some ⟨w.heap.size + 1, 0, none⟩) (pO 5).length (pO 5).length]) ∧ w' = pwd w 5 := by
  unfold nm nml tx
  go_enter Try.func27, Try.ntmps27
  go_wp2
  go_ret2
  exact ⟨by simp [pI, pO], rfl⟩
set_option maxHeartbeats 400000 in
theorem mach_6 (w : World) : Calls Try.prog 17 #[.string (nm 6)] w fun e w' => e = .returned (.iface 66 (.agg #[])) ∧ w' = w := by
  unfold nm nml tx
  go_enter Try.func17, Try.ntmps17
  go_wp2
  go_ret
  exact ⟨rfl, rfl⟩
set_option maxHeartbeats 400000 in
theorem pinsOf_6 (w : World) : Calls Try.prog 27 #[.string (nm 6)] w fun e w' => e = .returned (.tuple #[.slice (some ⟨w.heap.size, 0, none⟩) (pI 6).length (pI 6).length, .slice (some ⟨w.heap.size + 1, 0, none⟩) (pO 6).length (pO 6).length]) ∧ w' = pwd w 6 := by
  unfold nm nml tx
  go_enter Try.func27, Try.ntmps27
  go_wp2
  go_ret2
  exact ⟨by simp [pI, pO], rfl⟩
set_option maxHeartbeats 400000 in
theorem mach_7 (w : World) : Calls Try.prog 17 #[.string (nm 7)] w fun e w' => e = .returned (.iface 67 (.agg #[])) ∧ w' = w := by
  unfold nm nml tx
  go_enter Try.func17, Try.ntmps17
  go_wp2
  go_ret
  exact ⟨rfl, rfl⟩
set_option maxHeartbeats 400000 in
theorem pinsOf_7 (w : World) : Calls Try.prog 27 #[.string (nm 7)] w fun e w' => e = .returned (.tuple #[.slice (some ⟨w.heap.size, 0, none⟩) (pI 7).length (pI 7).length, .slice (some ⟨w.heap.size + 1, 0, none⟩) (pO 7).length (pO 7).length]) ∧ w' = pwd w 7 := by
  unfold nm nml tx
  go_enter Try.func27, Try.ntmps27
  go_wp2
  go_ret2
  exact ⟨by simp [pI, pO], rfl⟩
set_option maxHeartbeats 400000 in
theorem mach_8 (w : World) : Calls Try.prog 17 #[.string (nm 8)] w fun e w' => e = .returned (.iface 68 (.agg #[])) ∧ w' = w := by
  unfold nm nml tx
  go_enter Try.func17, Try.ntmps17
  go_wp2
  go_ret
  exact ⟨rfl, rfl⟩
set_option maxHeartbeats 400000 in
theorem pinsOf_8 (w : World) : Calls Try.prog 27 #[.string (nm 8)] w fun e w' => e = .returned (.tuple #[.slice (some ⟨w.heap.size, 0, none⟩) (pI 8).length (pI 8).length, .slice (some ⟨w.heap.size + 1, 0, none⟩) (pO 8).length (pO 8).length]) ∧ w' = pwd w 8 := by
  unfold nm nml tx
  go_enter Try.func27, Try.ntmps27
  go_wp2
  go_ret2
  exact ⟨by simp [pI, pO], rfl⟩
set_option maxHeartbeats 400000 in
theorem mach_9 (w : World) : Calls Try.prog 17 #[.string (nm 9)] w fun e w' => e = .returned (.iface 69 (.agg #[])) ∧ w' = w := by
  unfold nm nml tx
  go_enter Try.func17, Try.ntmps17
  go_wp2
  go_ret
  exact ⟨rfl, rfl⟩
set_option maxHeartbeats 400000 in
theorem pinsOf_9 (w : World) : Calls Try.prog 27 #[.string (nm 9)] w fun e w' => e = .returned (.tuple #[.slice (some ⟨w.heap.size, 0, none⟩) (pI 9).length (pI 9).length, .slice (some ⟨w.heap.size + 1, 0, none⟩) (pO 9).length (pO 9).length]) ∧ w' = pwd w 9 := by
  unfold nm nml tx
  go_enter Try.func27, Try.ntmps27
  go_wp2
  go_ret2
  exact ⟨by simp [pI, pO], rfl⟩
set_option maxHeartbeats 400000 in
theorem mach_none (s : ByteArray) (h : Nob s) (w : World) : Calls Try.prog 17 #[.string s] w fun e w' => e = .returned .nilIface ∧ w' = w := by
  have h0 := h 0 (by decide)
  have h1 := h 1 (by decide)
  have h2 := h 2 (by decide)
  have h3 := h 3 (by decide)
  have h4 := h 4 (by decide)
  have h5 := h 5 (by decide)
  have h6 := h 6 (by decide)
  have h7 := h 7 (by decide)
  have h8 := h 8 (by decide)
  have h9 := h 9 (by decide)
  simp only [nml] at h0 h1 h2 h3 h4 h5 h6 h7 h8 h9
  clear h
  go_enter Try.func17, Try.ntmps17
  go_wp2
  go_ret
  exact ⟨rfl, rfl⟩
theorem pinsOf_c (k : Nat) (hk : k < 10) (w : World) : Calls Try.prog 27 #[.string (nm k)] w fun e w' => e = .returned (.tuple #[.slice (some ⟨w.heap.size, 0, none⟩) (pI k).length (pI k).length, .slice (some ⟨w.heap.size + 1, 0, none⟩) (pO k).length (pO k).length]) ∧ w' = pwd w k := by
  match k, hk with
  | 0, _ => exact pinsOf_0 w
  | 1, _ => exact pinsOf_1 w
  | 2, _ => exact pinsOf_2 w
  | 3, _ => exact pinsOf_3 w
  | 4, _ => exact pinsOf_4 w
  | 5, _ => exact pinsOf_5 w
  | 6, _ => exact pinsOf_6 w
  | 7, _ => exact pinsOf_7 w
  | 8, _ => exact pinsOf_8 w
  | 9, _ => exact pinsOf_9 w
end Go.Proofs.Ytbpnaenineinmaa
