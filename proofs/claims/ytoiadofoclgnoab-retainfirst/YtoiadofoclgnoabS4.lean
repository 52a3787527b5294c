/- The walks of a store's Spoil, Copy, New (stage 9). -/
import Derived.Test.YtoiadofoclgnoabS3
namespace Go.Proofs.Ytoiadofoclgnoab
open Go.RowKit
open Pdu
set_option maxHeartbeats 800000 in
theorem newb_c (nb sz : Nat) (b z : Int) (w : World) (hb : (b < 1 ∧ (nb : Int) = 1) ∨ (64 < b ∧ (nb : Int) = 64) ∨ (1 ≤ b ∧ b ≤ 64 ∧ (nb : Int) = b)) (hz : (z < 16 ∧ (sz : Int) = 16) ∨ (4096 < z ∧ (sz : Int) = 4096) ∨ (16 ≤ z ∧ z ≤ 4096 ∧ (sz : Int) = z)) :
    Calls Try.prog 14 #[.int .i64 b, .int .i64 z] w fun e w' => e = .returned (.pointer (some ⟨w.heap.size + 1, 0, none⟩)) ∧ St w' (w.heap.size + 1) w.heap.size (SS.new nb sz) ∧ Below w.heap.size w w' ∧ w'.heap.size = w.heap.size + 2 := by
  have X1 := hid_as (within_c b 1 64 nb w (by decide) hb)
  have X2 := hid_as (within_c z 16 4096 sz w (by decide) hz)
  have h1 : 16 ≤ sz ∧ sz ≤ 4096 := by omega
  have h2 : 1 ≤ nb ∧ nb ≤ 64 := by omega
  have hp : (nb : Int) * (sz : Int) = ((nb * sz : Nat) : Int) := (Int.natCast_mul ..).symm
  have hL : nb * sz ≤ 262144 := Nat.mul_le_mul h2.2 h1.2
  obtain ⟨w1, hm, hb1, k1, sz1⟩ := mk_run w (nb * sz) (by omega)
  have FIN : Hid (∀ W, W = w1.alloc (.cells #[.int .i64 (sz : Int), .slice (some ⟨w.heap.size, 0, none⟩) (nb * sz) (nb * sz), .int .i64 0, .bool false, .int .i64 (-1), .int .i64 0] 59) → St W (w.heap.size + 1) w.heap.size (SS.new nb sz) ∧ Below w.heap.size w W ∧ W.heap.size = w.heap.size + 2) := by
    rintro W rfl
    refine ⟨⟨?_, ?_, SS.new_ok h1.1 h1.2 h2.1 h2.2, Int.le_refl _, by show (0 : Int) ≤ (sz : Int); omega⟩, below_new k1 _, by rw [World.size_alloc, sz1]⟩
    · rw [← sz1, heap_alloc_new]
      simp [SS.new]
    · rw [Below.heap_alloc _ _ _ (by rw [sz1]; omega), hb1]
      show _ = some (Obj.cells (u8s (List.replicate nb (List.replicate sz 0)).flatten).toArray 5 (0, 0))
      rw [flat_zeros]
  have SZ := hid_as sz1
  clear hb1 k1 h1 h2 hb hz sz1
  generalize nb * sz = L at *
  go_enter Try.func14, Try.ntmps14
  go_wp2_with fail
  refine X1.out.mono ?_
  rintro e wx ⟨rfl, hw⟩
  subst wx
  go_wp2_with fail
  refine X2.out.mono ?_
  rintro e wx ⟨rfl, hw⟩
  subst wx
  clear X1 X2
  go_wp2
  rw [SZ.out]
  go_ret
  exact ⟨rfl, FIN.out _ rfl⟩
end Go.Proofs.Ytoiadofoclgnoab
