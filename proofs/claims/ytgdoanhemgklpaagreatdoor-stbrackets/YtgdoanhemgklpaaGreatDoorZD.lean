/- print: indices, calls (stage 13). -/
import Derived.Test.YtgdoanhemgklpaaGreatDoorZB
namespace Go.Proofs.YtgdoanhemgklpaaGreatDoor
open Go.RowKit
open Adr Lx Sx
set_option maxHeartbeats 4000000 in
set_option maxRecDepth 100000 in
theorem print_index (w : World) (g cap : Nat) (p : Int) (o1 k1 n1 : Int) (nm1 fl1 : ByteArray) (lp1 : Option Addr) (ln1 lc1 : Nat) (p1 : Int) (a b : List UInt8) (hg : g < w.heap.size) (hr : RowE w g 0 o1 k1 n1 nm1 fl1 (.slice lp1 ln1 lc1) p1) (C : Hid (∀ W, Below w.heap.size w W → Calls Tryz.prog 9 #[.agg #[.int .i64 o1, .int .i64 k1, .int .i64 n1, .string nm1, .string fl1, .slice lp1 ln1 lc1, .int .i64 p1]] W fun e w' => e = .returned (.string (tx b)) ∧ Below W.heap.size W w')) (ha : a.length ≤ 32) (hb : b.length ≤ 200000) : Calls Tryz.prog 9 #[.agg #[.int .i64 2, .int .i64 0, .int .i64 0, .string (tx a), .string ⟨#[]⟩, .slice (some ⟨g, 0, none⟩) 1 cap, .int .i64 p]] w fun e w' => e = .returned (.string (tx (a ++ [91] ++ b ++ [93]))) ∧ Below w.heap.size w w' := by
  have B0 := hid_as (Bk.fresh w #[.int .i64 2, .int .i64 0, .int .i64 0, .string (tx a), .string ⟨#[]⟩, .slice (some ⟨g, 0, none⟩) 1 cap, .int .i64 p] 25)
  have K0 := hid_as (below_new1 w (.cells #[.int .i64 2, .int .i64 0, .int .i64 0, .string (tx a), .string ⟨#[]⟩, .slice (some ⟨g, 0, none⟩) 1 cap, .int .i64 p] 25))
  have hs : (tx a).size ≤ 32 := by rw [tx_size]; exact ha
  have ht : (tx b).size ≤ 200000 := by rw [tx_size]; exact hb
  have R0 := hid_as (hr.below hg (below_new1 w (.cells #[.int .i64 2, .int .i64 0, .int .i64 0, .string (tx a), .string ⟨#[]⟩, .slice (some ⟨g, 0, none⟩) 1 cap, .int .i64 p] 25)))
  have T : Hid (tx a ++ tx [91] ++ tx b ++ tx [93] = tx (a ++ [91] ++ b ++ [93])) := hid_as (by rw [tx_app, tx_app, tx_app])
  generalize tx a = X at *
  generalize tx b = Y at *
  go_enter Tryz.func9, Tryz.ntmps9
  go_wp2
  obtain ⟨a0, a1, a2, a3, a4, a5, a6⟩ := R0.out
  obtain ⟨c0, c1, c2, c3, c4, c5, c6⟩ := bk7 B0.out
  generalize hV : w.alloc _ = V at *
  clear hV
  go_region_with (first
    | (go_at_call 9; (with_reducible refine (C.out _ ?_).mono ?_); (first | exact K0.out.drew | exact below_drewN K0.out _ | exact K0.out); rintro e w1 ⟨rfl, k1⟩; have K1 := hid_as (below_and (below_drewN K0.out 1) k1); have B1 := hid_as (B0.out.drew.below k1); obtain ⟨d0, d1, d2, d3, d4, d5, d6⟩ := bk7 B1.out; clear k1))
  all_goals go_wp2
  all_goals go_ret
  all_goals exact ⟨ret_strs T.out, K1.out⟩
end Go.Proofs.YtgdoanhemgklpaaGreatDoor
