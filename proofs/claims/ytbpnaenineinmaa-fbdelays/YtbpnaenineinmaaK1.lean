/- The chapter's sample, as the laws ask it (stage 17). -/
import Derived.Test.YtbpnaenineinmaaFF0
import Derived.Test.YtbpnaenineinmaaFF3
namespace Go.Proofs.Ytbpnaenineinmaa
open Go.RowKit
open Fb
theorem row_sl {w : World} {b n : Nat} {l : List Int} (r : Row64 w b l) (hn : n = l.length) : Sl w (.slice (some ⟨b, 0, none⟩) n n) (i64s l) := by
  subst hn
  refine Or.inr ⟨b, 0, l.length, by rw [i64s_len], by rw [i64s_len]; exact Nat.le_refl _, fun k u hk => ?_⟩
  rw [Nat.zero_add]
  exact cell_row r hk
theorem row_lt {w : World} {b : Nat} {l : List Int} (r : Row64 w b l) : b < w.heap.size := (Array.getElem?_eq_some_iff.1 r).1
theorem row_below {w u : World} {b : Nat} {l : List Int} (r : Row64 w b l) (k : Below w.heap.size w u) : Row64 u b l := (k.block _ (row_lt r)).trans r
theorem row_new (w : World) (l : List Int) : Row64 (w.alloc (.cells (i64s l).toArray 2)) w.heap.size l := heap_alloc_new w _
theorem sl_none (w : World) : Sl w (.slice none 0 0) (i64s []) := Sl.nil w
set_option maxRecDepth 100000 in
set_option maxHeartbeats 1600000 in
theorem known_c (w : World) : Calls Try.prog 9 #[] w fun e w' => e = .returned (.bool true) ∧ Below w.heap.size w w' := by
  go_enter Try.func9, Try.ntmps9
  have K0 : Hid (Below w.heap.size w (w.alloc (.cells #[.int .i64 1, .int .i64 10] 2))) := below_new (Below.refl _ _) _
  have R0 : Hid (Row64 (w.alloc (.cells #[.int .i64 1, .int .i64 10] 2)) w.heap.size [1, 10]) := row_new w [1, 10]
  have X := hid_as (step_0 (r := ⟨[0, 0], 1, 5, 0⟩) 0 0 0 5 (row_sl R0.out (n := 2) rfl) rfl (by decide) (sl_none (w.alloc (.cells #[.int .i64 1, .int .i64 10] 2))) rfl (by decide) (by kernel_rfl))
  unfold nm nml tx at X
  go_wp2_with fail
  refine X.out.mono ?_
  rintro e w1 ⟨b1, rfl, hb1, r1, k1⟩
  have K1 := hid_as (below_and K0.out k1)
  have R1 := hid_as r1
  clear X R0 K0 r1 k1 hb1
  have K2 : Hid (Below w1.heap.size w1 ((w1.alloc (.cells #[.int .i64 1, .int .i64 5, .int .i64 0] 23)).alloc (.cells #[.int .i64 1, .int .i64 10] 2))) := below_new (below_new (Below.refl _ _) _) _
  have R2 : Hid (Row64 ((w1.alloc (.cells #[.int .i64 1, .int .i64 5, .int .i64 0] 23)).alloc (.cells #[.int .i64 1, .int .i64 10] 2)) (w1.heap.size + 1) [1, 10]) := (two_new w1 _ _).2.1
  have X := hid_as (step_0 (r := ⟨[1, 10], 1, 5, 1⟩) 1 5 0 15 (row_sl R2.out (n := 2) rfl) rfl (by decide) (row_sl (row_below R1.out K2.out) (n := 2) rfl) rfl (by decide) (by kernel_rfl))
  unfold nm nml tx at X
  go_wp2_with fail
  refine X.out.mono ?_
  rintro e w2 ⟨b2, rfl, hb2, r2, k2⟩
  have K3 := hid_as (below_and K1.out (below_and K2.out k2))
  have R1 := hid_as (row_below (row_below R1.out K2.out) k2)
  have R2 := hid_as r2
  clear X K1 K2 r2 k2 hb2
  have K4 : Hid (Below w2.heap.size w2 ((w2.alloc (.cells #[.int .i64 1, .int .i64 5, .int .i64 1] 23)).alloc (.cells #[.int .i64 1, .int .i64 0, .int .i64 1] 2))) := below_new (below_new (Below.refl _ _) _) _
  have R3 : Hid (Row64 ((w2.alloc (.cells #[.int .i64 1, .int .i64 5, .int .i64 1] 23)).alloc (.cells #[.int .i64 1, .int .i64 0, .int .i64 1] 2)) (w2.heap.size + 1) [1, 0, 1]) := (two_new w2 _ _).2.1
  have X := hid_as (step_3 (r := ⟨[1, 1], 1, 0, 0⟩) 0 0 0 0 (row_sl R3.out (n := 3) rfl) rfl (by decide) (sl_none _) rfl (by decide) (by kernel_rfl))
  unfold nm nml tx at X
  go_wp2_with fail
  refine X.out.mono ?_
  rintro e w3 ⟨b3, rfl, hb3, r3, k3⟩
  have K5 := hid_as (below_and K3.out (below_and K4.out k3))
  have R1 := hid_as (row_below (row_below R1.out K4.out) k3)
  have R2 := hid_as (row_below (row_below R2.out K4.out) k3)
  have R3 := hid_as r3
  clear X K3 K4 r3 k3 hb3
  have K6 : Hid (Below w3.heap.size w3 ((w3.alloc (.cells #[.int .i64 1, .int .i64 0, .int .i64 0] 23)).alloc (.cells #[.int .i64 1, .int .i64 0, .int .i64 1] 2))) := below_new (below_new (Below.refl _ _) _) _
  have R4 : Hid (Row64 ((w3.alloc (.cells #[.int .i64 1, .int .i64 0, .int .i64 0] 23)).alloc (.cells #[.int .i64 1, .int .i64 0, .int .i64 1] 2)) (w3.heap.size + 1) [1, 0, 1]) := (two_new w3 _ _).2.1
  have X := hid_as (step_3 (r := ⟨[1, 1], 1, 0, 0⟩) 1 0 0 0 (row_sl R4.out (n := 3) rfl) rfl (by decide) (row_sl (row_below R3.out K6.out) (n := 2) rfl) rfl (by decide) (by kernel_rfl))
  unfold nm nml tx at X
  go_wp2_with fail
  refine X.out.mono ?_
  rintro e w4 ⟨b4, rfl, hb4, r4, k4⟩
  have K7 := hid_as (below_and K5.out (below_and K6.out k4))
  have R1 := hid_as (row_below (row_below R1.out K6.out) k4)
  have R2 := hid_as (row_below (row_below R2.out K6.out) k4)
  have R3 := hid_as (row_below (row_below R3.out K6.out) k4)
  have R4 := hid_as r4
  clear X K5 K6 r4 k4 hb4
  have K8 : Hid (Below w4.heap.size w4 ((w4.alloc (.cells #[.int .i64 1, .int .i64 0, .int .i64 0] 23)).alloc (.cells #[.int .i64 0, .int .i64 0] 2))) := below_new (below_new (Below.refl _ _) _) _
  have Q1 : Hid (Row64 ((w4.alloc (.cells #[.int .i64 1, .int .i64 0, .int .i64 0] 23)).alloc (.cells #[.int .i64 0, .int .i64 0] 2)) (w4.heap.size + 1) [0, 0]) := (two_new w4 _ _).2.1
  have X := hid_as (nums_c (row_sl (row_below R1.out K8.out) (n := 2) rfl) (row_sl Q1.out (n := 2) rfl) (by decide))
  rw [decide_eq_true (show ([0, 0] : List Int) = [0, 0] from rfl)] at X
  go_wp2_with fail
  refine X.out.mono ?_
  rintro e w5 ⟨rfl, s5⟩
  have K9 := hid_as (below_and K7.out (below_and K8.out s5.below))
  have R2 := hid_as (row_below (row_below R2.out K8.out) s5.below)
  have R3 := hid_as (row_below (row_below R3.out K8.out) s5.below)
  have R4 := hid_as (row_below (row_below R4.out K8.out) s5.below)
  clear X K7 K8 s5 Q1 R1
  have KA : Hid (Below w5.heap.size w5 (w5.alloc (.cells #[.int .i64 1, .int .i64 10] 2))) := below_new (Below.refl _ _) _
  have X := hid_as (nums_c (row_sl (row_below R2.out KA.out) (n := 2) rfl) (row_sl (row_new w5 [1, 10]) (n := 2) rfl) (by decide))
  rw [decide_eq_true (show ([1, 10] : List Int) = [1, 10] from rfl)] at X
  go_wp2_with fail
  refine X.out.mono ?_
  rintro e w6 ⟨rfl, s6⟩
  have KB := hid_as (below_and K9.out (below_and KA.out s6.below))
  have R3 := hid_as (row_below (row_below R3.out KA.out) s6.below)
  have R4 := hid_as (row_below (row_below R4.out KA.out) s6.below)
  clear X K9 KA s6 R2
  have KC : Hid (Below w6.heap.size w6 (w6.alloc (.cells #[.int .i64 1, .int .i64 1] 2))) := below_new (Below.refl _ _) _
  have X := hid_as (nums_c (row_sl (row_below R3.out KC.out) (n := 2) rfl) (row_sl (row_new w6 [1, 1]) (n := 2) rfl) (by decide))
  rw [decide_eq_true (show ([1, 1] : List Int) = [1, 1] from rfl)] at X
  go_wp2_with fail
  refine X.out.mono ?_
  rintro e w7 ⟨rfl, s7⟩
  have KD := hid_as (below_and KB.out (below_and KC.out s7.below))
  have R4 := hid_as (row_below (row_below R4.out KC.out) s7.below)
  clear X KB KC s7 R3
  have KE : Hid (Below w7.heap.size w7 (w7.alloc (.cells #[.int .i64 1, .int .i64 1] 2))) := below_new (Below.refl _ _) _
  have X := hid_as (nums_c (row_sl (row_below R4.out KE.out) (n := 2) rfl) (row_sl (row_new w7 [1, 1]) (n := 2) rfl) (by decide))
  rw [decide_eq_true (show ([1, 1] : List Int) = [1, 1] from rfl)] at X
  go_wp2_with fail
  refine X.out.mono ?_
  rintro e w8 ⟨rfl, s8⟩
  have KF := hid_as (below_and KD.out (below_and KE.out s8.below))
  clear X KD KE s8 R4
  go_wp2
  go_ret
  exact ⟨rfl, KF.out⟩
end Go.Proofs.Ytbpnaenineinmaa
