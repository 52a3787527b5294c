/- RetainPlays: no steps, too many, the law whole (stage 9). -/
import Derived.Test.YtoiadofoclgnoaaPLX
namespace Go.Proofs.Ytoiadofoclgnoaa
open Go.RowKit
open Pdu
set_option maxRecDepth 100000 in
set_option maxHeartbeats 4000000 in
theorem plays_zero (size n : Int) (c : Nat) (ao : Option Addr) (w : World) :
    Calls Try.prog 3 #[.int .i64 size, .int .i64 n, .slice ao 0 c] w fun e w' => e = .returned (.bool true) ∧ Below w.heap.size w w' := by
  have KN := hid_as (known_c w)
  go_enter Try.func3, Try.ntmps3
  go_wp2_with fail
  with_reducible refine KN.out.mono ?_
  rintro e w1 ⟨rfl, k1⟩
  have K1 := hid_as k1
  have ST := hid_as (store_c size w1)
  clear KN k1
  go_wp2_with fail
  with_reducible refine ST.out.mono ?_
  rintro e w2 ⟨z, hz1, hz2, rfl, t2, k2⟩
  have RM := hid_as (room_c t2)
  rw [new_room hz1] at RM
  have T2 := hid_as t2
  have K2 := hid_as (below_and K1.out k2)
  have GZ : Hid (w.heap.size ≤ w1.heap.size) := K1.out.size
  have GY : Hid (w.heap.size ≤ w1.heap.size + 1) := Nat.le_succ_of_le K1.out.size
  clear ST t2 k2 K1
  generalize w1.heap.size + 1 = g at *
  generalize w1.heap.size = h at *
  obtain ⟨r, hr⟩ : ∃ r, r = (z - 36) / 8 := ⟨_, rfl⟩
  rw [← hr] at RM
  have hr1 : r ≤ 60 := by omega
  have HR := hid_as hr
  clear hr
  go_upto_region 6 with fail
  go_cut [1] from 39 to 44 (fun v wx => ∃ a : Nat, a ≤ r ∧ a ≤ 40 ∧ v = .int .i64 a ∧ Same w2 wx)
  case first =>
    go_wp2_with fail
    with_reducible refine RM.out.mono ?_
    rintro e w3 ⟨rfl, k3⟩
    have K3 := hid_as k3
    clear RM k3
    by_cases hl : (40 : Int) < (r : Int)
    · have PA := hid_as (fun W => place_i n 41 (by decide) (by decide) W)
      go_wp2_with fail
      with_reducible refine (PA.out _).mono ?_
      rintro e w4 ⟨⟨a, ha, rfl⟩, hw⟩
      subst w4
      clear PA
      go_wp2_with fail
      go_meet
      exact ⟨a, by omega, by omega, rfl, K3.out⟩
    · have PA := hid_as (fun W => place_i n (1 + (r : Int)) (by omega) (by omega) W)
      go_wp2_with fail
      with_reducible refine (PA.out _).mono ?_
      rintro e w4 ⟨⟨a, ha, rfl⟩, hw⟩
      subst w4
      clear PA
      go_wp2_with fail
      go_meet
      exact ⟨a, by omega, by omega, rfl, K3.out⟩
  case rest =>
  obtain ⟨a, har, ha5, rfl, k3⟩ := hcut
  have H3 : Hid (Hk w wc g h (SS.new 8 z) a 0 none) := ⟨T2.out.same k3, below_and K2.out k3.below, GY.out, GZ.out, sg_new (by decide) (by omega) (by have := HR.out; omega) (by omega)⟩
  clear RM T2 K2 k3 HR
  have OP := hid_as (H3.out.opn (ni := a) rfl rfl)
  go_wp2_with fail
  with_reducible refine OP.out.mono ?_
  rintro e w4 ⟨gj0, J0, v0, f0, rfl, op⟩
  obtain ⟨rfl, rfl⟩ := op.told
  have K4 := hid_as op.hj.k
  clear OP op H3
  go_wp2
  go_loopw [16] (fun iv wr => iv = .int .i64 0 ∧ wr = w4) (fun _ _ => 0)
  case atStart => exact ⟨rfl, rfl⟩
  case round =>
    obtain ⟨rfl, hw⟩ := hrel
    subst hw
    go_wp2
    go_ret
    exact ⟨rfl, K4.out⟩
set_option maxRecDepth 100000 in
set_option maxHeartbeats 1600000 in
theorem plays_big (size n : Int) (m c : Nat) (ao : Option Addr) (w : World) (hm : 80 < m) (hm9 : m ≤ 9223372036854775807) :
    Calls Try.prog 3 #[.int .i64 size, .int .i64 n, .slice ao m c] w fun e w' => e = .returned (.bool true) ∧ Below w.heap.size w w' := by
  have KN := hid_as (known_c w)
  have d1 : (80 : Int) < (m : Int) := by omega
  go_enter Try.func3, Try.ntmps3
  go_wp2_with fail
  with_reducible refine KN.out.mono ?_
  rintro e w1 ⟨rfl, k1⟩
  have K1 := hid_as k1
  clear KN k1
  go_wp2
  go_ret
  exact ⟨rfl, K1.out⟩
theorem plays_w {size n : Int} {m c : Nat} {ao : Option Addr} {L : List Stp} {w : World} (hm : m = L.length) (hm9 : m ≤ 9223372036854775807) (hL : 0 < m → ∃ lb lo, ao = some ⟨lb, lo, none⟩ ∧ ∀ i x, L[i]? = some x → StepAt w lb lo i x) :
    Calls Try.prog 3 #[.int .i64 size, .int .i64 n, .slice ao m c] w fun e w' => e = .returned (.bool true) ∧ Below w.heap.size w w' := by
  by_cases h : 80 < m
  · exact plays_big size n m c ao w h hm9
  · by_cases h0 : m = 0
    · subst h0
      exact plays_zero size n c ao w
    · obtain ⟨lb, lo, rfl, hs⟩ := hL (by omega)
      exact plays_at size n m c lb lo L w hm (by omega) hs
end Go.Proofs.Ytoiadofoclgnoaa
