/- The walk: the chapter's example. -/
import Derived.Test.YtmckfoabemmmkaaW8
namespace Go.Proofs.Ytmckfoabemmmkaa
open Go.RowKit
open Pdu
theorem lit3_fr (w : World) : IsFr (w.alloc (.cells #[.int .u8 3] 5)) (.agg #[.int .u16 1, .int .u8 17, .slice (some ⟨w.heap.size, 0, none⟩) 1 1]) 1 17 [3] (.slice (some ⟨w.heap.size, 0, none⟩) 1 1) :=
  ⟨rfl, by decide, by decide, by intro x hx; simp at hx; omega, lit_sl w 3⟩
theorem ex_bytes : Bytes [0, 1, 0, 0, 0, 2, 17, 3] := by intro x hx; simp at hx; omega
theorem OpenEnd.is {bs : List Nat} {w w' : World} {e : Ending} (h : OpenEnd bs w e w') {id unit n E : Nat} {pdu : List Nat} (hr : rd bs = ⟨id, unit, pdu, n, E⟩) :
    Below w.heap.size w w' ∧ ∃ po pc, e = .returned (.tuple #[.agg #[.int .u16 id, .int .u8 unit, .slice po pdu.length pc], .int .i64 n, .int .i64 E]) ∧ Sl w' (.slice po pdu.length pc) (u8s pdu) := by
  unfold OpenEnd at h
  rw [hr] at h
  exact h
theorem lit_bytes (w : World) (l : List Nat) (a : Array Value) (n : Nat) (ha : a.toList = u8s l) (hn : n = l.length) : Sl (w.alloc (.cells a 5)) (.slice (some ⟨w.heap.size, 0, none⟩) n n) (u8s l) := by
  refine Or.inr ⟨w.heap.size, 0, n, by rw [u8s_len, hn], by rw [u8s_len, hn]; exact Nat.le_refl _, fun k u hk => ?_⟩
  rw [World.cell?_alloc_new, Nat.zero_add, ← Array.getElem?_toList, ha]
  exact hk
set_option maxRecDepth 100000 in
set_option maxHeartbeats 8000000 in
theorem known_law (w : World) : Calls Try.prog 6 #[] w fun e w' => e = .returned (.bool true) ∧ Below w.heap.size w w' := by
  have X1 := hid_as (wr_yes (lit3_fr w) (by decide))
  go_enter Try.func6, Try.ntmps6
  go_wp2_with fail
  refine X1.out.mono ?_
  rintro e w1 ⟨v1, rfl, own1, k1⟩
  obtain ⟨g, c, rfl, hc⟩ : ∃ g c, v1 = .slice (some ⟨g, 0, none⟩) 8 c ∧ 8 ≤ c := own_some own1 (by decide)
  have K1 : Hid (Below w.heap.size w w1) := below_and (below_new (Below.refl _ w) _) k1
  have S1 : Hid (Sl w1 (.slice (some ⟨g, 0, none⟩) 8 c) (u8s [0, 1, 0, 0, 0, 2, 17, 3])) := own_sl own1
  have hc8 : 8 ≤ c := hc
  have C1 := hid_as (copy_c S1.out (by decide))
  clear own1 k1 X1 hc
  go_wp2_with fail
  refine C1.out.mono ?_
  rintro e w2 ⟨v2, rfl, own2, k2⟩
  have K2 := hid_as (below_and K1.out k2)
  have S2 := hid_as (S1.out.below k2)
  obtain ⟨i0, hi0, hz0, hz1, hz2⟩ := info_parts Try.infoByte
  obtain ⟨v3, w3, hAp, own3, g3⟩ := run_append_sl (P := Try.prog) (w := w2.alloc (.cells #[.int .u8 9] 5)) w1.heap.size 23 23 5 i0 (.int .u8 0) 1 Try.underlying23 hi0 hz0 hz1 hz2 rfl v2 _ _ (own2.alloc _) (.slice (some ⟨w2.heap.size, 0, none⟩) 1 1) (u8s [9]) (lit_sl w2 9) (u8s_one _) (by simp [u8s]; decide) (by simp [u8s]) (by have := k2.size; simp; omega)
  rw [← u8s_app] at own3
  have HA := hid_as hAp
  have k3 : Below w1.heap.size w2 w3 := own_grow own2 k2.size g3
  have K3 : Hid (Below w.heap.size w w3) := below_and K1.out (k2.trans k3)
  have S3 : Hid (Sl w3 (.slice (some ⟨g, 0, none⟩) 8 c) (u8s [0, 1, 0, 0, 0, 2, 17, 3])) := S1.out.below (k2.trans k3)
  have O3 := hid_as (open_c (own_sl own3) (by intro x hx; simp at hx; omega) (by decide))
  clear hAp own2 own3 g3 k2 k3 C1 K2 S2 S1
  go_wp2_with (at_builtin; refine Lib.wpList_append_run _ rfl _ _ _ _ rfl _ _ rfl rfl _ _ HA.out ?_)
  refine O3.out.mono ?_
  rintro e w4 hend
  obtain ⟨k4, po, pc, rfl, _⟩ := hend.is (show rd ([0, 1, 0, 0, 0, 2, 17, 3] ++ [9]) = ⟨1, 17, [3], 8, 0⟩ from rfl)
  have K4 := hid_as (below_and K3.out k4)
  have S4 := hid_as (S3.out.below k4)
  have O5 := hid_as (fun (o : Obj) => open_c (bs := [0, 1, 0, 0, 0, 2, 17]) (sl_cut (p := 7) (S4.out.below (below_new (Below.refl _ w4) o)) (by decide)) (by intro x hx; simp at hx; omega) (by decide))
  clear hend k4 S3 O3 HA K3
  go_wp2_with fail
  refine (O5.out _).mono ?_
  rintro e w5 hend
  obtain ⟨k5, po5, pc5, rfl, _⟩ := hend.is (show rd [0, 1, 0, 0, 0, 2, 17] = ⟨0, 0, [], 0, 0⟩ from rfl)
  obtain ⟨k5, B5, hs5⟩ := one_box k5
  have K5 := hid_as (below_and K4.out k5)
  have S5 := hid_as (S4.out.below k5)
  have B5 := hid_as B5
  have O6 := hid_as (fun (o : Obj) => open_c (bs := [0, 1, 0, 0, 0, 1]) (lit_bytes (w5.alloc o) _ #[.int .u8 0, .int .u8 1, .int .u8 0, .int .u8 0, .int .u8 0, .int .u8 1] 6 rfl rfl) (by intro x hx; simp at hx; omega) (by decide))
  simp only [World.size_alloc] at O6
  clear hend k5 S4 O5 K4
  go_wp2_with fail
  refine (O6.out _).mono ?_
  rintro e w6 hend
  obtain ⟨k6, po6, pc6, rfl, _⟩ := hend.is (show rd [0, 1, 0, 0, 0, 1] = ⟨0, 0, [], 0, 40⟩ from rfl)
  have k6 : Below w5.heap.size w5 w6 := below_and (below_new (below_new (Below.refl _ w5) _) _) k6
  have K6 := hid_as (below_and K5.out k6)
  have S6 := hid_as (S5.out.below k6)
  have B6 := hid_as (B5.out.below k6 hs5)
  have hs6 : w4.heap.size < w6.heap.size := Nat.lt_of_lt_of_le hs5 k6.size
  have Y7 := hid_as (fun (o : Obj) => bytes_t ((S6.out.below (below_new (Below.refl _ w6) o)).below (below_new (Below.refl _ _) _)) (lit_bytes (w6.alloc o) [0, 1, 0, 0, 0, 2, 17, 3] #[.int .u8 0, .int .u8 1, .int .u8 0, .int .u8 0, .int .u8 0, .int .u8 2, .int .u8 17, .int .u8 3] 8 rfl rfl) ex_bytes)
  simp only [World.size_alloc] at Y7
  clear hend k6 S5 O6 K5 B5
  have b1 := fun (o o2 : Obj) => ((B6.out.grow o).grow o2).c1
  go_wp2_with fail
  refine (Y7.out _).mono ?_
  rintro e w7 ⟨rfl, hw⟩
  subst w7
  go_wp2
  go_ret
  exact ⟨rfl, below_new (below_new K6.out _) _⟩
end Go.Proofs.Ytmckfoabemmmkaa
