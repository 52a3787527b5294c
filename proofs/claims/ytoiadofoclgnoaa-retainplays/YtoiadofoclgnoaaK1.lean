/- The walk of known: a journal that is worked by hand (stage 9). -/
import Derived.Test.YtoiadofoclgnoaaH2
namespace Go.Proofs.Ytoiadofoclgnoaa
open Go.RowKit
open Pdu
theorem lit64 (w : World) (l : List Int) (n : Nat) (a : Array Value) (ha : a.toList = i64s l) (hn : n = l.length) (hm : n ≤ 1000000) : (w.alloc (.cells a 2)).ownsRow w.heap.size 2 1 (.slice (some ⟨w.heap.size, 0, none⟩) n n) n (i64s l) := by
  have hs : a.size = n := by rw [← Array.length_toList, ha, i64s_len, hn]
  refine ⟨by rw [i64s_len, Nat.mul_one, hn], Or.inr ⟨w.heap.size, n, a, rfl, Nat.le_refl _, heap_alloc_new w _, Nat.le_refl _, by unfold maxLen; omega, by omega, ?_⟩⟩
  rw [Nat.mul_one, ha, List.take_of_length_le (by rw [i64s_len]; omega)]
set_option maxHeartbeats 1600000 in
theorem known_c (w : World) : Calls Try.prog 9 #[] w fun e w' => e = .returned (.bool true) ∧ Below w.heap.size w w' := by
  have N1 := hid_as (newb_c 8 128 8 128 w (by omega) (by omega))
  go_enter Try.func9, Try.ntmps9
  go_wp2_with fail
  refine N1.out.mono ?_
  rintro e w1 ⟨rfl, t1, k1, z1⟩
  have H1 : Hid (Hk w w1 (w.heap.size + 1) w.heap.size (SS.new 8 128) 2 0 none) := ⟨t1, k1, by omega, Nat.le_refl _, sg_new (by decide) (by decide) (by decide) (by decide)⟩
  have R1 := hid_as (room_c t1)
  have hroom : (SS.new 8 128).room = 11 := by decide
  rw [hroom] at R1
  clear N1 t1 k1 z1 hroom
  generalize w.heap.size + 1 = g at *
  generalize hh : w.heap.size = h at H1
  go_wp2_with fail
  refine R1.out.mono ?_
  rintro e w2 ⟨rfl, k2⟩
  have H2 := hid_as (H1.out.below k2.below)
  have N2 := hid_as (newb_c 3 512 3 512 w2 (by omega) (by omega))
  clear R1 k2 H1
  go_wp2_with fail
  refine N2.out.mono ?_
  rintro e w3 ⟨rfl, t3, k3, z3⟩
  have H3 := hid_as (H2.out.below k3)
  have R3 := hid_as (room_c t3)
  have hroom : (SS.new 3 512).room = 0 := by decide
  rw [hroom] at R3
  clear N2 t3 k3 z3 hroom H2
  go_wp2_with fail
  refine R3.out.mono ?_
  rintro e w4 ⟨rfl, k4⟩
  have H4 := hid_as (H3.out.below k4.below)
  have O4 := hid_as (H4.out.opn (ni := 2) rfl rfl)
  clear R3 k4 H3
  go_wp2_with fail
  refine O4.out.mono ?_
  rintro e w5 ⟨gj, J, v, f, rfl, op⟩
  obtain ⟨rfl, rfl⟩ := op.told
  have H5 := hid_as op.hj
  have J0 := hid_as op.laid
  clear O4 op H4
  have LN : Hid (∀ (W : World) (v : Value) (B : Nat), Hj w W gj g h J (SS.new 8 128) 2 0 none → W.ownsRow B 2 1 v 2 (i64s [5, -6]) → gj < B → g < B → h < B → Calls Try.prog 15 #[.pointer (some ⟨gj, 0, none⟩), .int .u64 4, v] W fun e W' => e = .returned (.int .i64 0) ∧ ∃ (J' : JS) (s' : SS), Ly0 w W W' gj g h J J' (SS.new 8 128) s' 2 0 4 [5, -6]) := fun W v B q own h1 h2 h3 => q.lay0 (by decide) rfl own h1 h2 h3 rfl (by intro x hx; simp at hx; omega) (by decide) (by decide)
  have L5 : Hid ((w5.alloc (.cells #[.int .i64 5, .int .i64 (-6)] 2)).ownsRow w5.heap.size 2 1 (.slice (some ⟨w5.heap.size, 0, none⟩) 2 2) 2 (i64s [5, -6])) := lit64 w5 [5, -6] 2 _ rfl rfl (by decide)
  have H6 := hid_as (H5.out.below (below_new (Below.refl _ w5) (.cells #[.int .i64 5, .int .i64 (-6)] 2)))
  have LT := hid_as H5.out.lts
  have LA := hid_as (LN.out _ _ _ H6.out L5.out LT.out.1 LT.out.2.1 LT.out.2.2)
  clear LN L5 H6 H5
  go_wp2_with fail
  refine LA.out.mono ?_
  rintro e w6 ⟨rfl, J6, s6, ly⟩
  have LY := hid_as ly
  clear ly LA
  have hjn : (1 : Nat) ≠ J6.n := by have := LY.out.hj.jn; omega
  have LB := hid_as (fun (W : World) (b : Addr) (k : Below w6.heap.size w6 W) => lay_no (ao := some b) (m := 1) (c := 1) (LY.out.hj.below k).jr.jn 5 hjn)
  go_wp2_with fail
  refine (LB.out _ _ (below_new (Below.refl _ w6) _)).mono ?_
  rintro e w7 ⟨rfl, hw⟩
  have H7 : Hid (Hj w w7 gj g h J6 s6 2 1 (some (4, [5, -6]))) := by
    subst w7
    exact LY.out.hj.below (below_new (Below.refl _ w6) _)
  have OP := hid_as (H7.out.hk.opn (ni := 2) H7.out.dead rfl)
  clear LB hw hjn
  go_wp2_with fail
  refine OP.out.mono ?_
  rintro e w8 ⟨gj8, J8, v8, f8, rfl, op8⟩
  obtain ⟨rfl, own8⟩ := op8.told
  have H8 := hid_as (H7.out.below op8.b)
  have OW := hid_as own8
  have ON := hid_as (open_no H8.out.jr.st H8.out.dead 1000 (Or.inr (Or.inl (by
    have h1 : s6.sz = 128 := LY.out.sz
    have := H8.out.sg.fit
    show (s6.room : Int) < 1000
    unfold SS.room
    rw [if_pos this, h1]
    decide))))
  clear OP op8 own8 H7
  go_wp2_with fail
  refine ON.out.mono ?_
  rintro e w9 ⟨rfl, k9⟩
  have H9 := hid_as (H8.out.below k9.below)
  have OW9 := hid_as (own64_below OW.out k9.below)
  have L9 : Hid ((w9.alloc (.cells #[.int .i64 5, .int .i64 (-6)] 2)).ownsRow w9.heap.size 2 1 (.slice (some ⟨w9.heap.size, 0, none⟩) 2 2) 2 (i64s [5, -6])) := lit64 w9 [5, -6] 2 _ rfl rfl (by decide)
  have KN := below_new (Below.refl _ w9) (.cells #[.int .i64 5, .int .i64 (-6)] 2)
  have NU := hid_as (nums_c (own_sl (own64_below OW9.out KN)) (own_sl L9.out) (by decide))
  have H10 := hid_as (H9.out.below KN)
  have hdec : decide (((4, [5, -6]) : Nat × List Int).2 = [5, -6]) = true := by decide
  rw [hdec] at NU
  clear ON k9 OW OW9 L9 KN hdec H8 H9
  go_wp2_with fail
  refine NU.out.mono ?_
  rintro e w10 ⟨rfl, k10⟩
  have H11 := hid_as (H10.out.below k10.below)
  have LD := hid_as H11.out.lad
  have hl1 : J6.laid = 1 := by have := LY.out.laid; rw [J0.out] at this; exact this
  rw [hl1] at LD
  have SC := hid_as H11.out.scn
  clear NU k10 H10 hl1
  go_wp2_with fail
  refine LD.out.mono ?_
  rintro e w11 ⟨rfl, hw⟩
  subst w11
  go_wp2_with fail
  refine SC.out.mono ?_
  rintro e w12 ⟨rfl, h12, _⟩
  have H12 := hid_as h12
  clear LD SC h12
  go_wp2
  go_ret
  exact ⟨rfl, H12.out.k⟩
end Go.Proofs.Ytoiadofoclgnoaa
