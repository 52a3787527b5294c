/- The walk: the chapter's examples. -/
import Derived.Test.YtehbbkdiekgpbaaORep
import Derived.Test.YtehbbkdiekgpbaaORr
import Derived.Test.YtehbbkdiekgpbaaWk16
namespace Go.Proofs.Ytehbbkdiekgpbaa
open Go.RowKit
open Pdu
theorem lit_lies (w : World) (l : List Nat) (a : Array Value) (ha : a.toList = u8s l) : Lies (w.alloc (.cells a 5)) w.heap.size 0 (u8s l) := by
  intro k u hk
  rw [World.cell?_alloc_new, Nat.zero_add, ← Array.getElem?_toList, ha]
  exact hk
theorem lit_sl (w : World) (l : List Nat) (a : Array Value) (n : Nat) (ha : a.toList = u8s l) (hn : n = l.length) : Sl (w.alloc (.cells a 5)) (.slice (some ⟨w.heap.size, 0, none⟩) n n) (u8s l) :=
  Or.inr ⟨w.heap.size, 0, n, by rw [u8s_len, hn], by rw [u8s_len, hn]; exact Nat.le_refl _, lit_lies w l a ha⟩
theorem ok_3 : (Rq.mk 3 107 3 0 [] []).Ok := ⟨by decide, by decide, by decide, by decide, fun _ h => by simp at h⟩
theorem fit_3 : (Rq.mk 3 107 3 0 [] []).Fits := by unfold Rq.Fits FitsN; simp
theorem rok_1 : (Rp.mk 1 2 0 0 [] []).Ok := ⟨by decide, by decide, by decide, by decide, fun _ h => by simp at h⟩
theorem rfit_1 : (Rp.mk 1 2 0 0 [] []).Fits := by unfold Rp.Fits RFitsN; simp
theorem by3 : Bytes [3, 6, 0, 1, 0, 2, 0, 3] := by unfold Bytes; decide
theorem by4 : Bytes [3, 4, 0, 1, 0, 2] := by unfold Bytes; decide
set_option maxRecDepth 100000 in
set_option maxHeartbeats 1600000 in
theorem known_law (w : World) : Calls Try.prog 9 #[] w fun e w' => e = .returned (.bool true) ∧ Below w.heap.size w w' := by
  have r0 := request_1 3 107 3 0 [] [] (.slice none 0 0) (.slice none 0 0) w ok_3 fit_3 (Sl.nil w) (Sl.nil w) (by omega)
  have R1 := fun W : World => reply_exc 1 2 0 0 [] [] (.slice none 0 0) (.slice none 0 0) W rok_1 rfit_1 (Sl.nil W) (Sl.nil W) (by decide)
  unfold rqV at r0
  unfold rpV at R1
  have R0 := r0
  clear r0
  go_enter Try.func9, Try.ntmps9
  go_wp2_with fail
  refine R0.mono ?_
  rintro e w1 ⟨v1, rfl, own1, hb1⟩
  rw [show reqBytes ⟨3, 107, 3, 0, [], []⟩ = [3, 0, 107, 0, 3] from rfl] at own1
  obtain ⟨g, cap, hv1, hcap⟩ : ∃ g cap, v1 = .slice (some ⟨g, 0, none⟩) 5 cap ∧ 5 ≤ cap := by
    rcases own1.2 with ⟨_, h⟩ | ⟨g, cap, cur, h, _, _, hc, _⟩
    · simp at h
    · exact ⟨g, cap, h, hc⟩
  subst hv1
  have k0 := own1.cellAt 0 (by decide)
  have k1 := own1.cellAt 1 (by decide)
  have k2 := own1.cellAt 2 (by decide)
  have k3 := own1.cellAt 3 (by decide)
  have k4 := own1.cellAt 4 (by decide)
  have hop := open_r g 0 5 cap 3 107 3 0 107 0 3 w1 (by omega) rfl hcap (by decide) (by decide) (by decide) (by decide) k0 k1 k2 k3 k4 rfl rfl fit_3
  unfold rqV at hop
  have S1 : Hid (Sl w1 (.slice (some ⟨g, 0, none⟩) 5 cap) (u8s [3, 0, 107, 0, 3])) := own_sl own1
  have K1 : Hid (Below w.heap.size w w1) := hb1
  have HOP := hop
  clear k0 k1 k2 k3 k4 hop own1 hb1 R0
  go_wp2_with fail
  refine HOP.mono ?_
  rintro e w2 ⟨rfl, hb2⟩
  have K2 : Hid (Below w.heap.size w w2) := K1.out.trans (hb2.mono K1.out.size)
  have S2 : Hid (Sl w2 (.slice (some ⟨g, 0, none⟩) 5 cap) (u8s [3, 0, 107, 0, 3])) := S1.out.below hb2
  clear hb2 K1 S1 HOP
  go_wp2_with fail
  refine (R1 _).mono ?_
  rintro e w3 ⟨v3, rfl, own3, hb3⟩
  rw [show repBytes ⟨1, 2, 0, 0, [], []⟩ = [129, 2] from rfl] at own3
  have SH := own_shape own3
  obtain ⟨ao3, m3, cp3, hv3⟩ := SH
  subst hv3
  have B3 := (Box.new w2 (.int .u8 3) (.int .u16 107) (.int .u16 3) (.int .u16 0) (.slice none 0 0) (.slice none 0 0) 26).below hb3 (by simp)
  have hb23 : Below w2.heap.size w2 w3 := (below_new (Below.refl _ w2) _).trans (hb3.mono (by simp))
  have z3 : w2.heap.size < w3.heap.size := box_lt hb3
  have K3 : Hid (Below w.heap.size w w3) := K2.out.trans (hb23.mono K2.out.size)
  have S3 : Hid (Sl w3 (.slice (some ⟨g, 0, none⟩) 5 cap) (u8s [3, 0, 107, 0, 3])) := S2.out.below hb23
  have T3 : Hid (Sl w3 (.slice ao3 m3 cp3) (u8s [129, 2])) := own_sl own3
  obtain ⟨c0, c1, c2, c3, c4, c5⟩ := B3
  have O3 := orep_3 8 3 8 w3.heap.size 0 107 [3, 6, 0, 1, 0, 2, 0, 3] (w3.alloc (.cells #[.int .u8 3, .int .u8 6, .int .u8 0, .int .u8 1, .int .u8 0, .int .u8 2, .int .u8 0, .int .u8 3] 5)) (by decide) (by decide) (by decide) rfl (by decide) (by decide) (by decide) by3 (lit_lies w3 _ _ rfl) rfl ⟨rfl, rfl⟩
  unfold rqV at O3
  have HO3 := O3
  clear hb3 hb23 own3 O3 K2 S2
  go_wp2_with fail
  refine HO3.mono ?_
  rintro e w4 ⟨v4, rfl, own4, hb4⟩
  rw [show ws ([3, 6, 0, 1, 0, 2, 0, 3].drop 2) = [1, 2, 3] from rfl] at own4
  obtain ⟨g4, cap4, hv4⟩ : ∃ g cap, v4 = .slice (some ⟨g, 0, none⟩) 3 cap := by
    rcases own4.2 with ⟨_, h⟩ | ⟨g, cap, cur, h, _⟩
    · simp at h
    · exact ⟨g, cap, h⟩
  subst hv4
  have hb34 : Below w3.heap.size w3 w4 := (below_new (Below.refl _ w3) _).trans (hb4.mono (by simp))
  have B4 := (Box.mk c0 c1 c2 c3 c4 c5).below hb34 z3
  have z4 : w2.heap.size < w4.heap.size := Nat.lt_of_lt_of_le z3 hb34.size
  have K4 : Hid (Below w.heap.size w w4) := K3.out.trans (hb34.mono K3.out.size)
  have S4 : Hid (Sl w4 (.slice (some ⟨g, 0, none⟩) 5 cap) (u8s [3, 0, 107, 0, 3])) := S3.out.below hb34
  have T4 : Hid (Sl w4 (.slice ao3 m3 cp3) (u8s [129, 2])) := T3.out.below hb34
  have U4 := own4.cellAt 2 (by decide)
  have u4 : w4.cell? ⟨g4, 2, none⟩ = some (.int .u16 3) := U4
  have l4 : g4 < w4.heap.size := lt_of_cell u4
  clear c0 c1 c2 c3 c4 c5 hb34 hb4 own4 U4 K3 S3 T3 HO3
  obtain ⟨c0, c1, c2, c3, c4, c5⟩ := B4
  have z41 : w2.heap.size < w4.heap.size + 1 := by omega
  have O4 := orep_3n 6 3 6 (w4.heap.size + 1) 0 107 [3, 4, 0, 1, 0, 2] ((w4.alloc (.cells #[.int .u8 3, .int .u8 0, .int .u16 0, .int .u16 0, .slice none 0 0, .slice (some ⟨g4, 0, none⟩) 3 cap4] 44)).alloc (.cells #[.int .u8 3, .int .u8 4, .int .u8 0, .int .u8 1, .int .u8 0, .int .u8 2] 5)) (by decide) (by decide) (by decide) rfl (by decide) (by decide) (by decide) by4 (by have h := lit_lies (w4.alloc (.cells #[.int .u8 3, .int .u8 0, .int .u16 0, .int .u16 0, .slice none 0 0, .slice (some ⟨g4, 0, none⟩) 3 cap4] 44)) [3, 4, 0, 1, 0, 2] #[.int .u8 3, .int .u8 4, .int .u8 0, .int .u8 1, .int .u8 0, .int .u8 2] rfl; rw [World.size_alloc] at h; exact h) rfl (by decide)
  unfold rqV at O4
  unfold rpV
  go_wp2_with fail
  refine O4.mono ?_
  rintro e w5 ⟨rfl, hb5⟩
  have hb45 : Below w4.heap.size w4 w5 := (below_new (below_new (Below.refl _ w4) _) _).trans (hb5.mono (by simp; omega))
  have B5 := (Box.mk c0 c1 c2 c3 c4 c5).below hb45 z4
  have R5 := ((Box.new w4 (.int .u8 3) (.int .u8 0) (.int .u16 0) (.int .u16 0) (.slice none 0 0) (.slice (some ⟨g4, 0, none⟩) 3 cap4) 44).grow (.cells #[.int .u8 3, .int .u8 4, .int .u8 0, .int .u8 1, .int .u8 0, .int .u8 2] 5)).below hb5 (by simp; omega)
  have z5 : w4.heap.size + 1 < w5.heap.size := by have := hb5.size; simp at this; omega
  have z5' : w4.heap.size < w5.heap.size := by omega
  have z52 : w2.heap.size < w5.heap.size := by omega
  have K5 : Hid (Below w.heap.size w w5) := K4.out.trans (hb45.mono K4.out.size)
  have S5 : Hid (Sl w5 (.slice (some ⟨g, 0, none⟩) 5 cap) (u8s [3, 0, 107, 0, 3])) := S4.out.below hb45
  have T5 : Hid (Sl w5 (.slice ao3 m3 cp3) (u8s [129, 2])) := T4.out.below hb45
  have u5 : w5.cell? ⟨g4, 2, none⟩ = some (.int .u16 3) := (hb45.cell (p := ⟨g4, 2, none⟩) l4).trans u4
  have l5 : g4 < w5.heap.size := lt_of_cell u5
  clear c0 c1 c2 c3 c4 c5 hb45 hb5 K4 S4 T4 O4 u4 l4
  obtain ⟨c0, c1, c2, c3, c4, c5⟩ := B5
  obtain ⟨d0, d1, d2, d3, d4, d5⟩ := R5
  unfold rpV
  have z6 : w2.heap.size < w5.heap.size + 1 := by omega
  have z7 : w2.heap.size < w5.heap.size + 1 + 1 := by omega
  have z8 : w2.heap.size < w5.heap.size + 1 + 1 + 1 := by omega
  have y6 : w4.heap.size < w5.heap.size + 1 := by omega
  have y7 : w4.heap.size < w5.heap.size + 1 + 1 := by omega
  have y8 : w4.heap.size < w5.heap.size + 1 + 1 + 1 := by omega
  have x6 : g4 < w5.heap.size + 1 := by omega
  have x7 : g4 < w5.heap.size + 1 + 1 := by omega
  have x8 : g4 < w5.heap.size + 1 + 1 + 1 := by omega
  have hA := bytes_c (w := (w5.alloc (.cells #[.int .u8 0, .int .u8 0, .int .u16 0, .int .u16 0, .slice none 0 0, .slice none 0 0] 44)).alloc (.cells #[.int .u8 3, .int .u8 0, .int .u8 107, .int .u8 0, .int .u8 3] 5)) (xs := [3, 0, 107, 0, 3]) (ys := [3, 0, 107, 0, 3]) (S5.out.below (below_new (below_new (Below.refl _ w5) _) _)) (lit_sl (w5.alloc (.cells #[.int .u8 0, .int .u8 0, .int .u16 0, .int .u16 0, .slice none 0 0, .slice none 0 0] 44)) [3, 0, 107, 0, 3] _ 5 rfl rfl) (by unfold Bytes; decide) (by unfold Bytes; decide)
  have hB := bytes_c (w := ((w5.alloc (.cells #[.int .u8 0, .int .u8 0, .int .u16 0, .int .u16 0, .slice none 0 0, .slice none 0 0] 44)).alloc (.cells #[.int .u8 3, .int .u8 0, .int .u8 107, .int .u8 0, .int .u8 3] 5)).alloc (.cells #[.int .u8 129, .int .u8 2] 5)) (xs := [129, 2]) (ys := [129, 2]) (T5.out.below (below_new (below_new (below_new (Below.refl _ w5) _) _) _)) (lit_sl ((w5.alloc (.cells #[.int .u8 0, .int .u8 0, .int .u16 0, .int .u16 0, .slice none 0 0, .slice none 0 0] 44)).alloc (.cells #[.int .u8 3, .int .u8 0, .int .u8 107, .int .u8 0, .int .u8 3] 5)) [129, 2] _ 2 rfl rfl) (by unfold Bytes; decide) (by unfold Bytes; decide)
  rw [World.size_alloc] at hA
  rw [World.size_alloc, World.size_alloc] at hB
  rw [decide_eq_true rfl] at hA hB
  go_wp2_with fail
  refine hA.mono ?_
  rintro e w' ⟨rfl, hw⟩
  subst w'
  go_wp2_with fail
  refine hB.mono ?_
  rintro e w' ⟨rfl, hw⟩
  subst w'
  go_wp2_with fail
  refine (known_c 23 _).mono ?_
  rintro e w7 ⟨rfl, hb7⟩
  rw [show known 23 = true from rfl]
  have K7 : Hid (Below w.heap.size w w7) := (below_new (below_new (below_new K5.out _) _) _).trans (hb7.mono (Nat.le_trans K5.out.size (by simp; omega)))
  clear hb7 hA hB
  go_wp2_with fail
  refine (known_c 7 _).mono ?_
  rintro e w8 ⟨rfl, hb8⟩
  rw [show known 7 = false from rfl]
  have K8 : Hid (Below w.heap.size w w8) := K7.out.trans (hb8.mono K7.out.size)
  clear hb8
  go_wp2
  go_ret
  exact ⟨rfl, K8⟩
end Go.Proofs.Ytehbbkdiekgpbaa
