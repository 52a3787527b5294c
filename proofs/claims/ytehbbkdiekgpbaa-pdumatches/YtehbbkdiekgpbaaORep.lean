/- The walk: a reply to a request of registers is read. -/
import Derived.Test.YtehbbkdiekgpbaaTE
namespace Go.Proofs.Ytehbbkdiekgpbaa
open Go.RowKit
open Pdu
set_option maxRecDepth 100000 in
set_option maxHeartbeats 1200000 in
theorem orep_3 (n N cap b off A : Nat) (bs : List Nat) (w : World) (hA : A < 65536) (hN1 : 1 ≤ N) (hN : N ≤ 125) (hl : n = bs.length) (hn : 3 ≤ n) (hn2 : n ≤ 300) (hcap : n ≤ cap) (hB : Bytes bs) (hL : Lies w b off (u8s bs)) (h0 : bs.getD 0 0 = 3) (hT : n = 2 + 2 * N ∧ bs.getD 1 0 = 2 * N) :
    Calls Try.prog 21 #[rqV 3 A N 0 (.slice none 0 0) (.slice none 0 0), .slice (some ⟨b, off, none⟩) n cap] w fun e w' => ∃ v', e = .returned (.tuple #[rpV 3 0 0 0 (.slice none 0 0) v', .int .i64 0]) ∧ w'.ownsRow w.heap.size 22 1 v' (ws (bs.drop 2)).length (u16s (ws (bs.drop 2))) ∧ Below w.heap.size w w' := by
  have hd : decide ((Rq.mk 3 A N 0 [] []).Fits) = true := decide_eq_true (by unfold Rq.Fits FitsN; simp; omega)
  have hfit := fun (W : World) => fits_c (w := W) (v := rqV 3 A N 0 (.slice none 0 0) (.slice none 0 0)) (q := ⟨3, A, N, 0, [], []⟩) ⟨⟨show 3 < 256 by decide, hA, show N < 65536 by omega, show 0 < 65536 by decide, fun _ h => by simp at h⟩, _, _, rfl, Sl.nil _, Sl.nil _⟩
  rw [hd] at hfit
  have hte := fun (W : World) => te_other 3 A N 0 n cap (.slice none 0 0) (.slice none 0 0) (some ⟨b, off, none⟩) W (by omega)
  have hta := fun (W : World) (h : Below w.heap.size w W) => ta_3 n N cap b off (bs.getD 1 0) bs A 0 (.slice none 0 0) (.slice none 0 0) W (by omega) hl (by omega) hn2 hcap hB (hL.below h) h0 rfl hT
  have HTA : Hid _ := hta
  have HTE : Hid _ := hte
  have HFT : Hid _ := hfit
  clear hta hte hfit hd hl hB hL h0 hT
  unfold rqV at HTA HTE HFT ⊢
  go_enter Try.func21, Try.ntmps21
  go_wp2_with fail
  have TW := two_new w 3 A N 0 (.slice none 0 0) (.slice none 0 0)
  generalize ((w.alloc (.cells #[.int .u8 (3 : Nat), .int .u16 A, .int .u16 N, .int .u16 (0 : Nat), .slice none 0 0, .slice none 0 0] 26)).alloc (.cells #[.int .u8 0, .int .u8 0, .int .u16 0, .int .u16 0, .slice none 0 0, .slice none 0 0] 44)) = W at TW ⊢
  refine (HFT.out _).mono ?_
  rintro e w1 ⟨rfl, hb1⟩
  have q1 := (hb1.block _ TW.siz).trans TW.res
  have B1 := TW.box.below hb1 (Nat.lt_of_succ_lt TW.siz)
  have K1 : Hid (Below w.heap.size w w1) := TW.bel.trans (hb1.mono (Nat.le_of_lt (Nat.lt_of_succ_lt TW.siz)))
  have z1 : w.heap.size + 1 < w1.heap.size := Nat.lt_of_lt_of_le TW.siz hb1.size
  obtain ⟨c0, c1, c2, c3, c4, c5⟩ := B1
  clear hb1 TW
  go_wp2_with fail
  refine (HTE.out _).mono ?_
  rintro e w2 ⟨rfl, hb2⟩
  have q2 := (hb2.block _ z1).trans q1
  have B2 := (Box.mk c0 c1 c2 c3 c4 c5).below hb2 (Nat.lt_of_succ_lt z1)
  have K2 : Hid (Below w.heap.size w w2) := K1.out.trans (hb2.mono (Nat.le_of_lt (Nat.lt_of_succ_lt z1)))
  have z2 : w.heap.size + 1 < w2.heap.size := Nat.lt_of_lt_of_le z1 hb2.size
  have z2' : w.heap.size < w2.heap.size := Nat.lt_of_succ_lt z2
  clear c0 c1 c2 c3 c4 c5 hb2 q1 z1 K1
  obtain ⟨c0, c1, c2, c3, c4, c5⟩ := B2
  go_wp2_with fail
  refine (HTA.out _ (by exact below_new K2.out _)).mono ?_
  rintro e w4 ⟨v4, rfl, own4, hb4⟩
  obtain ⟨ao4, m4, cp4, hv4⟩ := own_shape own4
  subst hv4
  have q4 := (hb4.block (w.heap.size + 1) (by simp; omega)).trans ((Below.heap_alloc w2 _ _ z2).trans q2)
  have r4 := (hb4.block w2.heap.size (by simp)).trans (heap_alloc_new w2 _)
  have K4 : Hid (Below w.heap.size w w4) := (below_new K2.out _).trans (hb4.mono (by simp; omega))
  have O4 : Hid (w4.ownsRow (w2.heap.size + 1) 22 1 (.slice ao4 m4 cp4) (ws (bs.drop 2)).length (u16s (ws (bs.drop 2)))) := by rw [World.size_alloc] at own4; exact own4
  have z4 : w2.heap.size < w4.heap.size := by have := hb4.size; rw [World.size_alloc] at this; omega
  have zne : ¬ w2.heap.size = w.heap.size + 1 := by omega
  have zne' : ¬ w.heap.size + 1 = w2.heap.size := by omega
  obtain ⟨⟨d0, d1, d2, d3, d4, d5⟩, hfd⟩ := block6 r4
  obtain ⟨⟨e0, e1, e2, e3, e4, e5⟩, hfe⟩ := block6 q4
  have f0 := hfd 0
  have f1 := hfd 1
  have f2 := hfd 2
  have f3 := hfd 3
  have f4 := hfd 4
  have f5 := hfd 5
  have g0 := hfe 0
  have g1 := hfe 1
  have g2 := hfe 2
  have g3 := hfe 3
  have g4 := hfe 4
  have g5 := hfe 5
  clear q2 q4 r4 own4 hb4 hfd hfe c0 c1 c2 c3 c4 c5 HTA HTE HFT K2
  unfold rpV
  go_wp2
  have BF := set_box (((((((Box.mk e0 e1 e2 e3 e4 e5).far (p := ⟨w2.heap.size, 0, none⟩) zne (.int .u8 3)).far (p := ⟨w2.heap.size, 1, none⟩) zne (.int .u8 0)).far (p := ⟨w2.heap.size, 2, none⟩) zne (.int .u16 0)).far (p := ⟨w2.heap.size, 3, none⟩) zne (.int .u16 0)).far (p := ⟨w2.heap.size, 4, none⟩) zne (.slice none 0 0)).far (p := ⟨w2.heap.size, 5, none⟩) zne (.slice ao4 m4 cp4)) (.int .u8 3) (.int .u8 0) (.int .u16 0) (.int .u16 0) (.slice none 0 0) (.slice ao4 m4 cp4)
  obtain ⟨h0, h1, h2, h3, h4, h5⟩ := BF
  have l1 : w2.heap.size < w2.heap.size + 1 := Nat.lt_succ_self _
  have l2 : w.heap.size + 1 < w2.heap.size + 1 := by omega
  refine bodyPost_ret (v := .tuple #[.agg #[.int .u8 3, .int .u8 0, .int .u16 0, .int .u16 0, .slice none 0 0, .slice ao4 m4 cp4], .int .i64 0]) (by simp [results, Try.results21, go_sem, h0, h1, h2, h3, h4, h5]) rfl ⟨_, rfl, ?_, ?_⟩
  · exact own_base (own_six (own_six O4.out l1 _ _ _ _ _ _) l2 _ _ _ _ _ _) (by omega)
  · exact below_six (below_six K4.out (Nat.le_of_lt z2') _ _ _ _ _ _) (Nat.le_succ _) _ _ _ _ _ _
set_option maxRecDepth 100000 in
set_option maxHeartbeats 1200000 in
theorem orep_3n (n N cap b off A : Nat) (bs : List Nat) (w : World) (hA : A < 65536) (hN1 : 1 ≤ N) (hN : N ≤ 125) (hl : n = bs.length) (hn : 3 ≤ n) (hn2 : n ≤ 300) (hcap : n ≤ cap) (hB : Bytes bs) (hL : Lies w b off (u8s bs)) (h0 : bs.getD 0 0 = 3) (hT : ¬ (n = 2 + 2 * N ∧ bs.getD 1 0 = 2 * N)) :
    Calls Try.prog 21 #[rqV 3 A N 0 (.slice none 0 0) (.slice none 0 0), .slice (some ⟨b, off, none⟩) n cap] w fun e w' => e = .returned (.tuple #[rpV 0 0 0 0 (.slice none 0 0) (.slice none 0 0), .int .i64 30]) ∧ Below w.heap.size w w' := by
  have hd : decide ((Rq.mk 3 A N 0 [] []).Fits) = true := decide_eq_true (by unfold Rq.Fits FitsN; simp; omega)
  have hfit := fun (W : World) => fits_c (w := W) (v := rqV 3 A N 0 (.slice none 0 0) (.slice none 0 0)) (q := ⟨3, A, N, 0, [], []⟩) ⟨⟨show 3 < 256 by decide, hA, show N < 65536 by omega, show 0 < 65536 by decide, fun _ h => by simp at h⟩, _, _, rfl, Sl.nil _, Sl.nil _⟩
  rw [hd] at hfit
  have hte := fun (W : World) => te_other 3 A N 0 n cap (.slice none 0 0) (.slice none 0 0) (some ⟨b, off, none⟩) W (by omega)
  have hta := fun (W : World) (h : Below w.heap.size w W) => ta_3n n N cap b off (bs.getD 1 0) bs A 0 (.slice none 0 0) (.slice none 0 0) W (by omega) hl (by omega) hn2 hcap hB (hL.below h) h0 rfl hT
  have HTA : Hid _ := hta
  have HTE : Hid _ := hte
  have HFT : Hid _ := hfit
  clear hta hte hfit hd hl hB hL h0 hT
  unfold rqV at HTA HTE HFT ⊢
  go_enter Try.func21, Try.ntmps21
  go_wp2_with fail
  have TW := two_new w 3 A N 0 (.slice none 0 0) (.slice none 0 0)
  generalize ((w.alloc (.cells #[.int .u8 (3 : Nat), .int .u16 A, .int .u16 N, .int .u16 (0 : Nat), .slice none 0 0, .slice none 0 0] 26)).alloc (.cells #[.int .u8 0, .int .u8 0, .int .u16 0, .int .u16 0, .slice none 0 0, .slice none 0 0] 44)) = W at TW ⊢
  refine (HFT.out _).mono ?_
  rintro e w1 ⟨rfl, hb1⟩
  have q1 := (hb1.block _ TW.siz).trans TW.res
  have B1 := TW.box.below hb1 (Nat.lt_of_succ_lt TW.siz)
  have K1 : Hid (Below w.heap.size w w1) := TW.bel.trans (hb1.mono (Nat.le_of_lt (Nat.lt_of_succ_lt TW.siz)))
  have z1 : w.heap.size + 1 < w1.heap.size := Nat.lt_of_lt_of_le TW.siz hb1.size
  obtain ⟨c0, c1, c2, c3, c4, c5⟩ := B1
  clear hb1 TW
  go_wp2_with fail
  refine (HTE.out _).mono ?_
  rintro e w2 ⟨rfl, hb2⟩
  have q2 := (hb2.block _ z1).trans q1
  have B2 := (Box.mk c0 c1 c2 c3 c4 c5).below hb2 (Nat.lt_of_succ_lt z1)
  have K2 : Hid (Below w.heap.size w w2) := K1.out.trans (hb2.mono (Nat.le_of_lt (Nat.lt_of_succ_lt z1)))
  have z2 : w.heap.size + 1 < w2.heap.size := Nat.lt_of_lt_of_le z1 hb2.size
  have z2' : w.heap.size < w2.heap.size := Nat.lt_of_succ_lt z2
  clear c0 c1 c2 c3 c4 c5 hb2 q1 z1 K1
  obtain ⟨c0, c1, c2, c3, c4, c5⟩ := B2
  go_wp2_with fail
  refine (HTA.out _ (by exact below_new K2.out _)).mono ?_
  rintro e w4 ⟨ao4, m4, cp4, rfl, hb4⟩
  have q4 := (hb4.block (w.heap.size + 1) (by simp; omega)).trans ((Below.heap_alloc w2 _ _ z2).trans q2)
  have r4 := (hb4.block w2.heap.size (by simp)).trans (heap_alloc_new w2 _)
  have K4 : Hid (Below w.heap.size w w4) := (below_new K2.out _).trans (hb4.mono (by simp; omega))
  have z4 : w2.heap.size < w4.heap.size := by have := hb4.size; rw [World.size_alloc] at this; omega
  have zne : ¬ w2.heap.size = w.heap.size + 1 := by omega
  have zne' : ¬ w.heap.size + 1 = w2.heap.size := by omega
  obtain ⟨⟨d0, d1, d2, d3, d4, d5⟩, hfd⟩ := block6 r4
  obtain ⟨⟨e0, e1, e2, e3, e4, e5⟩, hfe⟩ := block6 q4
  have f0 := hfd 0
  have f1 := hfd 1
  have f2 := hfd 2
  have f3 := hfd 3
  have f4 := hfd 4
  have f5 := hfd 5
  have g0 := hfe 0
  have g1 := hfe 1
  have g2 := hfe 2
  have g3 := hfe 3
  have g4 := hfe 4
  have g5 := hfe 5
  clear q2 q4 r4 hb4 hfd hfe c0 c1 c2 c3 c4 c5 HTA HTE HFT K2
  unfold rpV
  go_wp2
  have BF := set_box (((((((Box.mk e0 e1 e2 e3 e4 e5).far (p := ⟨w2.heap.size, 0, none⟩) zne (.int .u8 3)).far (p := ⟨w2.heap.size, 1, none⟩) zne (.int .u8 0)).far (p := ⟨w2.heap.size, 2, none⟩) zne (.int .u16 0)).far (p := ⟨w2.heap.size, 3, none⟩) zne (.int .u16 0)).far (p := ⟨w2.heap.size, 4, none⟩) zne (.slice none 0 0)).far (p := ⟨w2.heap.size, 5, none⟩) zne (.slice ao4 m4 cp4)) (.int .u8 0) (.int .u8 0) (.int .u16 0) (.int .u16 0) (.slice none 0 0) (.slice none 0 0)
  obtain ⟨h0, h1, h2, h3, h4, h5⟩ := BF
  refine bodyPost_ret (v := .tuple #[.agg #[.int .u8 0, .int .u8 0, .int .u16 0, .int .u16 0, .slice none 0 0, .slice none 0 0], .int .i64 30]) (by simp [results, Try.results21, go_sem, h0, h1, h2, h3, h4, h5]) rfl ⟨rfl, ?_⟩
  · exact below_six (below_six K4.out (Nat.le_of_lt z2') _ _ _ _ _ _) (Nat.le_succ _) _ _ _ _ _ _
end Go.Proofs.Ytehbbkdiekgpbaa
