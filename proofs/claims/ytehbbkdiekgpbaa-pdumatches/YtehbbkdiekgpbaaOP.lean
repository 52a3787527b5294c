/- The walk: a reply is read. -/
import Derived.Test.YtehbbkdiekgpbaaTX
import Derived.Test.YtehbbkdiekgpbaaTA0
import Derived.Test.YtehbbkdiekgpbaaTA1
import Derived.Test.YtehbbkdiekgpbaaTA3
namespace Go.Proofs.Ytehbbkdiekgpbaa
open Go.RowKit
open Pdu
def IsAns (q : Rq) (bs : List Nat) : Prop := q.Fits ∧ (ExcIs q bs ∨ AnsIs q bs)
def readAns (q : Rq) (bs : List Nat) : Rp := if bs.getD 0 0 = q.fn then ansOf q bs else excOf q bs
/-- How the reading of a reply ends. -/
def AnsEnd (q : Rq) (bs : List Nat) (w : World) (e : Ending) (w' : World) : Prop := Below w.heap.size w w' ∧ ((IsAns q bs ∧ ∃ v, e = .returned (.tuple #[v, .int .i64 0]) ∧ IsRp w' v (readAns q bs)) ∨ (¬ IsAns q bs ∧ e = .returned (.tuple #[.agg #[.int .u8 0, .int .u8 0, .int .u16 0, .int .u16 0, .slice none 0 0, .slice none 0 0], .int .i64 30])))
theorem IsRpN.sixes {base g : Nat} {Y : World} {v : Value} {r : Rp} (h : IsRpN base Y v r) (hg : g < base) (y0 y1 y2 y3 y4 y5 : Value) : IsRpN base ((((((Y.setCell ⟨g, 0, none⟩ y0).setCell ⟨g, 1, none⟩ y1).setCell ⟨g, 2, none⟩ y2).setCell ⟨g, 3, none⟩ y3).setCell ⟨g, 4, none⟩ y4).setCell ⟨g, 5, none⟩ y5) v r := h.six (Below.refl _ Y) hg _ _ _ _ _ _
theorem fits_128 {q : Rq} (h : q.Fits) : q.fn < 128 := by
  unfold Rq.Fits FitsN at h
  omega
set_option linter.unusedSimpArgs false in
set_option linter.unusedVariables false in
set_option maxRecDepth 100000 in
set_option maxHeartbeats 1600000 in
theorem op_unfit (a0 a1 a2 a3 : Nat) (a4 : List Bool) (a5 : List Nat) (av aw so : Value) (bs : List Nat) (w : World) (ha : IsRq w (.agg #[.int .u8 a0, .int .u16 a1, .int .u16 a2, .int .u16 a3, av, aw]) ⟨a0, a1, a2, a3, a4, a5⟩) (hf : ¬ Rq.Fits ⟨a0, a1, a2, a3, a4, a5⟩) :
    Calls Try.prog 21 #[.agg #[.int .u8 a0, .int .u16 a1, .int .u16 a2, .int .u16 a3, av, aw], so] w fun e w' => AnsEnd ⟨a0, a1, a2, a3, a4, a5⟩ bs w e w' := by
  have HA := hid_as ha
  clear ha
  have HF := hid_as hf
  have hd := decide_eq_false hf
  clear hf
  go_enter Try.func21, Try.ntmps21
  go_wp2_with fail
  have TW := two_new w a0 a1 a2 a3 av aw
  generalize ((w.alloc (.cells #[.int .u8 a0, .int .u16 a1, .int .u16 a2, .int .u16 a3, av, aw] 26)).alloc (.cells #[.int .u8 0, .int .u8 0, .int .u16 0, .int .u16 0, .slice none 0 0, .slice none 0 0] 44)) = W at TW ⊢
  refine (fits_c (HA.out.below TW.bel)).mono ?_
  rintro e w1 ⟨rfl, hb1⟩
  rw [hd]
  have q1 := (hb1.block _ TW.siz).trans TW.res
  have B1 := TW.box.below hb1 (Nat.lt_of_succ_lt TW.siz)
  have K1 : Hid (Below w.heap.size w w1) := below_and TW.bel hb1
  have z1 : w.heap.size + 1 < w1.heap.size := Nat.lt_of_lt_of_le TW.siz hb1.size
  obtain ⟨c0, c1, c2, c3, c4, c5⟩ := B1
  clear hb1 TW
  obtain ⟨⟨r0, r1, r2, r3, r4, r5⟩, hfz⟩ := block6 q1
  have g0 := hfz 0
  have g1 := hfz 1
  have g2 := hfz 2
  have g3 := hfz 3
  have g4 := hfz 4
  have g5 := hfz 5
  clear hfz q1
  go_wp2
  have BF := set_box (Box.mk r0 r1 r2 r3 r4 r5) (.int .u8 0) (.int .u8 0) (.int .u16 0) (.int .u16 0) (.slice none 0 0) (.slice none 0 0)
  obtain ⟨e0, e1, e2, e3, e4, e5⟩ := BF
  refine bodyPost_ret (v := .tuple #[.agg #[.int .u8 0, .int .u8 0, .int .u16 0, .int .u16 0, .slice none 0 0, .slice none 0 0], .int .i64 30]) (by simp [results, Try.results21, go_sem, e0, e1, e2, e3, e4, e5]) rfl ⟨below_six K1.out (Nat.le_succ _) _ _ _ _ _ _, Or.inr ⟨fun h => HF.out h.1, rfl⟩⟩
set_option linter.unusedSimpArgs false in
set_option linter.unusedVariables false in
set_option maxRecDepth 100000 in
set_option maxHeartbeats 1600000 in
theorem op_fit (a0 a1 a2 a3 : Nat) (a4 : List Bool) (a5 : List Nat) (av aw so : Value) (bs : List Nat) (w : World) (ha : IsRq w (.agg #[.int .u8 a0, .int .u16 a1, .int .u16 a2, .int .u16 a3, av, aw]) ⟨a0, a1, a2, a3, a4, a5⟩) (hf : Rq.Fits ⟨a0, a1, a2, a3, a4, a5⟩) (hX : ∀ W : World, Below w.heap.size w W → Calls Try.prog 44 #[.agg #[.int .u8 a0, .int .u16 a1, .int .u16 a2, .int .u16 a3, av, aw], so] W fun e w' => Told (ExcIs ⟨a0, a1, a2, a3, a4, a5⟩ bs) (excOf ⟨a0, a1, a2, a3, a4, a5⟩ bs) W e w') (hY : ∀ W : World, Below w.heap.size w W → Calls Try.prog 45 #[.agg #[.int .u8 a0, .int .u16 a1, .int .u16 a2, .int .u16 a3, av, aw], so] W fun e w' => Told (AnsIs ⟨a0, a1, a2, a3, a4, a5⟩ bs) (ansOf ⟨a0, a1, a2, a3, a4, a5⟩ bs) W e w') :
    Calls Try.prog 21 #[.agg #[.int .u8 a0, .int .u16 a1, .int .u16 a2, .int .u16 a3, av, aw], so] w fun e w' => AnsEnd ⟨a0, a1, a2, a3, a4, a5⟩ bs w e w' := by
  have HA := hid_as ha
  clear ha
  have HF := hid_as hf
  have hd := decide_eq_true hf
  have HX := hid_as hX
  have HY := hid_as hY
  clear hf hX hY
  go_enter Try.func21, Try.ntmps21
  go_wp2_with fail
  have TW := two_new w a0 a1 a2 a3 av aw
  generalize ((w.alloc (.cells #[.int .u8 a0, .int .u16 a1, .int .u16 a2, .int .u16 a3, av, aw] 26)).alloc (.cells #[.int .u8 0, .int .u8 0, .int .u16 0, .int .u16 0, .slice none 0 0, .slice none 0 0] 44)) = W at TW ⊢
  refine (fits_c (HA.out.below TW.bel)).mono ?_
  rintro e w1 ⟨rfl, hb1⟩
  rw [hd]
  have q1 := (hb1.block _ TW.siz).trans TW.res
  have B1 := TW.box.below hb1 (Nat.lt_of_succ_lt TW.siz)
  have K1 : Hid (Below w.heap.size w w1) := below_and TW.bel hb1
  have z1 : w.heap.size + 1 < w1.heap.size := Nat.lt_of_lt_of_le TW.siz hb1.size
  obtain ⟨c0, c1, c2, c3, c4, c5⟩ := B1
  clear hb1 TW
  go_wp2_with fail
  refine (HX.out _ K1.out).mono ?_
  rintro e w2 ⟨hb2, vx, t, rx, rfl, hrx, htx, hex⟩
  have TX := hid_as htx
  have EX := hid_as hex
  have q2 := (hb2.block _ z1).trans q1
  have B2 := (Box.mk c0 c1 c2 c3 c4 c5).below hb2 (Nat.lt_of_succ_lt z1)
  have K2 : Hid (Below w.heap.size w w2) := below_and K1.out hb2
  have z2 : w.heap.size + 1 < w2.heap.size := Nat.lt_of_lt_of_le z1 hb2.size
  have z12 : w1.heap.size ≤ w2.heap.size := hb2.size
  clear c0 c1 c2 c3 c4 c5 hb2 q1 htx hex
  have HRX := hid_as hrx
  obtain ⟨x0, x1, x2, x3, x4, x5⟩ := rx
  obtain ⟨_, bvx, rvx, hvx, s1x, s2x, _, _⟩ := hrx
  obtain ⟨xo, xc, rfl⟩ := s1x.shape
  obtain ⟨xp, xd, rfl⟩ := s2x.shape
  simp only at hvx
  unfold rpV at hvx
  subst hvx
  rw [bls_len, u16s_len] at HRX
  rw [bls_len, u16s_len]
  simp only at HRX ⊢
  generalize x4.length = xb at HRX ⊢
  generalize x5.length = xr at HRX ⊢
  clear s1x s2x
  obtain ⟨⟨r0, r1, r2, r3, r4, r5⟩, hfz⟩ := block6 q2
  have g0 := hfz 0
  have g1 := hfz 1
  have g2 := hfz 2
  have g3 := hfz 3
  have g4 := hfz 4
  have g5 := hfz 5
  clear hfz
  obtain ⟨c0, c1, c2, c3, c4, c5⟩ := B2
  have zn : ¬ w2.heap.size = w.heap.size + 1 := by omega
  have zn' : ¬ w.heap.size + 1 = w2.heap.size := by omega
  have d0 := fun (o : Obj) => ((Box.mk c0 c1 c2 c3 c4 c5).grow o).c0
  have d1 := fun (o : Obj) => ((Box.mk c0 c1 c2 c3 c4 c5).grow o).c1
  have d2 := fun (o : Obj) => ((Box.mk c0 c1 c2 c3 c4 c5).grow o).c2
  have d3 := fun (o : Obj) => ((Box.mk c0 c1 c2 c3 c4 c5).grow o).c3
  have d4 := fun (o : Obj) => ((Box.mk c0 c1 c2 c3 c4 c5).grow o).c4
  have d5 := fun (o : Obj) => ((Box.mk c0 c1 c2 c3 c4 c5).grow o).c5
  cases t
  case true =>
    go_wp2
    have BF := fun o => (set_box (Box.mk r0 r1 r2 r3 r4 r5) (.int .u8 x0) (.int .u8 x1) (.int .u16 x2) (.int .u16 x3) (.slice xo xb xc) (.slice xp xr xd)).grow o
    have e0 := fun o => (BF o).c0
    have e1 := fun o => (BF o).c1
    have e2 := fun o => (BF o).c2
    have e3 := fun o => (BF o).c3
    have e4 := fun o => (BF o).c4
    have e5 := fun o => (BF o).c5
    have hx := TX.out.1 (by simp)
    refine bodyPost_ret (v := .tuple #[.agg #[.int .u8 x0, .int .u8 x1, .int .u16 x2, .int .u16 x3, .slice xo xb xc, .slice xp xr xd], .int .i64 0]) (by simp [results, Try.results21, go_sem, e0, e1, e2, e3, e4, e5]) rfl ⟨below_new (below_six K2.out (Nat.le_succ _) _ _ _ _ _ _) _, Or.inl ⟨⟨HF.out, Or.inl hx⟩, _, rfl, ?_⟩⟩
    have er : readAns ⟨a0, a1, a2, a3, a4, a5⟩ bs = excOf ⟨a0, a1, a2, a3, a4, a5⟩ bs := by
      unfold readAns
      rw [if_neg (by have h1 := hx.2.1; simp only at h1 ⊢; omega)]
    rw [er, ← EX.out (by simp)]
    exact (HRX.out.six (Below.refl _ w2) z1 _ _ _ _ _ _).plain.below (below_new (Below.refl _ _) _)
  go_wp2_with fail
  refine (HY.out _ (by exact below_new K2.out _)).mono ?_
  rintro e w4 ⟨hb4, vy, t, ry, rfl, hry, hty, hey⟩
  have TY := hid_as hty
  have EY := hid_as hey
  have q4 := (hb4.block (w.heap.size + 1) (by simp; omega)).trans ((Below.heap_alloc w2 _ _ z2).trans q2)
  have r44 := (hb4.block w2.heap.size (by simp)).trans (heap_alloc_new w2 _)
  have K4 : Hid (Below w.heap.size w w4) := below_and (below_new K2.out _) hb4
  have z4 : w2.heap.size < w4.heap.size := by have := hb4.size; rw [World.size_alloc] at this; omega
  have hry' := hry
  rw [World.size_alloc] at hry'
  clear hry
  clear c0 c1 c2 c3 c4 c5 d0 d1 d2 d3 d4 d5 r0 r1 r2 r3 r4 r5 g0 g1 g2 g3 g4 g5 hb4 hty hey
  have HRY := hid_as hry'
  obtain ⟨y0, y1, y2, y3, y4, y5⟩ := ry
  obtain ⟨_, bvy, rvy, hvy, s1y, s2y, _, _⟩ := hry'
  obtain ⟨yo, yc, rfl⟩ := s1y.shape
  obtain ⟨yp, yd, rfl⟩ := s2y.shape
  simp only at hvy
  unfold rpV at hvy
  subst hvy
  rw [bls_len, u16s_len] at HRY
  rw [bls_len, u16s_len]
  simp only at HRY ⊢
  generalize y4.length = yb at HRY ⊢
  generalize y5.length = yr at HRY ⊢
  clear s1y s2y
  obtain ⟨⟨r0, r1, r2, r3, r4, r5⟩, hfz⟩ := block6 q4
  have g0 := hfz 0
  have g1 := hfz 1
  have g2 := hfz 2
  have g3 := hfz 3
  have g4 := hfz 4
  have g5 := hfz 5
  obtain ⟨⟨d0, d1, d2, d3, d4, d5⟩, hfd⟩ := block6 r44
  have f0 := hfd 0
  have f1 := hfd 1
  have f2 := hfd 2
  have f3 := hfd 3
  have f4 := hfd 4
  have f5 := hfd 5
  clear hfz hfd q4 r44 q2
  have far6 := (((((((Box.mk r0 r1 r2 r3 r4 r5).far (p := ⟨w2.heap.size, 0, none⟩) zn (.int .u8 y0)).far (p := ⟨w2.heap.size, 1, none⟩) zn (.int .u8 y1)).far (p := ⟨w2.heap.size, 2, none⟩) zn (.int .u16 y2)).far (p := ⟨w2.heap.size, 3, none⟩) zn (.int .u16 y3)).far (p := ⟨w2.heap.size, 4, none⟩) zn (.slice yo yb yc)).far (p := ⟨w2.heap.size, 5, none⟩) zn (.slice yp yr yd))
  have F6 := hid_as far6
  clear far6
  have hxn : ¬ ExcIs ⟨a0, a1, a2, a3, a4, a5⟩ bs := fun h => by have h1 := TX.out.2 h; cases h1
  have HXN := hid_as hxn
  clear hxn
  cases t
  case false =>
    go_wp2
    have BF := set_box F6.out (.int .u8 0) (.int .u8 0) (.int .u16 0) (.int .u16 0) (.slice none 0 0) (.slice none 0 0)
    obtain ⟨e0, e1, e2, e3, e4, e5⟩ := BF
    refine bodyPost_ret (v := .tuple #[.agg #[.int .u8 0, .int .u8 0, .int .u16 0, .int .u16 0, .slice none 0 0, .slice none 0 0], .int .i64 30]) (by simp [results, Try.results21, go_sem, e0, e1, e2, e3, e4, e5]) rfl ⟨below_six (below_six K4.out (by omega) _ _ _ _ _ _) (Nat.le_succ _) _ _ _ _ _ _, Or.inr ⟨fun h => ?_, rfl⟩⟩
    rcases h.2 with h | h
    · exact HXN.out h
    · have h1 := TY.out.2 h
      cases h1
  go_wp2
  have BF := set_box F6.out (.int .u8 y0) (.int .u8 y1) (.int .u16 y2) (.int .u16 y3) (.slice yo yb yc) (.slice yp yr yd)
  obtain ⟨e0, e1, e2, e3, e4, e5⟩ := BF
  have hx := TY.out.1 (by simp)
  refine bodyPost_ret (v := .tuple #[.agg #[.int .u8 y0, .int .u8 y1, .int .u16 y2, .int .u16 y3, .slice yo yb yc, .slice yp yr yd], .int .i64 0]) (by simp [results, Try.results21, go_sem, e0, e1, e2, e3, e4, e5]) rfl ⟨below_six (below_six K4.out (by omega) _ _ _ _ _ _) (Nat.le_succ _) _ _ _ _ _ _, Or.inl ⟨⟨HF.out, Or.inr hx⟩, _, rfl, ?_⟩⟩
  have er : readAns ⟨a0, a1, a2, a3, a4, a5⟩ bs = ansOf ⟨a0, a1, a2, a3, a4, a5⟩ bs := by
    unfold readAns
    rw [if_pos hx.2.1]
  rw [er, ← EY.out (by simp)]
  exact ((HRY.out.six (Below.refl _ w4) (Nat.lt_succ_self _) _ _ _ _ _ _).sixes (by omega) _ _ _ _ _ _).plain
end Go.Proofs.Ytehbbkdiekgpbaa
