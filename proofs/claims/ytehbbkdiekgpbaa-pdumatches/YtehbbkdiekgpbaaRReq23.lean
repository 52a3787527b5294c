/- The walk: the reference's bytes of a request, function 23. -/
import Derived.Test.YtehbbkdiekgpbaaJ2
namespace Go.Proofs.Ytehbbkdiekgpbaa
open Go.RowKit
open Pdu
set_option linter.unusedSimpArgs false in
set_option linter.unusedVariables false in
set_option maxRecDepth 100000 in
set_option maxHeartbeats 1600000 in
theorem rreq23_0 (addr n addr2 nb nr bc rc : Nat) (bits : List Bool) (regs : List Nat) (bo ro : Option Addr) (w : World) (ok : Rq.Ok ⟨23, addr, n, addr2, bits, regs⟩) (h1 : Sl w (.slice bo nb bc) (bls bits)) (h2 : Sl w (.slice ro nr rc) (u16s regs)) (hnb : nb = bits.length) (hnr : nr = regs.length) (lb : nb ≤ 2500) (lr : nr ≤ 200) (p0 : ¬ (1 ≤ n ∧ n ≤ 125)) :
    Calls Try.prog 12 #[rqV 23 addr n addr2 (.slice bo nb bc) (.slice ro nr rc)] w fun e w' => e = .returned (.tuple #[.slice none 0 0, .int .i64 30]) ∧ Below w.heap.size w w' := by
  have Q0 : Hid (¬ ((1 : Int) ≤ (n : Int) ∧ (n : Int) ≤ 125)) := by unfold Hid; omega
  have HNB : Hid (nb = bits.length) := hnb
  have HNR : Hid (nr = regs.length) := hnr
  have SB : Hid (Sl w (.slice bo nb bc) (bls bits)) := h1
  have SR : Hid (Sl w (.slice ro nr rc) (u16s regs)) := h2
  have hN : n < 65536 := ok.n
  have hA : addr < 65536 := ok.addr
  have hWR : Words regs := ok.regs
  have OK : Hid (Rq.Ok ⟨23, addr, n, addr2, bits, regs⟩) := ok
  have P0 : Hid (¬ (1 ≤ n ∧ n ≤ 125)) := p0
  clear hnb hnr h1 h2 ok p0
  have e1 : IntKind.i64.wrap (2 * (nr : Int)) = 2 * (nr : Int) := by rw [IntKind.wrap_i64]; omega
  have e3 : IntKind.u16.wrap (nr : Int) = (nr : Int) := by rw [IntKind.wrap_u16]; omega
  have E2 : Hid (IntKind.u8.wrap (2 * (nr : Int)) = ((2 * nr % 256 : Nat) : Int)) := dbl_wrap nr
  have hA2 : addr2 < 65536 := OK.out.addr2
  unfold rqV
  go_enter Try.func12, Try.ntmps12
  go_wp2
  generalize hX : World.alloc w _ = X
  have BX : Hid (Box X w.heap.size (.int .u8 23) (.int .u16 addr) (.int .u16 n) (.int .u16 addr2) (.slice bo nb bc) (.slice ro nr rc)) := by rw [← hX]; exact Box.new w _ _ _ _ _ _ _
  have KX : Hid (Below w.heap.size w X) := by rw [← hX]; exact below_new (Below.refl _ w) _
  have hXs : w.heap.size < X.heap.size := by rw [← hX, World.size_alloc]; omega
  clear hX
  obtain ⟨c0, c1, c2, c3, c4, c5⟩ := BX.out
  have d0 := fun (k : Nat) (o : Obj) => ((BX.out.drewN k).grow o).c0
  have d1 := fun (k : Nat) (o : Obj) => ((BX.out.drewN k).grow o).c1
  have d2 := fun (k : Nat) (o : Obj) => ((BX.out.drewN k).grow o).c2
  have d3 := fun (k : Nat) (o : Obj) => ((BX.out.drewN k).grow o).c3
  have d4 := fun (k : Nat) (o : Obj) => ((BX.out.drewN k).grow o).c4
  have d5 := fun (k : Nat) (o : Obj) => ((BX.out.drewN k).grow o).c5
  go_quiet (fail)
  go_wp2_with fail
  refine (first_two hA (X.drewN _)).mono ?_
  rintro e Y ⟨vY, rfl, ownY, kY⟩
  have OY : Hid (Y.ownsRow X.heap.size 5 1 vY (23 :: wd addr).length (u8s (23 :: wd addr))) := ownY
  have KY : Hid (Below w.heap.size w Y) := (below_drewN KX.out _).trans (kY.mono (Nat.le_of_lt hXs))
  have hYs : X.heap.size ≤ Y.heap.size := kY.size
  have hWY : w.heap.size < Y.heap.size := Nat.lt_of_lt_of_le hXs hYs
  have BY : Hid (Box Y w.heap.size (.int .u8 23) (.int .u16 addr) (.int .u16 n) (.int .u16 addr2) (.slice bo nb bc) (.slice ro nr rc)) := (BX.out.drewN _).below kY hXs
  have LB : Hid (Sl Y (.slice bo nb bc) (bls bits)) := SB.out.below KY.out
  have LR : Hid (Sl Y (.slice ro nr rc) (u16s regs)) := SR.out.below KY.out
  have OB : Hid (Old X.heap.size (.slice bo nb bc) (bls bits)) := SB.out.old (Nat.le_of_lt hXs)
  have OR : Hid (Old X.heap.size (.slice ro nr rc) (u16s regs)) := SR.out.old (Nat.le_of_lt hXs)
  clear ownY kY c0 c1 c2 c3 c4 c5 d0 d1 d2 d3 d4 d5 BX
  obtain ⟨c0, c1, c2, c3, c4, c5⟩ := BY.out
  go_wp2_with fail
  refine (rwithin_f _ _ _ _ Q0.out).mono ?_
  rintro e w' ⟨rfl, hw⟩
  subst w'
  go_wp2
  have hWY1 : w.heap.size < Y.heap.size + 1 := by omega
  have hWY2 : w.heap.size < Y.heap.size + 1 + 1 := by omega
  have TA := hid_in (next_two_d (base := X.heap.size) (bs := (23 :: wd addr)) (l := [n, addr2, nr]) (n := 3) (a := #[.int .u16 (n : Int), .int .u16 (addr2 : Int), .int .u16 (nr : Int)]) rfl rfl (words_three hN hA2 (by omega)) (by simp [wd]) OY.out hYs)
  have TB := hid_in (two_B (base := X.heap.size) (bs := (23 :: wd addr)) (l := [n, addr2, nr]) (n := 3) (a := #[.int .u16 (n : Int), .int .u16 (addr2 : Int), .int .u16 (nr : Int)]) (z := (IntKind.u8.wrap (2 * (nr : Int)))) rfl rfl (words_three hN hA2 (by omega)) (by simp [wd]) OY.out hYs)
  have TC := hid_in (two_C (base := X.heap.size) (bs := (23 :: wd addr)) (l := [n, addr2, nr]) (n := 3) (a := #[.int .u16 (n : Int), .int .u16 (addr2 : Int), .int .u16 (nr : Int)]) (z := (IntKind.u8.wrap (2 * (nr : Int)))) rfl rfl (words_three hN hA2 (by omega)) (by simp [wd]) OY.out hYs)
  go_region_held3 (fun w' => w'.cell? ⟨w.heap.size, 2, none⟩ = some (.int .u16 n) ∧ w'.cell? ⟨w.heap.size, 3, none⟩ = some (.int .u16 addr2) ∧ w'.cell? ⟨w.heap.size, 5, none⟩ = some (.slice ro nr rc)) (first | exact ⟨m2, m3, m5⟩ | exact ⟨l2, l3, l5⟩ | exact ⟨i2, i3, i5⟩ | exact ⟨j2, j3, j5⟩ | exact ⟨c2, c3, c5⟩ | (simp [World.cell?_alloc_past, hWY, hWY1, hWY2, c2, c3, c5]; done) | (simp [World.cell?_alloc_past, hs2w, j2, j3, j5]; done)) (first | (go_at_call 36; with_reducible refine TA.out.mono ?_; rintro e w2 ⟨v2, rfl, own2, k2⟩; obtain ⟨j0, j1, j2, j3, j4, j5⟩ := BY.out.below k2 hXs; have LB2 := LB.out.keep OB.out k2; have LR2 := LR.out.keep OR.out k2; have hs2 := k2.size; have hs2w : w.heap.size < w2.heap.size := by omega) | (go_at_call 36; with_reducible refine TB.out.mono ?_; rintro e w2 ⟨v2, rfl, own2, k2, lit2⟩; obtain ⟨j0, j1, j2, j3, j4, j5⟩ := BY.out.below k2 hXs; have LB2 := LB.out.keep OB.out k2; have LR2 := LR.out.keep OR.out k2; have hs2 := k2.size; have hs2w : w.heap.size < w2.heap.size := by omega) | (go_at_call 36; with_reducible refine TC.out.mono ?_; rintro e w2 ⟨v2, rfl, own2, k2, lit2⟩; obtain ⟨j0, j1, j2, j3, j4, j5⟩ := BY.out.below k2 hXs; have LB2 := LB.out.keep OB.out k2; have LR2 := LR.out.keep OR.out k2; have hs2 := k2.size; have hs2w : w.heap.size < w2.heap.size := by omega) | (refine step_push0 rfl (.tmp 223) (.tmp 227) rfl X.heap.size _ ((23 :: wd addr) ++ wds [n, addr2, nr]) (2 * nr % 256) _ (by exact E2.out) rfl rfl own2 (by simp [wd, wds]) (by omega) ?_; intro v3 w3 own3 k3; obtain ⟨i0, i1, i2, i3, i4, i5⟩ := (Box.mk j0 j1 j2 j3 j4 j5).below k3 hXs; have LB3 := LB2.keep OB.out k3; have LR3 := LR2.keep OR.out k3; have hs3 := k3.size) | (refine step_join rfl (.tmp 223) (.tmp 227) rfl X.heap.size _ ((23 :: wd addr) ++ wds [n, addr2, nr]) [2 * nr % 256] (Y.heap.size + 1) 1 1 rfl rfl rfl own2 (one_lit lit2 E2.out) (by simp [wd, wds]) (by omega) ?_; intro v3 w3 own3 k3; obtain ⟨i0, i1, i2, i3, i4, i5⟩ := (Box.mk j0 j1 j2 j3 j4 j5).below k3 hXs; have LB3 := LB2.keep OB.out k3; have LR3 := LR2.keep OR.out k3; have hs3 := k3.size) | (refine step_join rfl (.tmp 223) (.tmp 227) rfl X.heap.size _ ((23 :: wd addr) ++ wds [n, addr2, nr]) [2 * nr % 256] Y.heap.size 1 1 rfl rfl rfl own2 (one_lit lit2 E2.out) (by simp [wd, wds]) (by omega) ?_; intro v3 w3 own3 k3; obtain ⟨i0, i1, i2, i3, i4, i5⟩ := (Box.mk j0 j1 j2 j3 j4 j5).below k3 hXs; have LB3 := LB2.keep OB.out k3; have LR3 := LR2.keep OR.out k3; have hs3 := k3.size) | (go_at_call 36; refine (two_c hWR (by have := HNR.out; simp [wd, wds]; omega) own3 LR3 (OR.out.off _) (by omega)).mono ?_; rintro e w5 ⟨v5, rfl, own5, k5⟩; obtain ⟨m0, m1, m2, m3, m4, m5⟩ := (Box.mk i0 i1 i2 i3 i4 i5).below k5 hXs; have K4 : Hid (Below w.heap.size w w5) := KY.out.trans ((k2.mono (Nat.le_of_lt hXs)).trans ((k3.mono (Nat.le_of_lt hXs)).trans ((k5.mono (Nat.le_of_lt hXs))))); have own5 : Hid (w5.ownsRow X.heap.size 5 1 v5 _ _) := own5; clear k2 k3 k5 own2 own3))
  all_goals
    go_wp2
    go_ret2
    exact ⟨rfl, K4.out⟩
set_option linter.unusedSimpArgs false in
set_option linter.unusedVariables false in
set_option maxRecDepth 100000 in
set_option maxHeartbeats 1600000 in
theorem rreq23_1 (addr n addr2 nb nr bc rc : Nat) (bits : List Bool) (regs : List Nat) (bo ro : Option Addr) (w : World) (ok : Rq.Ok ⟨23, addr, n, addr2, bits, regs⟩) (h1 : Sl w (.slice bo nb bc) (bls bits)) (h2 : Sl w (.slice ro nr rc) (u16s regs)) (hnb : nb = bits.length) (hnr : nr = regs.length) (lb : nb ≤ 2500) (lr : nr ≤ 200) (p0 : 1 ≤ n ∧ n ≤ 125) (p1 : ¬ (nb = 0)) :
    Calls Try.prog 12 #[rqV 23 addr n addr2 (.slice bo nb bc) (.slice ro nr rc)] w fun e w' => e = .returned (.tuple #[.slice none 0 0, .int .i64 30]) ∧ Below w.heap.size w w' := by
  have Q0 : Hid (((1 : Int) ≤ (n : Int) ∧ (n : Int) ≤ 125)) := by unfold Hid; omega
  have q1 : ((nb : Int) == 0) = false := by rw [beq_eq_false_iff_ne]; omega
  have HNB : Hid (nb = bits.length) := hnb
  have HNR : Hid (nr = regs.length) := hnr
  have SB : Hid (Sl w (.slice bo nb bc) (bls bits)) := h1
  have SR : Hid (Sl w (.slice ro nr rc) (u16s regs)) := h2
  have hN : n < 65536 := ok.n
  have hA : addr < 65536 := ok.addr
  have hWR : Words regs := ok.regs
  have OK : Hid (Rq.Ok ⟨23, addr, n, addr2, bits, regs⟩) := ok
  have P0 : Hid (1 ≤ n ∧ n ≤ 125) := p0
  have P1 : Hid (¬ (nb = 0)) := p1
  clear hnb hnr h1 h2 ok p0 p1
  have e1 : IntKind.i64.wrap (2 * (nr : Int)) = 2 * (nr : Int) := by rw [IntKind.wrap_i64]; omega
  have e3 : IntKind.u16.wrap (nr : Int) = (nr : Int) := by rw [IntKind.wrap_u16]; omega
  have E2 : Hid (IntKind.u8.wrap (2 * (nr : Int)) = ((2 * nr % 256 : Nat) : Int)) := dbl_wrap nr
  have hA2 : addr2 < 65536 := OK.out.addr2
  unfold rqV
  go_enter Try.func12, Try.ntmps12
  go_wp2
  generalize hX : World.alloc w _ = X
  have BX : Hid (Box X w.heap.size (.int .u8 23) (.int .u16 addr) (.int .u16 n) (.int .u16 addr2) (.slice bo nb bc) (.slice ro nr rc)) := by rw [← hX]; exact Box.new w _ _ _ _ _ _ _
  have KX : Hid (Below w.heap.size w X) := by rw [← hX]; exact below_new (Below.refl _ w) _
  have hXs : w.heap.size < X.heap.size := by rw [← hX, World.size_alloc]; omega
  clear hX
  obtain ⟨c0, c1, c2, c3, c4, c5⟩ := BX.out
  have d0 := fun (k : Nat) (o : Obj) => ((BX.out.drewN k).grow o).c0
  have d1 := fun (k : Nat) (o : Obj) => ((BX.out.drewN k).grow o).c1
  have d2 := fun (k : Nat) (o : Obj) => ((BX.out.drewN k).grow o).c2
  have d3 := fun (k : Nat) (o : Obj) => ((BX.out.drewN k).grow o).c3
  have d4 := fun (k : Nat) (o : Obj) => ((BX.out.drewN k).grow o).c4
  have d5 := fun (k : Nat) (o : Obj) => ((BX.out.drewN k).grow o).c5
  go_quiet (fail)
  go_wp2_with fail
  refine (first_two hA (X.drewN _)).mono ?_
  rintro e Y ⟨vY, rfl, ownY, kY⟩
  have OY : Hid (Y.ownsRow X.heap.size 5 1 vY (23 :: wd addr).length (u8s (23 :: wd addr))) := ownY
  have KY : Hid (Below w.heap.size w Y) := (below_drewN KX.out _).trans (kY.mono (Nat.le_of_lt hXs))
  have hYs : X.heap.size ≤ Y.heap.size := kY.size
  have hWY : w.heap.size < Y.heap.size := Nat.lt_of_lt_of_le hXs hYs
  have BY : Hid (Box Y w.heap.size (.int .u8 23) (.int .u16 addr) (.int .u16 n) (.int .u16 addr2) (.slice bo nb bc) (.slice ro nr rc)) := (BX.out.drewN _).below kY hXs
  have LB : Hid (Sl Y (.slice bo nb bc) (bls bits)) := SB.out.below KY.out
  have LR : Hid (Sl Y (.slice ro nr rc) (u16s regs)) := SR.out.below KY.out
  have OB : Hid (Old X.heap.size (.slice bo nb bc) (bls bits)) := SB.out.old (Nat.le_of_lt hXs)
  have OR : Hid (Old X.heap.size (.slice ro nr rc) (u16s regs)) := SR.out.old (Nat.le_of_lt hXs)
  clear ownY kY c0 c1 c2 c3 c4 c5 d0 d1 d2 d3 d4 d5 BX
  obtain ⟨c0, c1, c2, c3, c4, c5⟩ := BY.out
  go_wp2_with fail
  refine (rwithin_t _ _ _ _ Q0.out).mono ?_
  rintro e w' ⟨rfl, hw⟩
  subst w'
  go_wp2
  have hWY1 : w.heap.size < Y.heap.size + 1 := by omega
  have hWY2 : w.heap.size < Y.heap.size + 1 + 1 := by omega
  have TA := hid_in (next_two_d (base := X.heap.size) (bs := (23 :: wd addr)) (l := [n, addr2, nr]) (n := 3) (a := #[.int .u16 (n : Int), .int .u16 (addr2 : Int), .int .u16 (nr : Int)]) rfl rfl (words_three hN hA2 (by omega)) (by simp [wd]) OY.out hYs)
  have TB := hid_in (two_B (base := X.heap.size) (bs := (23 :: wd addr)) (l := [n, addr2, nr]) (n := 3) (a := #[.int .u16 (n : Int), .int .u16 (addr2 : Int), .int .u16 (nr : Int)]) (z := (IntKind.u8.wrap (2 * (nr : Int)))) rfl rfl (words_three hN hA2 (by omega)) (by simp [wd]) OY.out hYs)
  have TC := hid_in (two_C (base := X.heap.size) (bs := (23 :: wd addr)) (l := [n, addr2, nr]) (n := 3) (a := #[.int .u16 (n : Int), .int .u16 (addr2 : Int), .int .u16 (nr : Int)]) (z := (IntKind.u8.wrap (2 * (nr : Int)))) rfl rfl (words_three hN hA2 (by omega)) (by simp [wd]) OY.out hYs)
  go_region_held3 (fun w' => w'.cell? ⟨w.heap.size, 2, none⟩ = some (.int .u16 n) ∧ w'.cell? ⟨w.heap.size, 3, none⟩ = some (.int .u16 addr2) ∧ w'.cell? ⟨w.heap.size, 5, none⟩ = some (.slice ro nr rc)) (first | exact ⟨m2, m3, m5⟩ | exact ⟨l2, l3, l5⟩ | exact ⟨i2, i3, i5⟩ | exact ⟨j2, j3, j5⟩ | exact ⟨c2, c3, c5⟩ | (simp [World.cell?_alloc_past, hWY, hWY1, hWY2, c2, c3, c5]; done) | (simp [World.cell?_alloc_past, hs2w, j2, j3, j5]; done)) (first | (go_at_call 36; with_reducible refine TA.out.mono ?_; rintro e w2 ⟨v2, rfl, own2, k2⟩; obtain ⟨j0, j1, j2, j3, j4, j5⟩ := BY.out.below k2 hXs; have LB2 := LB.out.keep OB.out k2; have LR2 := LR.out.keep OR.out k2; have hs2 := k2.size; have hs2w : w.heap.size < w2.heap.size := by omega) | (go_at_call 36; with_reducible refine TB.out.mono ?_; rintro e w2 ⟨v2, rfl, own2, k2, lit2⟩; obtain ⟨j0, j1, j2, j3, j4, j5⟩ := BY.out.below k2 hXs; have LB2 := LB.out.keep OB.out k2; have LR2 := LR.out.keep OR.out k2; have hs2 := k2.size; have hs2w : w.heap.size < w2.heap.size := by omega) | (go_at_call 36; with_reducible refine TC.out.mono ?_; rintro e w2 ⟨v2, rfl, own2, k2, lit2⟩; obtain ⟨j0, j1, j2, j3, j4, j5⟩ := BY.out.below k2 hXs; have LB2 := LB.out.keep OB.out k2; have LR2 := LR.out.keep OR.out k2; have hs2 := k2.size; have hs2w : w.heap.size < w2.heap.size := by omega) | (refine step_push0 rfl (.tmp 223) (.tmp 227) rfl X.heap.size _ ((23 :: wd addr) ++ wds [n, addr2, nr]) (2 * nr % 256) _ (by exact E2.out) rfl rfl own2 (by simp [wd, wds]) (by omega) ?_; intro v3 w3 own3 k3; obtain ⟨i0, i1, i2, i3, i4, i5⟩ := (Box.mk j0 j1 j2 j3 j4 j5).below k3 hXs; have LB3 := LB2.keep OB.out k3; have LR3 := LR2.keep OR.out k3; have hs3 := k3.size) | (refine step_join rfl (.tmp 223) (.tmp 227) rfl X.heap.size _ ((23 :: wd addr) ++ wds [n, addr2, nr]) [2 * nr % 256] (Y.heap.size + 1) 1 1 rfl rfl rfl own2 (one_lit lit2 E2.out) (by simp [wd, wds]) (by omega) ?_; intro v3 w3 own3 k3; obtain ⟨i0, i1, i2, i3, i4, i5⟩ := (Box.mk j0 j1 j2 j3 j4 j5).below k3 hXs; have LB3 := LB2.keep OB.out k3; have LR3 := LR2.keep OR.out k3; have hs3 := k3.size) | (refine step_join rfl (.tmp 223) (.tmp 227) rfl X.heap.size _ ((23 :: wd addr) ++ wds [n, addr2, nr]) [2 * nr % 256] Y.heap.size 1 1 rfl rfl rfl own2 (one_lit lit2 E2.out) (by simp [wd, wds]) (by omega) ?_; intro v3 w3 own3 k3; obtain ⟨i0, i1, i2, i3, i4, i5⟩ := (Box.mk j0 j1 j2 j3 j4 j5).below k3 hXs; have LB3 := LB2.keep OB.out k3; have LR3 := LR2.keep OR.out k3; have hs3 := k3.size) | (go_at_call 36; refine (two_c hWR (by have := HNR.out; simp [wd, wds]; omega) own3 LR3 (OR.out.off _) (by omega)).mono ?_; rintro e w5 ⟨v5, rfl, own5, k5⟩; obtain ⟨m0, m1, m2, m3, m4, m5⟩ := (Box.mk i0 i1 i2 i3 i4 i5).below k5 hXs; have K4 : Hid (Below w.heap.size w w5) := KY.out.trans ((k2.mono (Nat.le_of_lt hXs)).trans ((k3.mono (Nat.le_of_lt hXs)).trans ((k5.mono (Nat.le_of_lt hXs))))); have own5 : Hid (w5.ownsRow X.heap.size 5 1 v5 _ _) := own5; clear k2 k3 k5 own2 own3))
  all_goals
    go_wp2
    go_ret2
    exact ⟨rfl, K4.out⟩
set_option linter.unusedSimpArgs false in
set_option linter.unusedVariables false in
set_option maxRecDepth 100000 in
set_option maxHeartbeats 1600000 in
theorem rreq23_2 (addr n addr2 nb nr bc rc : Nat) (bits : List Bool) (regs : List Nat) (bo ro : Option Addr) (w : World) (ok : Rq.Ok ⟨23, addr, n, addr2, bits, regs⟩) (h1 : Sl w (.slice bo nb bc) (bls bits)) (h2 : Sl w (.slice ro nr rc) (u16s regs)) (hnb : nb = bits.length) (hnr : nr = regs.length) (lb : nb ≤ 2500) (lr : nr ≤ 200) (p0 : 1 ≤ n ∧ n ≤ 125) (p1 : nb = 0) (p2 : ¬ (1 ≤ nr ∧ nr ≤ 121)) :
    Calls Try.prog 12 #[rqV 23 addr n addr2 (.slice bo nb bc) (.slice ro nr rc)] w fun e w' => e = .returned (.tuple #[.slice none 0 0, .int .i64 30]) ∧ Below w.heap.size w w' := by
  have Q0 : Hid (((1 : Int) ≤ (n : Int) ∧ (n : Int) ≤ 125)) := by unfold Hid; omega
  have q1 : ((nb : Int) == 0) = true := by rw [beq_iff_eq]; omega
  have Q2 : Hid (¬ ((1 : Int) ≤ (nr : Int) ∧ (nr : Int) ≤ 121)) := by unfold Hid; omega
  have HNB : Hid (nb = bits.length) := hnb
  have HNR : Hid (nr = regs.length) := hnr
  have SB : Hid (Sl w (.slice bo nb bc) (bls bits)) := h1
  have SR : Hid (Sl w (.slice ro nr rc) (u16s regs)) := h2
  have hN : n < 65536 := ok.n
  have hA : addr < 65536 := ok.addr
  have hWR : Words regs := ok.regs
  have OK : Hid (Rq.Ok ⟨23, addr, n, addr2, bits, regs⟩) := ok
  have P0 : Hid (1 ≤ n ∧ n ≤ 125) := p0
  have P1 : Hid (nb = 0) := p1
  have P2 : Hid (¬ (1 ≤ nr ∧ nr ≤ 121)) := p2
  clear hnb hnr h1 h2 ok p0 p1 p2
  have e1 : IntKind.i64.wrap (2 * (nr : Int)) = 2 * (nr : Int) := by rw [IntKind.wrap_i64]; omega
  have e3 : IntKind.u16.wrap (nr : Int) = (nr : Int) := by rw [IntKind.wrap_u16]; omega
  have E2 : Hid (IntKind.u8.wrap (2 * (nr : Int)) = ((2 * nr % 256 : Nat) : Int)) := dbl_wrap nr
  have hA2 : addr2 < 65536 := OK.out.addr2
  unfold rqV
  go_enter Try.func12, Try.ntmps12
  go_wp2
  generalize hX : World.alloc w _ = X
  have BX : Hid (Box X w.heap.size (.int .u8 23) (.int .u16 addr) (.int .u16 n) (.int .u16 addr2) (.slice bo nb bc) (.slice ro nr rc)) := by rw [← hX]; exact Box.new w _ _ _ _ _ _ _
  have KX : Hid (Below w.heap.size w X) := by rw [← hX]; exact below_new (Below.refl _ w) _
  have hXs : w.heap.size < X.heap.size := by rw [← hX, World.size_alloc]; omega
  clear hX
  obtain ⟨c0, c1, c2, c3, c4, c5⟩ := BX.out
  have d0 := fun (k : Nat) (o : Obj) => ((BX.out.drewN k).grow o).c0
  have d1 := fun (k : Nat) (o : Obj) => ((BX.out.drewN k).grow o).c1
  have d2 := fun (k : Nat) (o : Obj) => ((BX.out.drewN k).grow o).c2
  have d3 := fun (k : Nat) (o : Obj) => ((BX.out.drewN k).grow o).c3
  have d4 := fun (k : Nat) (o : Obj) => ((BX.out.drewN k).grow o).c4
  have d5 := fun (k : Nat) (o : Obj) => ((BX.out.drewN k).grow o).c5
  go_quiet (fail)
  go_wp2_with fail
  refine (first_two hA (X.drewN _)).mono ?_
  rintro e Y ⟨vY, rfl, ownY, kY⟩
  have OY : Hid (Y.ownsRow X.heap.size 5 1 vY (23 :: wd addr).length (u8s (23 :: wd addr))) := ownY
  have KY : Hid (Below w.heap.size w Y) := (below_drewN KX.out _).trans (kY.mono (Nat.le_of_lt hXs))
  have hYs : X.heap.size ≤ Y.heap.size := kY.size
  have hWY : w.heap.size < Y.heap.size := Nat.lt_of_lt_of_le hXs hYs
  have BY : Hid (Box Y w.heap.size (.int .u8 23) (.int .u16 addr) (.int .u16 n) (.int .u16 addr2) (.slice bo nb bc) (.slice ro nr rc)) := (BX.out.drewN _).below kY hXs
  have LB : Hid (Sl Y (.slice bo nb bc) (bls bits)) := SB.out.below KY.out
  have LR : Hid (Sl Y (.slice ro nr rc) (u16s regs)) := SR.out.below KY.out
  have OB : Hid (Old X.heap.size (.slice bo nb bc) (bls bits)) := SB.out.old (Nat.le_of_lt hXs)
  have OR : Hid (Old X.heap.size (.slice ro nr rc) (u16s regs)) := SR.out.old (Nat.le_of_lt hXs)
  clear ownY kY c0 c1 c2 c3 c4 c5 d0 d1 d2 d3 d4 d5 BX
  obtain ⟨c0, c1, c2, c3, c4, c5⟩ := BY.out
  go_wp2_with fail
  refine (rwithin_t _ _ _ _ Q0.out).mono ?_
  rintro e w' ⟨rfl, hw⟩
  subst w'
  go_wp2_with fail
  refine (rwithin_f _ _ _ _ Q2.out).mono ?_
  rintro e w' ⟨rfl, hw⟩
  subst w'
  go_wp2
  have hWY1 : w.heap.size < Y.heap.size + 1 := by omega
  have hWY2 : w.heap.size < Y.heap.size + 1 + 1 := by omega
  have TA := hid_in (next_two_d (base := X.heap.size) (bs := (23 :: wd addr)) (l := [n, addr2, nr]) (n := 3) (a := #[.int .u16 (n : Int), .int .u16 (addr2 : Int), .int .u16 (nr : Int)]) rfl rfl (words_three hN hA2 (by omega)) (by simp [wd]) OY.out hYs)
  have TB := hid_in (two_B (base := X.heap.size) (bs := (23 :: wd addr)) (l := [n, addr2, nr]) (n := 3) (a := #[.int .u16 (n : Int), .int .u16 (addr2 : Int), .int .u16 (nr : Int)]) (z := (IntKind.u8.wrap (2 * (nr : Int)))) rfl rfl (words_three hN hA2 (by omega)) (by simp [wd]) OY.out hYs)
  have TC := hid_in (two_C (base := X.heap.size) (bs := (23 :: wd addr)) (l := [n, addr2, nr]) (n := 3) (a := #[.int .u16 (n : Int), .int .u16 (addr2 : Int), .int .u16 (nr : Int)]) (z := (IntKind.u8.wrap (2 * (nr : Int)))) rfl rfl (words_three hN hA2 (by omega)) (by simp [wd]) OY.out hYs)
  go_region_held3 (fun w' => w'.cell? ⟨w.heap.size, 2, none⟩ = some (.int .u16 n) ∧ w'.cell? ⟨w.heap.size, 3, none⟩ = some (.int .u16 addr2) ∧ w'.cell? ⟨w.heap.size, 5, none⟩ = some (.slice ro nr rc)) (first | exact ⟨m2, m3, m5⟩ | exact ⟨l2, l3, l5⟩ | exact ⟨i2, i3, i5⟩ | exact ⟨j2, j3, j5⟩ | exact ⟨c2, c3, c5⟩ | (simp [World.cell?_alloc_past, hWY, hWY1, hWY2, c2, c3, c5]; done) | (simp [World.cell?_alloc_past, hs2w, j2, j3, j5]; done)) (first | (go_at_call 36; with_reducible refine TA.out.mono ?_; rintro e w2 ⟨v2, rfl, own2, k2⟩; obtain ⟨j0, j1, j2, j3, j4, j5⟩ := BY.out.below k2 hXs; have LB2 := LB.out.keep OB.out k2; have LR2 := LR.out.keep OR.out k2; have hs2 := k2.size; have hs2w : w.heap.size < w2.heap.size := by omega) | (go_at_call 36; with_reducible refine TB.out.mono ?_; rintro e w2 ⟨v2, rfl, own2, k2, lit2⟩; obtain ⟨j0, j1, j2, j3, j4, j5⟩ := BY.out.below k2 hXs; have LB2 := LB.out.keep OB.out k2; have LR2 := LR.out.keep OR.out k2; have hs2 := k2.size; have hs2w : w.heap.size < w2.heap.size := by omega) | (go_at_call 36; with_reducible refine TC.out.mono ?_; rintro e w2 ⟨v2, rfl, own2, k2, lit2⟩; obtain ⟨j0, j1, j2, j3, j4, j5⟩ := BY.out.below k2 hXs; have LB2 := LB.out.keep OB.out k2; have LR2 := LR.out.keep OR.out k2; have hs2 := k2.size; have hs2w : w.heap.size < w2.heap.size := by omega) | (refine step_push0 rfl (.tmp 223) (.tmp 227) rfl X.heap.size _ ((23 :: wd addr) ++ wds [n, addr2, nr]) (2 * nr % 256) _ (by exact E2.out) rfl rfl own2 (by simp [wd, wds]) (by omega) ?_; intro v3 w3 own3 k3; obtain ⟨i0, i1, i2, i3, i4, i5⟩ := (Box.mk j0 j1 j2 j3 j4 j5).below k3 hXs; have LB3 := LB2.keep OB.out k3; have LR3 := LR2.keep OR.out k3; have hs3 := k3.size) | (refine step_join rfl (.tmp 223) (.tmp 227) rfl X.heap.size _ ((23 :: wd addr) ++ wds [n, addr2, nr]) [2 * nr % 256] (Y.heap.size + 1) 1 1 rfl rfl rfl own2 (one_lit lit2 E2.out) (by simp [wd, wds]) (by omega) ?_; intro v3 w3 own3 k3; obtain ⟨i0, i1, i2, i3, i4, i5⟩ := (Box.mk j0 j1 j2 j3 j4 j5).below k3 hXs; have LB3 := LB2.keep OB.out k3; have LR3 := LR2.keep OR.out k3; have hs3 := k3.size) | (refine step_join rfl (.tmp 223) (.tmp 227) rfl X.heap.size _ ((23 :: wd addr) ++ wds [n, addr2, nr]) [2 * nr % 256] Y.heap.size 1 1 rfl rfl rfl own2 (one_lit lit2 E2.out) (by simp [wd, wds]) (by omega) ?_; intro v3 w3 own3 k3; obtain ⟨i0, i1, i2, i3, i4, i5⟩ := (Box.mk j0 j1 j2 j3 j4 j5).below k3 hXs; have LB3 := LB2.keep OB.out k3; have LR3 := LR2.keep OR.out k3; have hs3 := k3.size) | (go_at_call 36; refine (two_c hWR (by have := HNR.out; simp [wd, wds]; omega) own3 LR3 (OR.out.off _) (by omega)).mono ?_; rintro e w5 ⟨v5, rfl, own5, k5⟩; obtain ⟨m0, m1, m2, m3, m4, m5⟩ := (Box.mk i0 i1 i2 i3 i4 i5).below k5 hXs; have K4 : Hid (Below w.heap.size w w5) := KY.out.trans ((k2.mono (Nat.le_of_lt hXs)).trans ((k3.mono (Nat.le_of_lt hXs)).trans ((k5.mono (Nat.le_of_lt hXs))))); have own5 : Hid (w5.ownsRow X.heap.size 5 1 v5 _ _) := own5; clear k2 k3 k5 own2 own3))
  all_goals
    go_wp2
    go_ret2
    exact ⟨rfl, K4.out⟩
set_option linter.unusedSimpArgs false in
set_option linter.unusedVariables false in
set_option maxRecDepth 100000 in
set_option maxHeartbeats 1600000 in
theorem rreq23_3 (addr n addr2 nb nr bc rc : Nat) (bits : List Bool) (regs : List Nat) (bo ro : Option Addr) (w : World) (ok : Rq.Ok ⟨23, addr, n, addr2, bits, regs⟩) (h1 : Sl w (.slice bo nb bc) (bls bits)) (h2 : Sl w (.slice ro nr rc) (u16s regs)) (hnb : nb = bits.length) (hnr : nr = regs.length) (lb : nb ≤ 2500) (lr : nr ≤ 200) (p0 : 1 ≤ n ∧ n ≤ 125) (p1 : nb = 0) (p2 : 1 ≤ nr ∧ nr ≤ 121) :
    Calls Try.prog 12 #[rqV 23 addr n addr2 (.slice bo nb bc) (.slice ro nr rc)] w fun e w' => (∃ v', e = .returned (.tuple #[v', .int .i64 0]) ∧ w'.ownsRow w.heap.size 5 1 v' (reqBytes ⟨23, addr, n, addr2, bits, regs⟩).length (u8s (reqBytes ⟨23, addr, n, addr2, bits, regs⟩))) ∧ Below w.heap.size w w' := by
  have Q0 : Hid (((1 : Int) ≤ (n : Int) ∧ (n : Int) ≤ 125)) := by unfold Hid; omega
  have q1 : ((nb : Int) == 0) = true := by rw [beq_iff_eq]; omega
  have Q2 : Hid (((1 : Int) ≤ (nr : Int) ∧ (nr : Int) ≤ 121)) := by unfold Hid; omega
  have HNB : Hid (nb = bits.length) := hnb
  have HNR : Hid (nr = regs.length) := hnr
  have SB : Hid (Sl w (.slice bo nb bc) (bls bits)) := h1
  have SR : Hid (Sl w (.slice ro nr rc) (u16s regs)) := h2
  have hN : n < 65536 := ok.n
  have hA : addr < 65536 := ok.addr
  have hWR : Words regs := ok.regs
  have OK : Hid (Rq.Ok ⟨23, addr, n, addr2, bits, regs⟩) := ok
  have P0 : Hid (1 ≤ n ∧ n ≤ 125) := p0
  have P1 : Hid (nb = 0) := p1
  have P2 : Hid (1 ≤ nr ∧ nr ≤ 121) := p2
  clear hnb hnr h1 h2 ok p0 p1 p2
  have e1 : IntKind.i64.wrap (2 * (nr : Int)) = 2 * (nr : Int) := by rw [IntKind.wrap_i64]; omega
  have e3 : IntKind.u16.wrap (nr : Int) = (nr : Int) := by rw [IntKind.wrap_u16]; omega
  have E2 : Hid (IntKind.u8.wrap (2 * (nr : Int)) = ((2 * nr % 256 : Nat) : Int)) := dbl_wrap nr
  have hA2 : addr2 < 65536 := OK.out.addr2
  unfold rqV
  go_enter Try.func12, Try.ntmps12
  go_wp2
  generalize hX : World.alloc w _ = X
  have BX : Hid (Box X w.heap.size (.int .u8 23) (.int .u16 addr) (.int .u16 n) (.int .u16 addr2) (.slice bo nb bc) (.slice ro nr rc)) := by rw [← hX]; exact Box.new w _ _ _ _ _ _ _
  have KX : Hid (Below w.heap.size w X) := by rw [← hX]; exact below_new (Below.refl _ w) _
  have hXs : w.heap.size < X.heap.size := by rw [← hX, World.size_alloc]; omega
  clear hX
  obtain ⟨c0, c1, c2, c3, c4, c5⟩ := BX.out
  have d0 := fun (k : Nat) (o : Obj) => ((BX.out.drewN k).grow o).c0
  have d1 := fun (k : Nat) (o : Obj) => ((BX.out.drewN k).grow o).c1
  have d2 := fun (k : Nat) (o : Obj) => ((BX.out.drewN k).grow o).c2
  have d3 := fun (k : Nat) (o : Obj) => ((BX.out.drewN k).grow o).c3
  have d4 := fun (k : Nat) (o : Obj) => ((BX.out.drewN k).grow o).c4
  have d5 := fun (k : Nat) (o : Obj) => ((BX.out.drewN k).grow o).c5
  go_quiet (fail)
  go_wp2_with fail
  refine (first_two hA (X.drewN _)).mono ?_
  rintro e Y ⟨vY, rfl, ownY, kY⟩
  have OY : Hid (Y.ownsRow X.heap.size 5 1 vY (23 :: wd addr).length (u8s (23 :: wd addr))) := ownY
  have KY : Hid (Below w.heap.size w Y) := (below_drewN KX.out _).trans (kY.mono (Nat.le_of_lt hXs))
  have hYs : X.heap.size ≤ Y.heap.size := kY.size
  have hWY : w.heap.size < Y.heap.size := Nat.lt_of_lt_of_le hXs hYs
  have BY : Hid (Box Y w.heap.size (.int .u8 23) (.int .u16 addr) (.int .u16 n) (.int .u16 addr2) (.slice bo nb bc) (.slice ro nr rc)) := (BX.out.drewN _).below kY hXs
  have LB : Hid (Sl Y (.slice bo nb bc) (bls bits)) := SB.out.below KY.out
  have LR : Hid (Sl Y (.slice ro nr rc) (u16s regs)) := SR.out.below KY.out
  have OB : Hid (Old X.heap.size (.slice bo nb bc) (bls bits)) := SB.out.old (Nat.le_of_lt hXs)
  have OR : Hid (Old X.heap.size (.slice ro nr rc) (u16s regs)) := SR.out.old (Nat.le_of_lt hXs)
  clear ownY kY c0 c1 c2 c3 c4 c5 d0 d1 d2 d3 d4 d5 BX
  obtain ⟨c0, c1, c2, c3, c4, c5⟩ := BY.out
  go_wp2_with fail
  refine (rwithin_t _ _ _ _ Q0.out).mono ?_
  rintro e w' ⟨rfl, hw⟩
  subst w'
  go_wp2_with fail
  refine (rwithin_t _ _ _ _ Q2.out).mono ?_
  rintro e w' ⟨rfl, hw⟩
  subst w'
  go_wp2
  have hWY1 : w.heap.size < Y.heap.size + 1 := by omega
  have hWY2 : w.heap.size < Y.heap.size + 1 + 1 := by omega
  have TA := hid_in (next_two_d (base := X.heap.size) (bs := (23 :: wd addr)) (l := [n, addr2, nr]) (n := 3) (a := #[.int .u16 (n : Int), .int .u16 (addr2 : Int), .int .u16 (nr : Int)]) rfl rfl (words_three hN hA2 (by omega)) (by simp [wd]) OY.out hYs)
  have TB := hid_in (two_B (base := X.heap.size) (bs := (23 :: wd addr)) (l := [n, addr2, nr]) (n := 3) (a := #[.int .u16 (n : Int), .int .u16 (addr2 : Int), .int .u16 (nr : Int)]) (z := (IntKind.u8.wrap (2 * (nr : Int)))) rfl rfl (words_three hN hA2 (by omega)) (by simp [wd]) OY.out hYs)
  have TC := hid_in (two_C (base := X.heap.size) (bs := (23 :: wd addr)) (l := [n, addr2, nr]) (n := 3) (a := #[.int .u16 (n : Int), .int .u16 (addr2 : Int), .int .u16 (nr : Int)]) (z := (IntKind.u8.wrap (2 * (nr : Int)))) rfl rfl (words_three hN hA2 (by omega)) (by simp [wd]) OY.out hYs)
  go_region_held3 (fun w' => w'.cell? ⟨w.heap.size, 2, none⟩ = some (.int .u16 n) ∧ w'.cell? ⟨w.heap.size, 3, none⟩ = some (.int .u16 addr2) ∧ w'.cell? ⟨w.heap.size, 5, none⟩ = some (.slice ro nr rc)) (first | exact ⟨m2, m3, m5⟩ | exact ⟨l2, l3, l5⟩ | exact ⟨i2, i3, i5⟩ | exact ⟨j2, j3, j5⟩ | exact ⟨c2, c3, c5⟩ | (simp [World.cell?_alloc_past, hWY, hWY1, hWY2, c2, c3, c5]; done) | (simp [World.cell?_alloc_past, hs2w, j2, j3, j5]; done)) (first | (go_at_call 36; with_reducible refine TA.out.mono ?_; rintro e w2 ⟨v2, rfl, own2, k2⟩; obtain ⟨j0, j1, j2, j3, j4, j5⟩ := BY.out.below k2 hXs; have LB2 := LB.out.keep OB.out k2; have LR2 := LR.out.keep OR.out k2; have hs2 := k2.size; have hs2w : w.heap.size < w2.heap.size := by omega) | (go_at_call 36; with_reducible refine TB.out.mono ?_; rintro e w2 ⟨v2, rfl, own2, k2, lit2⟩; obtain ⟨j0, j1, j2, j3, j4, j5⟩ := BY.out.below k2 hXs; have LB2 := LB.out.keep OB.out k2; have LR2 := LR.out.keep OR.out k2; have hs2 := k2.size; have hs2w : w.heap.size < w2.heap.size := by omega) | (go_at_call 36; with_reducible refine TC.out.mono ?_; rintro e w2 ⟨v2, rfl, own2, k2, lit2⟩; obtain ⟨j0, j1, j2, j3, j4, j5⟩ := BY.out.below k2 hXs; have LB2 := LB.out.keep OB.out k2; have LR2 := LR.out.keep OR.out k2; have hs2 := k2.size; have hs2w : w.heap.size < w2.heap.size := by omega) | (refine step_push0 rfl (.tmp 223) (.tmp 227) rfl X.heap.size _ ((23 :: wd addr) ++ wds [n, addr2, nr]) (2 * nr % 256) _ (by exact E2.out) rfl rfl own2 (by simp [wd, wds]) (by omega) ?_; intro v3 w3 own3 k3; obtain ⟨i0, i1, i2, i3, i4, i5⟩ := (Box.mk j0 j1 j2 j3 j4 j5).below k3 hXs; have LB3 := LB2.keep OB.out k3; have LR3 := LR2.keep OR.out k3; have hs3 := k3.size) | (refine step_join rfl (.tmp 223) (.tmp 227) rfl X.heap.size _ ((23 :: wd addr) ++ wds [n, addr2, nr]) [2 * nr % 256] (Y.heap.size + 1) 1 1 rfl rfl rfl own2 (one_lit lit2 E2.out) (by simp [wd, wds]) (by omega) ?_; intro v3 w3 own3 k3; obtain ⟨i0, i1, i2, i3, i4, i5⟩ := (Box.mk j0 j1 j2 j3 j4 j5).below k3 hXs; have LB3 := LB2.keep OB.out k3; have LR3 := LR2.keep OR.out k3; have hs3 := k3.size) | (refine step_join rfl (.tmp 223) (.tmp 227) rfl X.heap.size _ ((23 :: wd addr) ++ wds [n, addr2, nr]) [2 * nr % 256] Y.heap.size 1 1 rfl rfl rfl own2 (one_lit lit2 E2.out) (by simp [wd, wds]) (by omega) ?_; intro v3 w3 own3 k3; obtain ⟨i0, i1, i2, i3, i4, i5⟩ := (Box.mk j0 j1 j2 j3 j4 j5).below k3 hXs; have LB3 := LB2.keep OB.out k3; have LR3 := LR2.keep OR.out k3; have hs3 := k3.size) | (go_at_call 36; refine (two_c hWR (by have := HNR.out; simp [wd, wds]; omega) own3 LR3 (OR.out.off _) (by omega)).mono ?_; rintro e w5 ⟨v5, rfl, own5, k5⟩; obtain ⟨m0, m1, m2, m3, m4, m5⟩ := (Box.mk i0 i1 i2 i3 i4 i5).below k5 hXs; have K4 : Hid (Below w.heap.size w w5) := KY.out.trans ((k2.mono (Nat.le_of_lt hXs)).trans ((k3.mono (Nat.le_of_lt hXs)).trans ((k5.mono (Nat.le_of_lt hXs))))); have own5 : Hid (w5.ownsRow X.heap.size 5 1 v5 _ _) := own5; clear k2 k3 k5 own2 own3))
  all_goals
    go_wp2
    go_ret2
    refine ⟨⟨_, rfl, ?_⟩, K4.out⟩
    have o5 := own5.out
    rw [show reqBytes ⟨23, addr, n, addr2, bits, regs⟩ = (((23 :: wd addr) ++ wds [n, addr2, nr]) ++ [2 * nr % 256]) ++ wds regs by simp [reqBytes, tail, wds_one, wds_two, wds_three, ← HNR.out]]
    exact own_base o5 (Nat.le_of_lt hXs)
theorem rreq23 {addr n addr2 : Nat} {bits : List Bool} {regs : List Nat} {bv rv : Value} {w : World} (ok : Rq.Ok ⟨23, addr, n, addr2, bits, regs⟩) (h1 : Sl w bv (bls bits)) (h2 : Sl w rv (u16s regs)) (lb : bits.length ≤ 2500) (lr : regs.length ≤ 200) :
    Calls Try.prog 12 #[rqV 23 addr n addr2 bv rv] w fun e w' => RefEnd (Rq.Fits ⟨23, addr, n, addr2, bits, regs⟩) (reqBytes ⟨23, addr, n, addr2, bits, regs⟩) w e w' := by
  obtain ⟨bo, bc, rfl⟩ := h1.shape
  obtain ⟨ro, rc, rfl⟩ := h2.shape
  rw [bls_len] at h1 ⊢
  rw [u16s_len] at h2 ⊢
  have HF : Rq.Fits ⟨23, addr, n, addr2, bits, regs⟩ ↔ ((1 ≤ n ∧ n ≤ 125) ∧ (bits.length = 0) ∧ (1 ≤ regs.length ∧ regs.length ≤ 121)) := by
    unfold Rq.Fits FitsN
    simp only
    generalize bits.length = nb
    generalize regs.length = nr
    simp <;> omega
  by_cases p0 : 1 ≤ n ∧ n ≤ 125
  case neg => exact (rreq23_0 _ _ _ _ _ _ _ bits regs bo ro w ok h1 h2 rfl rfl lb lr p0).mono fun e w' ⟨he, hb⟩ => RefEnd.no (fun h => p0 (HF.1 h).1) he hb
  by_cases p1 : bits.length = 0
  case neg => exact (rreq23_1 _ _ _ _ _ _ _ bits regs bo ro w ok h1 h2 rfl rfl lb lr p0 p1).mono fun e w' ⟨he, hb⟩ => RefEnd.no (fun h => p1 (HF.1 h).2.1) he hb
  by_cases p2 : 1 ≤ regs.length ∧ regs.length ≤ 121
  case neg => exact (rreq23_2 _ _ _ _ _ _ _ bits regs bo ro w ok h1 h2 rfl rfl lb lr p0 p1 p2).mono fun e w' ⟨he, hb⟩ => RefEnd.no (fun h => p2 (HF.1 h).2.2) he hb
  exact (rreq23_3 _ _ _ _ _ _ _ bits regs bo ro w ok h1 h2 rfl rfl lb lr p0 p1 p2).mono fun e w' ⟨⟨v', he, ho⟩, hb⟩ => RefEnd.yes (HF.2 ⟨p0, p1, p2⟩) he ho hb
end Go.Proofs.Ytehbbkdiekgpbaa
