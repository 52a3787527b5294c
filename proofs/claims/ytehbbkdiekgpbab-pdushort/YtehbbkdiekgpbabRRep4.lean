/- The walk: the reference's bytes of a reply, function 4. -/
import Derived.Test.YtehbbkdiekgpbabJ2
namespace Go.Proofs.Ytehbbkdiekgpbab
open Go.RowKit
open Pdu
set_option linter.unusedSimpArgs false in
set_option linter.unusedVariables false in
set_option maxRecDepth 100000 in
set_option maxHeartbeats 1600000 in
theorem rrep4_0 (addr n nb nr bc rc : Nat) (bits : List Bool) (regs : List Nat) (bo ro : Option Addr) (w : World) (ok : Rp.Ok ⟨4, 0, addr, n, bits, regs⟩) (h1 : Sl w (.slice bo nb bc) (bls bits)) (h2 : Sl w (.slice ro nr rc) (u16s regs)) (hnb : nb = bits.length) (hnr : nr = regs.length) (lb : nb ≤ 2500) (lr : nr ≤ 200) (p0 : ¬ (1 ≤ nr ∧ nr ≤ 125)) :
    Calls Try.prog 13 #[rpV 4 0 addr n (.slice bo nb bc) (.slice ro nr rc)] w fun e w' => e = .returned (.tuple #[.slice none 0 0, .int .i64 30]) ∧ Below w.heap.size w w' := by
  have Q0 : Hid (¬ ((1 : Int) ≤ (nr : Int) ∧ (nr : Int) ≤ 125)) := by unfold Hid; omega
  have HNB : Hid (nb = bits.length) := hnb
  have HNR : Hid (nr = regs.length) := hnr
  have SB : Hid (Sl w (.slice bo nb bc) (bls bits)) := h1
  have SR : Hid (Sl w (.slice ro nr rc) (u16s regs)) := h2
  have hN : n < 65536 := ok.n
  have hA : addr < 65536 := ok.addr
  have hWR : Words regs := ok.regs
  have OK : Hid (Rp.Ok ⟨4, 0, addr, n, bits, regs⟩) := ok
  have P0 : Hid (¬ (1 ≤ nr ∧ nr ≤ 125)) := p0
  clear hnb hnr h1 h2 ok p0
  have e1 : IntKind.i64.wrap (2 * (nr : Int)) = 2 * (nr : Int) := by rw [IntKind.wrap_i64]; omega
  have E2 : Hid (IntKind.u8.wrap (2 * (nr : Int)) = ((2 * nr % 256 : Nat) : Int)) := dbl_wrap nr
  unfold rpV
  go_enter Try.func13, Try.ntmps13
  go_wp2
  generalize hX : World.alloc w _ = X
  have BX : Hid (Box X w.heap.size (.int .u8 4) (.int .u8 0) (.int .u16 addr) (.int .u16 n) (.slice bo nb bc) (.slice ro nr rc)) := by rw [← hX]; exact Box.new w _ _ _ _ _ _ _
  have KX : Hid (Below w.heap.size w X) := by rw [← hX]; exact below_new (Below.refl _ w) _
  have hXs : w.heap.size < X.heap.size := by rw [← hX, World.size_alloc]; omega
  clear hX
  obtain ⟨c0, c1, c2, c3, c4, c5⟩ := BX.out
  have d0 := fun (k : Nat) (o : Obj) => ((BX.out.drewN k).grow o).c0
  have d1 := fun (k : Nat) (o : Obj) => ((BX.out.drewN k).grow o).c1
  have d2 := fun (k : Nat) (o : Obj) => ((BX.out.drewN k).grow o).c2
  have d3 := fun (k : Nat) (o : Obj) => ((BX.out.drewN k).grow o).c3
  have d4 := fun (k : Nat) (o : Obj) => ((BX.out.drewN k).grow o).c4
  have d5 := fun (k : Nat) (o : Obj) => ((BX.out.drewN k).grow o).c5
  go_quiet (fail)
  go_wp2_with (go_at_call 25; refine (rwithin_f _ _ _ _ Q0.out).mono ?_; rintro e w' ⟨rfl, hw⟩; subst w')
  generalize hY : World.alloc (World.drewN X _) _ = Y
  have OY : Hid (Y.ownsRow X.heap.size 5 1 (.slice (some ⟨X.heap.size, 0, none⟩) 1 1) [4].length (u8s [4])) := by rw [← hY]; exact lit_own (X.drewN _) 4
  have KY : Hid (Below w.heap.size w Y) := by rw [← hY]; exact below_new (below_drewN KX.out _) _
  have hYs : X.heap.size ≤ Y.heap.size := by rw [← hY, World.size_alloc]; exact Nat.le_succ _
  have hWY : w.heap.size < Y.heap.size := Nat.lt_of_lt_of_le hXs hYs
  have BY : Hid (Box Y w.heap.size (.int .u8 4) (.int .u8 0) (.int .u16 addr) (.int .u16 n) (.slice bo nb bc) (.slice ro nr rc)) := by rw [← hY]; exact (BX.out.drewN _).grow _
  have LB : Hid (Sl Y (.slice bo nb bc) (bls bits)) := SB.out.below KY.out
  have LR : Hid (Sl Y (.slice ro nr rc) (u16s regs)) := SR.out.below KY.out
  have OB : Hid (Old X.heap.size (.slice bo nb bc) (bls bits)) := SB.out.old (Nat.le_of_lt hXs)
  have OR : Hid (Old X.heap.size (.slice ro nr rc) (u16s regs)) := SR.out.old (Nat.le_of_lt hXs)
  clear hY c0 c1 c2 c3 c4 c5 d0 d1 d2 d3 d4 d5 BX
  obtain ⟨c0, c1, c2, c3, c4, c5⟩ := BY.out
  go_region_held3 (fun w' => w'.cell? ⟨w.heap.size, 5, none⟩ = some (.slice ro nr rc)) (first | exact m5 | exact l5 | exact j5 | exact c5 | (simp [World.cell?_alloc_past, hWY, c5]; done)) (first | (refine step_push rfl (.tmp 96) (.tmp 100) rfl X.heap.size _ [4] (2 * nr % 256) _ (by exact E2.out) rfl rfl OY.out (by simp) hYs ?_; intro v2 w2 own2 k2; obtain ⟨j0, j1, j2, j3, j4, j5⟩ := BY.out.below k2 hXs; have LR2 := LR.out.keep OR.out k2; have hs2 := k2.size) | (go_at_call 27; refine (two_c hWR (by have := HNR.out; simp; omega) own2 LR2 (OR.out.off _) (by omega)).mono ?_; rintro e w4 ⟨v4, rfl, own4, k4⟩; have m5 := ((Box.mk j0 j1 j2 j3 j4 j5).below k4 hXs).c5; have K4 : Hid (Below w.heap.size w w4) := KY.out.trans ((k2.mono (Nat.le_of_lt hXs)).trans (k4.mono (Nat.le_of_lt hXs))); have own4 : Hid (w4.ownsRow X.heap.size 5 1 v4 _ _) := own4; clear k2 k4 own2))
  all_goals
    go_wp2
    go_ret2
    exact ⟨rfl, K4.out⟩
set_option linter.unusedSimpArgs false in
set_option linter.unusedVariables false in
set_option maxRecDepth 100000 in
set_option maxHeartbeats 1600000 in
theorem rrep4_1 (addr n nb nr bc rc : Nat) (bits : List Bool) (regs : List Nat) (bo ro : Option Addr) (w : World) (ok : Rp.Ok ⟨4, 0, addr, n, bits, regs⟩) (h1 : Sl w (.slice bo nb bc) (bls bits)) (h2 : Sl w (.slice ro nr rc) (u16s regs)) (hnb : nb = bits.length) (hnr : nr = regs.length) (lb : nb ≤ 2500) (lr : nr ≤ 200) (p0 : 1 ≤ nr ∧ nr ≤ 125) (p1 : ¬ (nb = 0)) :
    Calls Try.prog 13 #[rpV 4 0 addr n (.slice bo nb bc) (.slice ro nr rc)] w fun e w' => e = .returned (.tuple #[.slice none 0 0, .int .i64 30]) ∧ Below w.heap.size w w' := by
  have Q0 : Hid (((1 : Int) ≤ (nr : Int) ∧ (nr : Int) ≤ 125)) := by unfold Hid; omega
  have q1 : ((nb : Int) == 0) = false := by rw [beq_eq_false_iff_ne]; omega
  have HNB : Hid (nb = bits.length) := hnb
  have HNR : Hid (nr = regs.length) := hnr
  have SB : Hid (Sl w (.slice bo nb bc) (bls bits)) := h1
  have SR : Hid (Sl w (.slice ro nr rc) (u16s regs)) := h2
  have hN : n < 65536 := ok.n
  have hA : addr < 65536 := ok.addr
  have hWR : Words regs := ok.regs
  have OK : Hid (Rp.Ok ⟨4, 0, addr, n, bits, regs⟩) := ok
  have P0 : Hid (1 ≤ nr ∧ nr ≤ 125) := p0
  have P1 : Hid (¬ (nb = 0)) := p1
  clear hnb hnr h1 h2 ok p0 p1
  have e1 : IntKind.i64.wrap (2 * (nr : Int)) = 2 * (nr : Int) := by rw [IntKind.wrap_i64]; omega
  have E2 : Hid (IntKind.u8.wrap (2 * (nr : Int)) = ((2 * nr % 256 : Nat) : Int)) := dbl_wrap nr
  unfold rpV
  go_enter Try.func13, Try.ntmps13
  go_wp2
  generalize hX : World.alloc w _ = X
  have BX : Hid (Box X w.heap.size (.int .u8 4) (.int .u8 0) (.int .u16 addr) (.int .u16 n) (.slice bo nb bc) (.slice ro nr rc)) := by rw [← hX]; exact Box.new w _ _ _ _ _ _ _
  have KX : Hid (Below w.heap.size w X) := by rw [← hX]; exact below_new (Below.refl _ w) _
  have hXs : w.heap.size < X.heap.size := by rw [← hX, World.size_alloc]; omega
  clear hX
  obtain ⟨c0, c1, c2, c3, c4, c5⟩ := BX.out
  have d0 := fun (k : Nat) (o : Obj) => ((BX.out.drewN k).grow o).c0
  have d1 := fun (k : Nat) (o : Obj) => ((BX.out.drewN k).grow o).c1
  have d2 := fun (k : Nat) (o : Obj) => ((BX.out.drewN k).grow o).c2
  have d3 := fun (k : Nat) (o : Obj) => ((BX.out.drewN k).grow o).c3
  have d4 := fun (k : Nat) (o : Obj) => ((BX.out.drewN k).grow o).c4
  have d5 := fun (k : Nat) (o : Obj) => ((BX.out.drewN k).grow o).c5
  go_quiet (fail)
  go_wp2_with (go_at_call 25; refine (rwithin_t _ _ _ _ Q0.out).mono ?_; rintro e w' ⟨rfl, hw⟩; subst w')
  generalize hY : World.alloc (World.drewN X _) _ = Y
  have OY : Hid (Y.ownsRow X.heap.size 5 1 (.slice (some ⟨X.heap.size, 0, none⟩) 1 1) [4].length (u8s [4])) := by rw [← hY]; exact lit_own (X.drewN _) 4
  have KY : Hid (Below w.heap.size w Y) := by rw [← hY]; exact below_new (below_drewN KX.out _) _
  have hYs : X.heap.size ≤ Y.heap.size := by rw [← hY, World.size_alloc]; exact Nat.le_succ _
  have hWY : w.heap.size < Y.heap.size := Nat.lt_of_lt_of_le hXs hYs
  have BY : Hid (Box Y w.heap.size (.int .u8 4) (.int .u8 0) (.int .u16 addr) (.int .u16 n) (.slice bo nb bc) (.slice ro nr rc)) := by rw [← hY]; exact (BX.out.drewN _).grow _
  have LB : Hid (Sl Y (.slice bo nb bc) (bls bits)) := SB.out.below KY.out
  have LR : Hid (Sl Y (.slice ro nr rc) (u16s regs)) := SR.out.below KY.out
  have OB : Hid (Old X.heap.size (.slice bo nb bc) (bls bits)) := SB.out.old (Nat.le_of_lt hXs)
  have OR : Hid (Old X.heap.size (.slice ro nr rc) (u16s regs)) := SR.out.old (Nat.le_of_lt hXs)
  clear hY c0 c1 c2 c3 c4 c5 d0 d1 d2 d3 d4 d5 BX
  obtain ⟨c0, c1, c2, c3, c4, c5⟩ := BY.out
  go_region_held3 (fun w' => w'.cell? ⟨w.heap.size, 5, none⟩ = some (.slice ro nr rc)) (first | exact m5 | exact l5 | exact j5 | exact c5 | (simp [World.cell?_alloc_past, hWY, c5]; done)) (first | (refine step_push rfl (.tmp 96) (.tmp 100) rfl X.heap.size _ [4] (2 * nr % 256) _ (by exact E2.out) rfl rfl OY.out (by simp) hYs ?_; intro v2 w2 own2 k2; obtain ⟨j0, j1, j2, j3, j4, j5⟩ := BY.out.below k2 hXs; have LR2 := LR.out.keep OR.out k2; have hs2 := k2.size) | (go_at_call 27; refine (two_c hWR (by have := HNR.out; simp; omega) own2 LR2 (OR.out.off _) (by omega)).mono ?_; rintro e w4 ⟨v4, rfl, own4, k4⟩; have m5 := ((Box.mk j0 j1 j2 j3 j4 j5).below k4 hXs).c5; have K4 : Hid (Below w.heap.size w w4) := KY.out.trans ((k2.mono (Nat.le_of_lt hXs)).trans (k4.mono (Nat.le_of_lt hXs))); have own4 : Hid (w4.ownsRow X.heap.size 5 1 v4 _ _) := own4; clear k2 k4 own2))
  all_goals
    go_wp2
    go_ret2
    exact ⟨rfl, K4.out⟩
set_option linter.unusedSimpArgs false in
set_option linter.unusedVariables false in
set_option maxRecDepth 100000 in
set_option maxHeartbeats 1600000 in
theorem rrep4_2 (addr n nb nr bc rc : Nat) (bits : List Bool) (regs : List Nat) (bo ro : Option Addr) (w : World) (ok : Rp.Ok ⟨4, 0, addr, n, bits, regs⟩) (h1 : Sl w (.slice bo nb bc) (bls bits)) (h2 : Sl w (.slice ro nr rc) (u16s regs)) (hnb : nb = bits.length) (hnr : nr = regs.length) (lb : nb ≤ 2500) (lr : nr ≤ 200) (p0 : 1 ≤ nr ∧ nr ≤ 125) (p1 : nb = 0) (p2 : ¬ (n = 0)) :
    Calls Try.prog 13 #[rpV 4 0 addr n (.slice bo nb bc) (.slice ro nr rc)] w fun e w' => e = .returned (.tuple #[.slice none 0 0, .int .i64 30]) ∧ Below w.heap.size w w' := by
  have Q0 : Hid (((1 : Int) ≤ (nr : Int) ∧ (nr : Int) ≤ 125)) := by unfold Hid; omega
  have q1 : ((nb : Int) == 0) = true := by rw [beq_iff_eq]; omega
  have q2 : ((n : Int) == 0) = false := by rw [beq_eq_false_iff_ne]; omega
  have HNB : Hid (nb = bits.length) := hnb
  have HNR : Hid (nr = regs.length) := hnr
  have SB : Hid (Sl w (.slice bo nb bc) (bls bits)) := h1
  have SR : Hid (Sl w (.slice ro nr rc) (u16s regs)) := h2
  have hN : n < 65536 := ok.n
  have hA : addr < 65536 := ok.addr
  have hWR : Words regs := ok.regs
  have OK : Hid (Rp.Ok ⟨4, 0, addr, n, bits, regs⟩) := ok
  have P0 : Hid (1 ≤ nr ∧ nr ≤ 125) := p0
  have P1 : Hid (nb = 0) := p1
  have P2 : Hid (¬ (n = 0)) := p2
  clear hnb hnr h1 h2 ok p0 p1 p2
  have e1 : IntKind.i64.wrap (2 * (nr : Int)) = 2 * (nr : Int) := by rw [IntKind.wrap_i64]; omega
  have E2 : Hid (IntKind.u8.wrap (2 * (nr : Int)) = ((2 * nr % 256 : Nat) : Int)) := dbl_wrap nr
  unfold rpV
  go_enter Try.func13, Try.ntmps13
  go_wp2
  generalize hX : World.alloc w _ = X
  have BX : Hid (Box X w.heap.size (.int .u8 4) (.int .u8 0) (.int .u16 addr) (.int .u16 n) (.slice bo nb bc) (.slice ro nr rc)) := by rw [← hX]; exact Box.new w _ _ _ _ _ _ _
  have KX : Hid (Below w.heap.size w X) := by rw [← hX]; exact below_new (Below.refl _ w) _
  have hXs : w.heap.size < X.heap.size := by rw [← hX, World.size_alloc]; omega
  clear hX
  obtain ⟨c0, c1, c2, c3, c4, c5⟩ := BX.out
  have d0 := fun (k : Nat) (o : Obj) => ((BX.out.drewN k).grow o).c0
  have d1 := fun (k : Nat) (o : Obj) => ((BX.out.drewN k).grow o).c1
  have d2 := fun (k : Nat) (o : Obj) => ((BX.out.drewN k).grow o).c2
  have d3 := fun (k : Nat) (o : Obj) => ((BX.out.drewN k).grow o).c3
  have d4 := fun (k : Nat) (o : Obj) => ((BX.out.drewN k).grow o).c4
  have d5 := fun (k : Nat) (o : Obj) => ((BX.out.drewN k).grow o).c5
  go_quiet (fail)
  go_wp2_with (go_at_call 25; refine (rwithin_t _ _ _ _ Q0.out).mono ?_; rintro e w' ⟨rfl, hw⟩; subst w')
  generalize hY : World.alloc (World.drewN X _) _ = Y
  have OY : Hid (Y.ownsRow X.heap.size 5 1 (.slice (some ⟨X.heap.size, 0, none⟩) 1 1) [4].length (u8s [4])) := by rw [← hY]; exact lit_own (X.drewN _) 4
  have KY : Hid (Below w.heap.size w Y) := by rw [← hY]; exact below_new (below_drewN KX.out _) _
  have hYs : X.heap.size ≤ Y.heap.size := by rw [← hY, World.size_alloc]; exact Nat.le_succ _
  have hWY : w.heap.size < Y.heap.size := Nat.lt_of_lt_of_le hXs hYs
  have BY : Hid (Box Y w.heap.size (.int .u8 4) (.int .u8 0) (.int .u16 addr) (.int .u16 n) (.slice bo nb bc) (.slice ro nr rc)) := by rw [← hY]; exact (BX.out.drewN _).grow _
  have LB : Hid (Sl Y (.slice bo nb bc) (bls bits)) := SB.out.below KY.out
  have LR : Hid (Sl Y (.slice ro nr rc) (u16s regs)) := SR.out.below KY.out
  have OB : Hid (Old X.heap.size (.slice bo nb bc) (bls bits)) := SB.out.old (Nat.le_of_lt hXs)
  have OR : Hid (Old X.heap.size (.slice ro nr rc) (u16s regs)) := SR.out.old (Nat.le_of_lt hXs)
  clear hY c0 c1 c2 c3 c4 c5 d0 d1 d2 d3 d4 d5 BX
  obtain ⟨c0, c1, c2, c3, c4, c5⟩ := BY.out
  go_region_held3 (fun w' => w'.cell? ⟨w.heap.size, 5, none⟩ = some (.slice ro nr rc)) (first | exact m5 | exact l5 | exact j5 | exact c5 | (simp [World.cell?_alloc_past, hWY, c5]; done)) (first | (refine step_push rfl (.tmp 96) (.tmp 100) rfl X.heap.size _ [4] (2 * nr % 256) _ (by exact E2.out) rfl rfl OY.out (by simp) hYs ?_; intro v2 w2 own2 k2; obtain ⟨j0, j1, j2, j3, j4, j5⟩ := BY.out.below k2 hXs; have LR2 := LR.out.keep OR.out k2; have hs2 := k2.size) | (go_at_call 27; refine (two_c hWR (by have := HNR.out; simp; omega) own2 LR2 (OR.out.off _) (by omega)).mono ?_; rintro e w4 ⟨v4, rfl, own4, k4⟩; have m5 := ((Box.mk j0 j1 j2 j3 j4 j5).below k4 hXs).c5; have K4 : Hid (Below w.heap.size w w4) := KY.out.trans ((k2.mono (Nat.le_of_lt hXs)).trans (k4.mono (Nat.le_of_lt hXs))); have own4 : Hid (w4.ownsRow X.heap.size 5 1 v4 _ _) := own4; clear k2 k4 own2))
  all_goals
    go_wp2
    go_ret2
    exact ⟨rfl, K4.out⟩
set_option linter.unusedSimpArgs false in
set_option linter.unusedVariables false in
set_option maxRecDepth 100000 in
set_option maxHeartbeats 1600000 in
theorem rrep4_3 (addr n nb nr bc rc : Nat) (bits : List Bool) (regs : List Nat) (bo ro : Option Addr) (w : World) (ok : Rp.Ok ⟨4, 0, addr, n, bits, regs⟩) (h1 : Sl w (.slice bo nb bc) (bls bits)) (h2 : Sl w (.slice ro nr rc) (u16s regs)) (hnb : nb = bits.length) (hnr : nr = regs.length) (lb : nb ≤ 2500) (lr : nr ≤ 200) (p0 : 1 ≤ nr ∧ nr ≤ 125) (p1 : nb = 0) (p2 : n = 0) (p3 : ¬ (addr = 0)) :
    Calls Try.prog 13 #[rpV 4 0 addr n (.slice bo nb bc) (.slice ro nr rc)] w fun e w' => e = .returned (.tuple #[.slice none 0 0, .int .i64 30]) ∧ Below w.heap.size w w' := by
  have Q0 : Hid (((1 : Int) ≤ (nr : Int) ∧ (nr : Int) ≤ 125)) := by unfold Hid; omega
  have q1 : ((nb : Int) == 0) = true := by rw [beq_iff_eq]; omega
  have q2 : ((n : Int) == 0) = true := by rw [beq_iff_eq]; omega
  have q3 : ((addr : Int) == 0) = false := by rw [beq_eq_false_iff_ne]; omega
  have HNB : Hid (nb = bits.length) := hnb
  have HNR : Hid (nr = regs.length) := hnr
  have SB : Hid (Sl w (.slice bo nb bc) (bls bits)) := h1
  have SR : Hid (Sl w (.slice ro nr rc) (u16s regs)) := h2
  have hN : n < 65536 := ok.n
  have hA : addr < 65536 := ok.addr
  have hWR : Words regs := ok.regs
  have OK : Hid (Rp.Ok ⟨4, 0, addr, n, bits, regs⟩) := ok
  have P0 : Hid (1 ≤ nr ∧ nr ≤ 125) := p0
  have P1 : Hid (nb = 0) := p1
  have P2 : Hid (n = 0) := p2
  have P3 : Hid (¬ (addr = 0)) := p3
  clear hnb hnr h1 h2 ok p0 p1 p2 p3
  have e1 : IntKind.i64.wrap (2 * (nr : Int)) = 2 * (nr : Int) := by rw [IntKind.wrap_i64]; omega
  have E2 : Hid (IntKind.u8.wrap (2 * (nr : Int)) = ((2 * nr % 256 : Nat) : Int)) := dbl_wrap nr
  unfold rpV
  go_enter Try.func13, Try.ntmps13
  go_wp2
  generalize hX : World.alloc w _ = X
  have BX : Hid (Box X w.heap.size (.int .u8 4) (.int .u8 0) (.int .u16 addr) (.int .u16 n) (.slice bo nb bc) (.slice ro nr rc)) := by rw [← hX]; exact Box.new w _ _ _ _ _ _ _
  have KX : Hid (Below w.heap.size w X) := by rw [← hX]; exact below_new (Below.refl _ w) _
  have hXs : w.heap.size < X.heap.size := by rw [← hX, World.size_alloc]; omega
  clear hX
  obtain ⟨c0, c1, c2, c3, c4, c5⟩ := BX.out
  have d0 := fun (k : Nat) (o : Obj) => ((BX.out.drewN k).grow o).c0
  have d1 := fun (k : Nat) (o : Obj) => ((BX.out.drewN k).grow o).c1
  have d2 := fun (k : Nat) (o : Obj) => ((BX.out.drewN k).grow o).c2
  have d3 := fun (k : Nat) (o : Obj) => ((BX.out.drewN k).grow o).c3
  have d4 := fun (k : Nat) (o : Obj) => ((BX.out.drewN k).grow o).c4
  have d5 := fun (k : Nat) (o : Obj) => ((BX.out.drewN k).grow o).c5
  go_quiet (fail)
  go_wp2_with (go_at_call 25; refine (rwithin_t _ _ _ _ Q0.out).mono ?_; rintro e w' ⟨rfl, hw⟩; subst w')
  generalize hY : World.alloc (World.drewN X _) _ = Y
  have OY : Hid (Y.ownsRow X.heap.size 5 1 (.slice (some ⟨X.heap.size, 0, none⟩) 1 1) [4].length (u8s [4])) := by rw [← hY]; exact lit_own (X.drewN _) 4
  have KY : Hid (Below w.heap.size w Y) := by rw [← hY]; exact below_new (below_drewN KX.out _) _
  have hYs : X.heap.size ≤ Y.heap.size := by rw [← hY, World.size_alloc]; exact Nat.le_succ _
  have hWY : w.heap.size < Y.heap.size := Nat.lt_of_lt_of_le hXs hYs
  have BY : Hid (Box Y w.heap.size (.int .u8 4) (.int .u8 0) (.int .u16 addr) (.int .u16 n) (.slice bo nb bc) (.slice ro nr rc)) := by rw [← hY]; exact (BX.out.drewN _).grow _
  have LB : Hid (Sl Y (.slice bo nb bc) (bls bits)) := SB.out.below KY.out
  have LR : Hid (Sl Y (.slice ro nr rc) (u16s regs)) := SR.out.below KY.out
  have OB : Hid (Old X.heap.size (.slice bo nb bc) (bls bits)) := SB.out.old (Nat.le_of_lt hXs)
  have OR : Hid (Old X.heap.size (.slice ro nr rc) (u16s regs)) := SR.out.old (Nat.le_of_lt hXs)
  clear hY c0 c1 c2 c3 c4 c5 d0 d1 d2 d3 d4 d5 BX
  obtain ⟨c0, c1, c2, c3, c4, c5⟩ := BY.out
  go_region_held3 (fun w' => w'.cell? ⟨w.heap.size, 5, none⟩ = some (.slice ro nr rc)) (first | exact m5 | exact l5 | exact j5 | exact c5 | (simp [World.cell?_alloc_past, hWY, c5]; done)) (first | (refine step_push rfl (.tmp 96) (.tmp 100) rfl X.heap.size _ [4] (2 * nr % 256) _ (by exact E2.out) rfl rfl OY.out (by simp) hYs ?_; intro v2 w2 own2 k2; obtain ⟨j0, j1, j2, j3, j4, j5⟩ := BY.out.below k2 hXs; have LR2 := LR.out.keep OR.out k2; have hs2 := k2.size) | (go_at_call 27; refine (two_c hWR (by have := HNR.out; simp; omega) own2 LR2 (OR.out.off _) (by omega)).mono ?_; rintro e w4 ⟨v4, rfl, own4, k4⟩; have m5 := ((Box.mk j0 j1 j2 j3 j4 j5).below k4 hXs).c5; have K4 : Hid (Below w.heap.size w w4) := KY.out.trans ((k2.mono (Nat.le_of_lt hXs)).trans (k4.mono (Nat.le_of_lt hXs))); have own4 : Hid (w4.ownsRow X.heap.size 5 1 v4 _ _) := own4; clear k2 k4 own2))
  all_goals
    go_wp2
    go_ret2
    exact ⟨rfl, K4.out⟩
set_option linter.unusedSimpArgs false in
set_option linter.unusedVariables false in
set_option maxRecDepth 100000 in
set_option maxHeartbeats 1600000 in
theorem rrep4_4 (addr n nb nr bc rc : Nat) (bits : List Bool) (regs : List Nat) (bo ro : Option Addr) (w : World) (ok : Rp.Ok ⟨4, 0, addr, n, bits, regs⟩) (h1 : Sl w (.slice bo nb bc) (bls bits)) (h2 : Sl w (.slice ro nr rc) (u16s regs)) (hnb : nb = bits.length) (hnr : nr = regs.length) (lb : nb ≤ 2500) (lr : nr ≤ 200) (p0 : 1 ≤ nr ∧ nr ≤ 125) (p1 : nb = 0) (p2 : n = 0) (p3 : addr = 0) :
    Calls Try.prog 13 #[rpV 4 0 addr n (.slice bo nb bc) (.slice ro nr rc)] w fun e w' => (∃ v', e = .returned (.tuple #[v', .int .i64 0]) ∧ w'.ownsRow w.heap.size 5 1 v' (repBytes ⟨4, 0, addr, n, bits, regs⟩).length (u8s (repBytes ⟨4, 0, addr, n, bits, regs⟩))) ∧ Below w.heap.size w w' := by
  have Q0 : Hid (((1 : Int) ≤ (nr : Int) ∧ (nr : Int) ≤ 125)) := by unfold Hid; omega
  have q1 : ((nb : Int) == 0) = true := by rw [beq_iff_eq]; omega
  have q2 : ((n : Int) == 0) = true := by rw [beq_iff_eq]; omega
  have q3 : ((addr : Int) == 0) = true := by rw [beq_iff_eq]; omega
  have HNB : Hid (nb = bits.length) := hnb
  have HNR : Hid (nr = regs.length) := hnr
  have SB : Hid (Sl w (.slice bo nb bc) (bls bits)) := h1
  have SR : Hid (Sl w (.slice ro nr rc) (u16s regs)) := h2
  have hN : n < 65536 := ok.n
  have hA : addr < 65536 := ok.addr
  have hWR : Words regs := ok.regs
  have OK : Hid (Rp.Ok ⟨4, 0, addr, n, bits, regs⟩) := ok
  have P0 : Hid (1 ≤ nr ∧ nr ≤ 125) := p0
  have P1 : Hid (nb = 0) := p1
  have P2 : Hid (n = 0) := p2
  have P3 : Hid (addr = 0) := p3
  clear hnb hnr h1 h2 ok p0 p1 p2 p3
  have e1 : IntKind.i64.wrap (2 * (nr : Int)) = 2 * (nr : Int) := by rw [IntKind.wrap_i64]; omega
  have E2 : Hid (IntKind.u8.wrap (2 * (nr : Int)) = ((2 * nr % 256 : Nat) : Int)) := dbl_wrap nr
  unfold rpV
  go_enter Try.func13, Try.ntmps13
  go_wp2
  generalize hX : World.alloc w _ = X
  have BX : Hid (Box X w.heap.size (.int .u8 4) (.int .u8 0) (.int .u16 addr) (.int .u16 n) (.slice bo nb bc) (.slice ro nr rc)) := by rw [← hX]; exact Box.new w _ _ _ _ _ _ _
  have KX : Hid (Below w.heap.size w X) := by rw [← hX]; exact below_new (Below.refl _ w) _
  have hXs : w.heap.size < X.heap.size := by rw [← hX, World.size_alloc]; omega
  clear hX
  obtain ⟨c0, c1, c2, c3, c4, c5⟩ := BX.out
  have d0 := fun (k : Nat) (o : Obj) => ((BX.out.drewN k).grow o).c0
  have d1 := fun (k : Nat) (o : Obj) => ((BX.out.drewN k).grow o).c1
  have d2 := fun (k : Nat) (o : Obj) => ((BX.out.drewN k).grow o).c2
  have d3 := fun (k : Nat) (o : Obj) => ((BX.out.drewN k).grow o).c3
  have d4 := fun (k : Nat) (o : Obj) => ((BX.out.drewN k).grow o).c4
  have d5 := fun (k : Nat) (o : Obj) => ((BX.out.drewN k).grow o).c5
  go_quiet (fail)
  go_wp2_with (go_at_call 25; refine (rwithin_t _ _ _ _ Q0.out).mono ?_; rintro e w' ⟨rfl, hw⟩; subst w')
  generalize hY : World.alloc (World.drewN X _) _ = Y
  have OY : Hid (Y.ownsRow X.heap.size 5 1 (.slice (some ⟨X.heap.size, 0, none⟩) 1 1) [4].length (u8s [4])) := by rw [← hY]; exact lit_own (X.drewN _) 4
  have KY : Hid (Below w.heap.size w Y) := by rw [← hY]; exact below_new (below_drewN KX.out _) _
  have hYs : X.heap.size ≤ Y.heap.size := by rw [← hY, World.size_alloc]; exact Nat.le_succ _
  have hWY : w.heap.size < Y.heap.size := Nat.lt_of_lt_of_le hXs hYs
  have BY : Hid (Box Y w.heap.size (.int .u8 4) (.int .u8 0) (.int .u16 addr) (.int .u16 n) (.slice bo nb bc) (.slice ro nr rc)) := by rw [← hY]; exact (BX.out.drewN _).grow _
  have LB : Hid (Sl Y (.slice bo nb bc) (bls bits)) := SB.out.below KY.out
  have LR : Hid (Sl Y (.slice ro nr rc) (u16s regs)) := SR.out.below KY.out
  have OB : Hid (Old X.heap.size (.slice bo nb bc) (bls bits)) := SB.out.old (Nat.le_of_lt hXs)
  have OR : Hid (Old X.heap.size (.slice ro nr rc) (u16s regs)) := SR.out.old (Nat.le_of_lt hXs)
  clear hY c0 c1 c2 c3 c4 c5 d0 d1 d2 d3 d4 d5 BX
  obtain ⟨c0, c1, c2, c3, c4, c5⟩ := BY.out
  go_region_held3 (fun w' => w'.cell? ⟨w.heap.size, 5, none⟩ = some (.slice ro nr rc)) (first | exact m5 | exact l5 | exact j5 | exact c5 | (simp [World.cell?_alloc_past, hWY, c5]; done)) (first | (refine step_push rfl (.tmp 96) (.tmp 100) rfl X.heap.size _ [4] (2 * nr % 256) _ (by exact E2.out) rfl rfl OY.out (by simp) hYs ?_; intro v2 w2 own2 k2; obtain ⟨j0, j1, j2, j3, j4, j5⟩ := BY.out.below k2 hXs; have LR2 := LR.out.keep OR.out k2; have hs2 := k2.size) | (go_at_call 27; refine (two_c hWR (by have := HNR.out; simp; omega) own2 LR2 (OR.out.off _) (by omega)).mono ?_; rintro e w4 ⟨v4, rfl, own4, k4⟩; have m5 := ((Box.mk j0 j1 j2 j3 j4 j5).below k4 hXs).c5; have K4 : Hid (Below w.heap.size w w4) := KY.out.trans ((k2.mono (Nat.le_of_lt hXs)).trans (k4.mono (Nat.le_of_lt hXs))); have own4 : Hid (w4.ownsRow X.heap.size 5 1 v4 _ _) := own4; clear k2 k4 own2))
  all_goals
    go_wp2
    go_ret2
    refine ⟨⟨_, rfl, ?_⟩, K4.out⟩
    have o5 := own4.out
    rw [show repBytes ⟨4, 0, addr, n, bits, regs⟩ = ([4] ++ [2 * nr % 256]) ++ wds regs by simp [repBytes, rtail, wds_one, wds_two, wds_three, ← HNR.out]]
    exact own_base o5 (Nat.le_of_lt hXs)
theorem rrep4 {addr n : Nat} {bits : List Bool} {regs : List Nat} {bv rv : Value} {w : World} (ok : Rp.Ok ⟨4, 0, addr, n, bits, regs⟩) (h1 : Sl w bv (bls bits)) (h2 : Sl w rv (u16s regs)) (lb : bits.length ≤ 2500) (lr : regs.length ≤ 200) :
    Calls Try.prog 13 #[rpV 4 0 addr n bv rv] w fun e w' => RefEnd (Rp.Fits ⟨4, 0, addr, n, bits, regs⟩) (repBytes ⟨4, 0, addr, n, bits, regs⟩) w e w' := by
  obtain ⟨bo, bc, rfl⟩ := h1.shape
  obtain ⟨ro, rc, rfl⟩ := h2.shape
  rw [bls_len] at h1 ⊢
  rw [u16s_len] at h2 ⊢
  have HF : Rp.Fits ⟨4, 0, addr, n, bits, regs⟩ ↔ ((1 ≤ regs.length ∧ regs.length ≤ 125) ∧ (bits.length = 0) ∧ (n = 0) ∧ (addr = 0)) := by
    unfold Rp.Fits RFitsN
    simp only
    generalize bits.length = nb
    generalize regs.length = nr
    simp <;> omega
  by_cases p0 : 1 ≤ regs.length ∧ regs.length ≤ 125
  case neg => exact (rrep4_0 _ _ _ _ _ _ bits regs bo ro w ok h1 h2 rfl rfl lb lr p0).mono fun e w' ⟨he, hb⟩ => RefEnd.no (fun h => p0 (HF.1 h).1) he hb
  by_cases p1 : bits.length = 0
  case neg => exact (rrep4_1 _ _ _ _ _ _ bits regs bo ro w ok h1 h2 rfl rfl lb lr p0 p1).mono fun e w' ⟨he, hb⟩ => RefEnd.no (fun h => p1 (HF.1 h).2.1) he hb
  by_cases p2 : n = 0
  case neg => exact (rrep4_2 _ _ _ _ _ _ bits regs bo ro w ok h1 h2 rfl rfl lb lr p0 p1 p2).mono fun e w' ⟨he, hb⟩ => RefEnd.no (fun h => p2 (HF.1 h).2.2.1) he hb
  by_cases p3 : addr = 0
  case neg => exact (rrep4_3 _ _ _ _ _ _ bits regs bo ro w ok h1 h2 rfl rfl lb lr p0 p1 p2 p3).mono fun e w' ⟨he, hb⟩ => RefEnd.no (fun h => p3 (HF.1 h).2.2.2) he hb
  exact (rrep4_4 _ _ _ _ _ _ bits regs bo ro w ok h1 h2 rfl rfl lb lr p0 p1 p2 p3).mono fun e w' ⟨⟨v', he, ho⟩, hb⟩ => RefEnd.yes (HF.2 ⟨p0, p1, p2, p3⟩) he ho hb
end Go.Proofs.Ytehbbkdiekgpbab
