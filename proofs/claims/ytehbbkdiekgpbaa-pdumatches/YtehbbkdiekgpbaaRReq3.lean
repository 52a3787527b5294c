/- The walk: the reference's bytes of a request, function 3. -/
import Derived.Test.YtehbbkdiekgpbaaJ2
namespace Go.Proofs.Ytehbbkdiekgpbaa
open Go.RowKit
open Pdu
set_option linter.unusedSimpArgs false in
set_option linter.unusedVariables false in
set_option maxRecDepth 100000 in
set_option maxHeartbeats 1600000 in
theorem rreq3_0 (addr n addr2 nb nr bc rc : Nat) (bits : List Bool) (regs : List Nat) (bo ro : Option Addr) (w : World) (ok : Rq.Ok ⟨3, addr, n, addr2, bits, regs⟩) (h1 : Sl w (.slice bo nb bc) (bls bits)) (h2 : Sl w (.slice ro nr rc) (u16s regs)) (hnb : nb = bits.length) (hnr : nr = regs.length) (lb : nb ≤ 2500) (lr : nr ≤ 200) (p0 : ¬ (1 ≤ n ∧ n ≤ 125)) :
    Calls Try.prog 12 #[rqV 3 addr n addr2 (.slice bo nb bc) (.slice ro nr rc)] w fun e w' => e = .returned (.tuple #[.slice none 0 0, .int .i64 30]) ∧ Below w.heap.size w w' := by
  have Q0 : Hid (¬ ((1 : Int) ≤ (n : Int) ∧ (n : Int) ≤ 125)) := by unfold Hid; omega
  have HNB : Hid (nb = bits.length) := hnb
  have HNR : Hid (nr = regs.length) := hnr
  have SB : Hid (Sl w (.slice bo nb bc) (bls bits)) := h1
  have SR : Hid (Sl w (.slice ro nr rc) (u16s regs)) := h2
  have hN : n < 65536 := ok.n
  have hA : addr < 65536 := ok.addr
  have hWR : Words regs := ok.regs
  have OK : Hid (Rq.Ok ⟨3, addr, n, addr2, bits, regs⟩) := ok
  have P0 : Hid (¬ (1 ≤ n ∧ n ≤ 125)) := p0
  clear hnb hnr h1 h2 ok p0
  unfold rqV
  go_enter Try.func12, Try.ntmps12
  go_wp2
  generalize hX : World.alloc w _ = X
  have BX : Hid (Box X w.heap.size (.int .u8 3) (.int .u16 addr) (.int .u16 n) (.int .u16 addr2) (.slice bo nb bc) (.slice ro nr rc)) := by rw [← hX]; exact Box.new w _ _ _ _ _ _ _
  have KX : Hid (Below w.heap.size w X) := by rw [← hX]; exact below_new (Below.refl _ w) _
  have hXs : w.heap.size < X.heap.size := by rw [← hX, World.size_alloc]; omega
  clear hX
  obtain ⟨c0, c1, c2, c3, c4, c5⟩ := BX.out
  have d0 := fun (k : Nat) (o : Obj) => ((BX.out.drewN k).grow o).c0
  have d1 := fun (k : Nat) (o : Obj) => ((BX.out.drewN k).grow o).c1
  have d2 := fun (k : Nat) (o : Obj) => ((BX.out.drewN k).grow o).c2
  have d3 := fun (k : Nat) (o : Obj) => ((BX.out.drewN k).grow o).c3
  have d4 := fun (k : Nat) (o : Obj) => ((BX.out.drewN k).grow o).c4
  have d5 := fun (k : Nat) (o : Obj) => ((BX.out.drewN k).grow o).c5
  go_quiet (fail)
  go_wp2_with fail
  refine (first_two hA (X.drewN _)).mono ?_
  rintro e Y ⟨vY, rfl, ownY, kY⟩
  have OY : Hid (Y.ownsRow X.heap.size 5 1 vY (3 :: wd addr).length (u8s (3 :: wd addr))) := ownY
  have KY : Hid (Below w.heap.size w Y) := (below_drewN KX.out _).trans (kY.mono (Nat.le_of_lt hXs))
  have hYs : X.heap.size ≤ Y.heap.size := kY.size
  have hWY : w.heap.size < Y.heap.size := Nat.lt_of_lt_of_le hXs hYs
  have BY : Hid (Box Y w.heap.size (.int .u8 3) (.int .u16 addr) (.int .u16 n) (.int .u16 addr2) (.slice bo nb bc) (.slice ro nr rc)) := (BX.out.drewN _).below kY hXs
  have LB : Hid (Sl Y (.slice bo nb bc) (bls bits)) := SB.out.below KY.out
  have LR : Hid (Sl Y (.slice ro nr rc) (u16s regs)) := SR.out.below KY.out
  have OB : Hid (Old X.heap.size (.slice bo nb bc) (bls bits)) := SB.out.old (Nat.le_of_lt hXs)
  have OR : Hid (Old X.heap.size (.slice ro nr rc) (u16s regs)) := SR.out.old (Nat.le_of_lt hXs)
  clear ownY kY c0 c1 c2 c3 c4 c5 d0 d1 d2 d3 d4 d5 BX
  obtain ⟨c0, c1, c2, c3, c4, c5⟩ := BY.out
  go_wp2_with fail
  refine (rwithin_f _ _ _ _ Q0.out).mono ?_
  rintro e w' ⟨rfl, hw⟩
  subst w'
  go_wp2_with fail
  refine (next_two (base := X.heap.size) (bs := 3 :: wd addr) (l := [n]) (n := 1) (a := #[.int .u16 n]) rfl rfl (words_one hN) (by simp [wd]) OY.out hYs).mono ?_
  rintro e w4 ⟨v4, rfl, own4, k4⟩
  have K4 : Hid (Below w.heap.size w w4) := KY.out.trans (k4.mono (Nat.le_of_lt hXs))
  have own4 : Hid (w4.ownsRow X.heap.size 5 1 v4 _ _) := own4
  clear k4 c0 c1 c2 c3 c4 c5 BY OY
  all_goals
    go_wp2
    go_ret2
    exact ⟨rfl, K4.out⟩
set_option linter.unusedSimpArgs false in
set_option linter.unusedVariables false in
set_option maxRecDepth 100000 in
set_option maxHeartbeats 1600000 in
theorem rreq3_1 (addr n addr2 nb nr bc rc : Nat) (bits : List Bool) (regs : List Nat) (bo ro : Option Addr) (w : World) (ok : Rq.Ok ⟨3, addr, n, addr2, bits, regs⟩) (h1 : Sl w (.slice bo nb bc) (bls bits)) (h2 : Sl w (.slice ro nr rc) (u16s regs)) (hnb : nb = bits.length) (hnr : nr = regs.length) (lb : nb ≤ 2500) (lr : nr ≤ 200) (p0 : 1 ≤ n ∧ n ≤ 125) (p1 : ¬ (nb = 0)) :
    Calls Try.prog 12 #[rqV 3 addr n addr2 (.slice bo nb bc) (.slice ro nr rc)] w fun e w' => e = .returned (.tuple #[.slice none 0 0, .int .i64 30]) ∧ Below w.heap.size w w' := by
  have Q0 : Hid (((1 : Int) ≤ (n : Int) ∧ (n : Int) ≤ 125)) := by unfold Hid; omega
  have q1 : ((nb : Int) == 0) = false := by rw [beq_eq_false_iff_ne]; omega
  have HNB : Hid (nb = bits.length) := hnb
  have HNR : Hid (nr = regs.length) := hnr
  have SB : Hid (Sl w (.slice bo nb bc) (bls bits)) := h1
  have SR : Hid (Sl w (.slice ro nr rc) (u16s regs)) := h2
  have hN : n < 65536 := ok.n
  have hA : addr < 65536 := ok.addr
  have hWR : Words regs := ok.regs
  have OK : Hid (Rq.Ok ⟨3, addr, n, addr2, bits, regs⟩) := ok
  have P0 : Hid (1 ≤ n ∧ n ≤ 125) := p0
  have P1 : Hid (¬ (nb = 0)) := p1
  clear hnb hnr h1 h2 ok p0 p1
  unfold rqV
  go_enter Try.func12, Try.ntmps12
  go_wp2
  generalize hX : World.alloc w _ = X
  have BX : Hid (Box X w.heap.size (.int .u8 3) (.int .u16 addr) (.int .u16 n) (.int .u16 addr2) (.slice bo nb bc) (.slice ro nr rc)) := by rw [← hX]; exact Box.new w _ _ _ _ _ _ _
  have KX : Hid (Below w.heap.size w X) := by rw [← hX]; exact below_new (Below.refl _ w) _
  have hXs : w.heap.size < X.heap.size := by rw [← hX, World.size_alloc]; omega
  clear hX
  obtain ⟨c0, c1, c2, c3, c4, c5⟩ := BX.out
  have d0 := fun (k : Nat) (o : Obj) => ((BX.out.drewN k).grow o).c0
  have d1 := fun (k : Nat) (o : Obj) => ((BX.out.drewN k).grow o).c1
  have d2 := fun (k : Nat) (o : Obj) => ((BX.out.drewN k).grow o).c2
  have d3 := fun (k : Nat) (o : Obj) => ((BX.out.drewN k).grow o).c3
  have d4 := fun (k : Nat) (o : Obj) => ((BX.out.drewN k).grow o).c4
  have d5 := fun (k : Nat) (o : Obj) => ((BX.out.drewN k).grow o).c5
  go_quiet (fail)
  go_wp2_with fail
  refine (first_two hA (X.drewN _)).mono ?_
  rintro e Y ⟨vY, rfl, ownY, kY⟩
  have OY : Hid (Y.ownsRow X.heap.size 5 1 vY (3 :: wd addr).length (u8s (3 :: wd addr))) := ownY
  have KY : Hid (Below w.heap.size w Y) := (below_drewN KX.out _).trans (kY.mono (Nat.le_of_lt hXs))
  have hYs : X.heap.size ≤ Y.heap.size := kY.size
  have hWY : w.heap.size < Y.heap.size := Nat.lt_of_lt_of_le hXs hYs
  have BY : Hid (Box Y w.heap.size (.int .u8 3) (.int .u16 addr) (.int .u16 n) (.int .u16 addr2) (.slice bo nb bc) (.slice ro nr rc)) := (BX.out.drewN _).below kY hXs
  have LB : Hid (Sl Y (.slice bo nb bc) (bls bits)) := SB.out.below KY.out
  have LR : Hid (Sl Y (.slice ro nr rc) (u16s regs)) := SR.out.below KY.out
  have OB : Hid (Old X.heap.size (.slice bo nb bc) (bls bits)) := SB.out.old (Nat.le_of_lt hXs)
  have OR : Hid (Old X.heap.size (.slice ro nr rc) (u16s regs)) := SR.out.old (Nat.le_of_lt hXs)
  clear ownY kY c0 c1 c2 c3 c4 c5 d0 d1 d2 d3 d4 d5 BX
  obtain ⟨c0, c1, c2, c3, c4, c5⟩ := BY.out
  go_wp2_with fail
  refine (rwithin_t _ _ _ _ Q0.out).mono ?_
  rintro e w' ⟨rfl, hw⟩
  subst w'
  go_wp2_with fail
  refine (next_two (base := X.heap.size) (bs := 3 :: wd addr) (l := [n]) (n := 1) (a := #[.int .u16 n]) rfl rfl (words_one hN) (by simp [wd]) OY.out hYs).mono ?_
  rintro e w4 ⟨v4, rfl, own4, k4⟩
  have K4 : Hid (Below w.heap.size w w4) := KY.out.trans (k4.mono (Nat.le_of_lt hXs))
  have own4 : Hid (w4.ownsRow X.heap.size 5 1 v4 _ _) := own4
  clear k4 c0 c1 c2 c3 c4 c5 BY OY
  all_goals
    go_wp2
    go_ret2
    exact ⟨rfl, K4.out⟩
set_option linter.unusedSimpArgs false in
set_option linter.unusedVariables false in
set_option maxRecDepth 100000 in
set_option maxHeartbeats 1600000 in
theorem rreq3_2 (addr n addr2 nb nr bc rc : Nat) (bits : List Bool) (regs : List Nat) (bo ro : Option Addr) (w : World) (ok : Rq.Ok ⟨3, addr, n, addr2, bits, regs⟩) (h1 : Sl w (.slice bo nb bc) (bls bits)) (h2 : Sl w (.slice ro nr rc) (u16s regs)) (hnb : nb = bits.length) (hnr : nr = regs.length) (lb : nb ≤ 2500) (lr : nr ≤ 200) (p0 : 1 ≤ n ∧ n ≤ 125) (p1 : nb = 0) (p2 : ¬ (nr = 0)) :
    Calls Try.prog 12 #[rqV 3 addr n addr2 (.slice bo nb bc) (.slice ro nr rc)] w fun e w' => e = .returned (.tuple #[.slice none 0 0, .int .i64 30]) ∧ Below w.heap.size w w' := by
  have Q0 : Hid (((1 : Int) ≤ (n : Int) ∧ (n : Int) ≤ 125)) := by unfold Hid; omega
  have q1 : ((nb : Int) == 0) = true := by rw [beq_iff_eq]; omega
  have q2 : ((nr : Int) == 0) = false := by rw [beq_eq_false_iff_ne]; omega
  have HNB : Hid (nb = bits.length) := hnb
  have HNR : Hid (nr = regs.length) := hnr
  have SB : Hid (Sl w (.slice bo nb bc) (bls bits)) := h1
  have SR : Hid (Sl w (.slice ro nr rc) (u16s regs)) := h2
  have hN : n < 65536 := ok.n
  have hA : addr < 65536 := ok.addr
  have hWR : Words regs := ok.regs
  have OK : Hid (Rq.Ok ⟨3, addr, n, addr2, bits, regs⟩) := ok
  have P0 : Hid (1 ≤ n ∧ n ≤ 125) := p0
  have P1 : Hid (nb = 0) := p1
  have P2 : Hid (¬ (nr = 0)) := p2
  clear hnb hnr h1 h2 ok p0 p1 p2
  unfold rqV
  go_enter Try.func12, Try.ntmps12
  go_wp2
  generalize hX : World.alloc w _ = X
  have BX : Hid (Box X w.heap.size (.int .u8 3) (.int .u16 addr) (.int .u16 n) (.int .u16 addr2) (.slice bo nb bc) (.slice ro nr rc)) := by rw [← hX]; exact Box.new w _ _ _ _ _ _ _
  have KX : Hid (Below w.heap.size w X) := by rw [← hX]; exact below_new (Below.refl _ w) _
  have hXs : w.heap.size < X.heap.size := by rw [← hX, World.size_alloc]; omega
  clear hX
  obtain ⟨c0, c1, c2, c3, c4, c5⟩ := BX.out
  have d0 := fun (k : Nat) (o : Obj) => ((BX.out.drewN k).grow o).c0
  have d1 := fun (k : Nat) (o : Obj) => ((BX.out.drewN k).grow o).c1
  have d2 := fun (k : Nat) (o : Obj) => ((BX.out.drewN k).grow o).c2
  have d3 := fun (k : Nat) (o : Obj) => ((BX.out.drewN k).grow o).c3
  have d4 := fun (k : Nat) (o : Obj) => ((BX.out.drewN k).grow o).c4
  have d5 := fun (k : Nat) (o : Obj) => ((BX.out.drewN k).grow o).c5
  go_quiet (fail)
  go_wp2_with fail
  refine (first_two hA (X.drewN _)).mono ?_
  rintro e Y ⟨vY, rfl, ownY, kY⟩
  have OY : Hid (Y.ownsRow X.heap.size 5 1 vY (3 :: wd addr).length (u8s (3 :: wd addr))) := ownY
  have KY : Hid (Below w.heap.size w Y) := (below_drewN KX.out _).trans (kY.mono (Nat.le_of_lt hXs))
  have hYs : X.heap.size ≤ Y.heap.size := kY.size
  have hWY : w.heap.size < Y.heap.size := Nat.lt_of_lt_of_le hXs hYs
  have BY : Hid (Box Y w.heap.size (.int .u8 3) (.int .u16 addr) (.int .u16 n) (.int .u16 addr2) (.slice bo nb bc) (.slice ro nr rc)) := (BX.out.drewN _).below kY hXs
  have LB : Hid (Sl Y (.slice bo nb bc) (bls bits)) := SB.out.below KY.out
  have LR : Hid (Sl Y (.slice ro nr rc) (u16s regs)) := SR.out.below KY.out
  have OB : Hid (Old X.heap.size (.slice bo nb bc) (bls bits)) := SB.out.old (Nat.le_of_lt hXs)
  have OR : Hid (Old X.heap.size (.slice ro nr rc) (u16s regs)) := SR.out.old (Nat.le_of_lt hXs)
  clear ownY kY c0 c1 c2 c3 c4 c5 d0 d1 d2 d3 d4 d5 BX
  obtain ⟨c0, c1, c2, c3, c4, c5⟩ := BY.out
  go_wp2_with fail
  refine (rwithin_t _ _ _ _ Q0.out).mono ?_
  rintro e w' ⟨rfl, hw⟩
  subst w'
  go_wp2_with fail
  refine (next_two (base := X.heap.size) (bs := 3 :: wd addr) (l := [n]) (n := 1) (a := #[.int .u16 n]) rfl rfl (words_one hN) (by simp [wd]) OY.out hYs).mono ?_
  rintro e w4 ⟨v4, rfl, own4, k4⟩
  have K4 : Hid (Below w.heap.size w w4) := KY.out.trans (k4.mono (Nat.le_of_lt hXs))
  have own4 : Hid (w4.ownsRow X.heap.size 5 1 v4 _ _) := own4
  clear k4 c0 c1 c2 c3 c4 c5 BY OY
  all_goals
    go_wp2
    go_ret2
    exact ⟨rfl, K4.out⟩
set_option linter.unusedSimpArgs false in
set_option linter.unusedVariables false in
set_option maxRecDepth 100000 in
set_option maxHeartbeats 1600000 in
theorem rreq3_3 (addr n addr2 nb nr bc rc : Nat) (bits : List Bool) (regs : List Nat) (bo ro : Option Addr) (w : World) (ok : Rq.Ok ⟨3, addr, n, addr2, bits, regs⟩) (h1 : Sl w (.slice bo nb bc) (bls bits)) (h2 : Sl w (.slice ro nr rc) (u16s regs)) (hnb : nb = bits.length) (hnr : nr = regs.length) (lb : nb ≤ 2500) (lr : nr ≤ 200) (p0 : 1 ≤ n ∧ n ≤ 125) (p1 : nb = 0) (p2 : nr = 0) (p3 : ¬ (addr2 = 0)) :
    Calls Try.prog 12 #[rqV 3 addr n addr2 (.slice bo nb bc) (.slice ro nr rc)] w fun e w' => e = .returned (.tuple #[.slice none 0 0, .int .i64 30]) ∧ Below w.heap.size w w' := by
  have Q0 : Hid (((1 : Int) ≤ (n : Int) ∧ (n : Int) ≤ 125)) := by unfold Hid; omega
  have q1 : ((nb : Int) == 0) = true := by rw [beq_iff_eq]; omega
  have q2 : ((nr : Int) == 0) = true := by rw [beq_iff_eq]; omega
  have q3 : ((addr2 : Int) == 0) = false := by rw [beq_eq_false_iff_ne]; omega
  have HNB : Hid (nb = bits.length) := hnb
  have HNR : Hid (nr = regs.length) := hnr
  have SB : Hid (Sl w (.slice bo nb bc) (bls bits)) := h1
  have SR : Hid (Sl w (.slice ro nr rc) (u16s regs)) := h2
  have hN : n < 65536 := ok.n
  have hA : addr < 65536 := ok.addr
  have hWR : Words regs := ok.regs
  have OK : Hid (Rq.Ok ⟨3, addr, n, addr2, bits, regs⟩) := ok
  have P0 : Hid (1 ≤ n ∧ n ≤ 125) := p0
  have P1 : Hid (nb = 0) := p1
  have P2 : Hid (nr = 0) := p2
  have P3 : Hid (¬ (addr2 = 0)) := p3
  clear hnb hnr h1 h2 ok p0 p1 p2 p3
  unfold rqV
  go_enter Try.func12, Try.ntmps12
  go_wp2
  generalize hX : World.alloc w _ = X
  have BX : Hid (Box X w.heap.size (.int .u8 3) (.int .u16 addr) (.int .u16 n) (.int .u16 addr2) (.slice bo nb bc) (.slice ro nr rc)) := by rw [← hX]; exact Box.new w _ _ _ _ _ _ _
  have KX : Hid (Below w.heap.size w X) := by rw [← hX]; exact below_new (Below.refl _ w) _
  have hXs : w.heap.size < X.heap.size := by rw [← hX, World.size_alloc]; omega
  clear hX
  obtain ⟨c0, c1, c2, c3, c4, c5⟩ := BX.out
  have d0 := fun (k : Nat) (o : Obj) => ((BX.out.drewN k).grow o).c0
  have d1 := fun (k : Nat) (o : Obj) => ((BX.out.drewN k).grow o).c1
  have d2 := fun (k : Nat) (o : Obj) => ((BX.out.drewN k).grow o).c2
  have d3 := fun (k : Nat) (o : Obj) => ((BX.out.drewN k).grow o).c3
  have d4 := fun (k : Nat) (o : Obj) => ((BX.out.drewN k).grow o).c4
  have d5 := fun (k : Nat) (o : Obj) => ((BX.out.drewN k).grow o).c5
  go_quiet (fail)
  go_wp2_with fail
  refine (first_two hA (X.drewN _)).mono ?_
  rintro e Y ⟨vY, rfl, ownY, kY⟩
  have OY : Hid (Y.ownsRow X.heap.size 5 1 vY (3 :: wd addr).length (u8s (3 :: wd addr))) := ownY
  have KY : Hid (Below w.heap.size w Y) := (below_drewN KX.out _).trans (kY.mono (Nat.le_of_lt hXs))
  have hYs : X.heap.size ≤ Y.heap.size := kY.size
  have hWY : w.heap.size < Y.heap.size := Nat.lt_of_lt_of_le hXs hYs
  have BY : Hid (Box Y w.heap.size (.int .u8 3) (.int .u16 addr) (.int .u16 n) (.int .u16 addr2) (.slice bo nb bc) (.slice ro nr rc)) := (BX.out.drewN _).below kY hXs
  have LB : Hid (Sl Y (.slice bo nb bc) (bls bits)) := SB.out.below KY.out
  have LR : Hid (Sl Y (.slice ro nr rc) (u16s regs)) := SR.out.below KY.out
  have OB : Hid (Old X.heap.size (.slice bo nb bc) (bls bits)) := SB.out.old (Nat.le_of_lt hXs)
  have OR : Hid (Old X.heap.size (.slice ro nr rc) (u16s regs)) := SR.out.old (Nat.le_of_lt hXs)
  clear ownY kY c0 c1 c2 c3 c4 c5 d0 d1 d2 d3 d4 d5 BX
  obtain ⟨c0, c1, c2, c3, c4, c5⟩ := BY.out
  go_wp2_with fail
  refine (rwithin_t _ _ _ _ Q0.out).mono ?_
  rintro e w' ⟨rfl, hw⟩
  subst w'
  go_wp2_with fail
  refine (next_two (base := X.heap.size) (bs := 3 :: wd addr) (l := [n]) (n := 1) (a := #[.int .u16 n]) rfl rfl (words_one hN) (by simp [wd]) OY.out hYs).mono ?_
  rintro e w4 ⟨v4, rfl, own4, k4⟩
  have K4 : Hid (Below w.heap.size w w4) := KY.out.trans (k4.mono (Nat.le_of_lt hXs))
  have own4 : Hid (w4.ownsRow X.heap.size 5 1 v4 _ _) := own4
  clear k4 c0 c1 c2 c3 c4 c5 BY OY
  all_goals
    go_wp2
    go_ret2
    exact ⟨rfl, K4.out⟩
set_option linter.unusedSimpArgs false in
set_option linter.unusedVariables false in
set_option maxRecDepth 100000 in
set_option maxHeartbeats 1600000 in
theorem rreq3_4 (addr n addr2 nb nr bc rc : Nat) (bits : List Bool) (regs : List Nat) (bo ro : Option Addr) (w : World) (ok : Rq.Ok ⟨3, addr, n, addr2, bits, regs⟩) (h1 : Sl w (.slice bo nb bc) (bls bits)) (h2 : Sl w (.slice ro nr rc) (u16s regs)) (hnb : nb = bits.length) (hnr : nr = regs.length) (lb : nb ≤ 2500) (lr : nr ≤ 200) (p0 : 1 ≤ n ∧ n ≤ 125) (p1 : nb = 0) (p2 : nr = 0) (p3 : addr2 = 0) :
    Calls Try.prog 12 #[rqV 3 addr n addr2 (.slice bo nb bc) (.slice ro nr rc)] w fun e w' => (∃ v', e = .returned (.tuple #[v', .int .i64 0]) ∧ w'.ownsRow w.heap.size 5 1 v' (reqBytes ⟨3, addr, n, addr2, bits, regs⟩).length (u8s (reqBytes ⟨3, addr, n, addr2, bits, regs⟩))) ∧ Below w.heap.size w w' := by
  have Q0 : Hid (((1 : Int) ≤ (n : Int) ∧ (n : Int) ≤ 125)) := by unfold Hid; omega
  have q1 : ((nb : Int) == 0) = true := by rw [beq_iff_eq]; omega
  have q2 : ((nr : Int) == 0) = true := by rw [beq_iff_eq]; omega
  have q3 : ((addr2 : Int) == 0) = true := by rw [beq_iff_eq]; omega
  have HNB : Hid (nb = bits.length) := hnb
  have HNR : Hid (nr = regs.length) := hnr
  have SB : Hid (Sl w (.slice bo nb bc) (bls bits)) := h1
  have SR : Hid (Sl w (.slice ro nr rc) (u16s regs)) := h2
  have hN : n < 65536 := ok.n
  have hA : addr < 65536 := ok.addr
  have hWR : Words regs := ok.regs
  have OK : Hid (Rq.Ok ⟨3, addr, n, addr2, bits, regs⟩) := ok
  have P0 : Hid (1 ≤ n ∧ n ≤ 125) := p0
  have P1 : Hid (nb = 0) := p1
  have P2 : Hid (nr = 0) := p2
  have P3 : Hid (addr2 = 0) := p3
  clear hnb hnr h1 h2 ok p0 p1 p2 p3
  unfold rqV
  go_enter Try.func12, Try.ntmps12
  go_wp2
  generalize hX : World.alloc w _ = X
  have BX : Hid (Box X w.heap.size (.int .u8 3) (.int .u16 addr) (.int .u16 n) (.int .u16 addr2) (.slice bo nb bc) (.slice ro nr rc)) := by rw [← hX]; exact Box.new w _ _ _ _ _ _ _
  have KX : Hid (Below w.heap.size w X) := by rw [← hX]; exact below_new (Below.refl _ w) _
  have hXs : w.heap.size < X.heap.size := by rw [← hX, World.size_alloc]; omega
  clear hX
  obtain ⟨c0, c1, c2, c3, c4, c5⟩ := BX.out
  have d0 := fun (k : Nat) (o : Obj) => ((BX.out.drewN k).grow o).c0
  have d1 := fun (k : Nat) (o : Obj) => ((BX.out.drewN k).grow o).c1
  have d2 := fun (k : Nat) (o : Obj) => ((BX.out.drewN k).grow o).c2
  have d3 := fun (k : Nat) (o : Obj) => ((BX.out.drewN k).grow o).c3
  have d4 := fun (k : Nat) (o : Obj) => ((BX.out.drewN k).grow o).c4
  have d5 := fun (k : Nat) (o : Obj) => ((BX.out.drewN k).grow o).c5
  go_quiet (fail)
  go_wp2_with fail
  refine (first_two hA (X.drewN _)).mono ?_
  rintro e Y ⟨vY, rfl, ownY, kY⟩
  have OY : Hid (Y.ownsRow X.heap.size 5 1 vY (3 :: wd addr).length (u8s (3 :: wd addr))) := ownY
  have KY : Hid (Below w.heap.size w Y) := (below_drewN KX.out _).trans (kY.mono (Nat.le_of_lt hXs))
  have hYs : X.heap.size ≤ Y.heap.size := kY.size
  have hWY : w.heap.size < Y.heap.size := Nat.lt_of_lt_of_le hXs hYs
  have BY : Hid (Box Y w.heap.size (.int .u8 3) (.int .u16 addr) (.int .u16 n) (.int .u16 addr2) (.slice bo nb bc) (.slice ro nr rc)) := (BX.out.drewN _).below kY hXs
  have LB : Hid (Sl Y (.slice bo nb bc) (bls bits)) := SB.out.below KY.out
  have LR : Hid (Sl Y (.slice ro nr rc) (u16s regs)) := SR.out.below KY.out
  have OB : Hid (Old X.heap.size (.slice bo nb bc) (bls bits)) := SB.out.old (Nat.le_of_lt hXs)
  have OR : Hid (Old X.heap.size (.slice ro nr rc) (u16s regs)) := SR.out.old (Nat.le_of_lt hXs)
  clear ownY kY c0 c1 c2 c3 c4 c5 d0 d1 d2 d3 d4 d5 BX
  obtain ⟨c0, c1, c2, c3, c4, c5⟩ := BY.out
  go_wp2_with fail
  refine (rwithin_t _ _ _ _ Q0.out).mono ?_
  rintro e w' ⟨rfl, hw⟩
  subst w'
  go_wp2_with fail
  refine (next_two (base := X.heap.size) (bs := 3 :: wd addr) (l := [n]) (n := 1) (a := #[.int .u16 n]) rfl rfl (words_one hN) (by simp [wd]) OY.out hYs).mono ?_
  rintro e w4 ⟨v4, rfl, own4, k4⟩
  have K4 : Hid (Below w.heap.size w w4) := KY.out.trans (k4.mono (Nat.le_of_lt hXs))
  have own4 : Hid (w4.ownsRow X.heap.size 5 1 v4 _ _) := own4
  clear k4 c0 c1 c2 c3 c4 c5 BY OY
  all_goals
    go_wp2
    go_ret2
    refine ⟨⟨_, rfl, ?_⟩, K4.out⟩
    have o5 := own4.out
    rw [show reqBytes ⟨3, addr, n, addr2, bits, regs⟩ = (3 :: wd addr) ++ wds [n] by simp [reqBytes, tail, wds_one, wds_two, wds_three]]
    exact own_base o5 (Nat.le_of_lt hXs)
theorem rreq3 {addr n addr2 : Nat} {bits : List Bool} {regs : List Nat} {bv rv : Value} {w : World} (ok : Rq.Ok ⟨3, addr, n, addr2, bits, regs⟩) (h1 : Sl w bv (bls bits)) (h2 : Sl w rv (u16s regs)) (lb : bits.length ≤ 2500) (lr : regs.length ≤ 200) :
    Calls Try.prog 12 #[rqV 3 addr n addr2 bv rv] w fun e w' => RefEnd (Rq.Fits ⟨3, addr, n, addr2, bits, regs⟩) (reqBytes ⟨3, addr, n, addr2, bits, regs⟩) w e w' := by
  obtain ⟨bo, bc, rfl⟩ := h1.shape
  obtain ⟨ro, rc, rfl⟩ := h2.shape
  rw [bls_len] at h1 ⊢
  rw [u16s_len] at h2 ⊢
  have HF : Rq.Fits ⟨3, addr, n, addr2, bits, regs⟩ ↔ ((1 ≤ n ∧ n ≤ 125) ∧ (bits.length = 0) ∧ (regs.length = 0) ∧ (addr2 = 0)) := by
    unfold Rq.Fits FitsN
    simp only
    generalize bits.length = nb
    generalize regs.length = nr
    simp <;> omega
  by_cases p0 : 1 ≤ n ∧ n ≤ 125
  case neg => exact (rreq3_0 _ _ _ _ _ _ _ bits regs bo ro w ok h1 h2 rfl rfl lb lr p0).mono fun e w' ⟨he, hb⟩ => RefEnd.no (fun h => p0 (HF.1 h).1) he hb
  by_cases p1 : bits.length = 0
  case neg => exact (rreq3_1 _ _ _ _ _ _ _ bits regs bo ro w ok h1 h2 rfl rfl lb lr p0 p1).mono fun e w' ⟨he, hb⟩ => RefEnd.no (fun h => p1 (HF.1 h).2.1) he hb
  by_cases p2 : regs.length = 0
  case neg => exact (rreq3_2 _ _ _ _ _ _ _ bits regs bo ro w ok h1 h2 rfl rfl lb lr p0 p1 p2).mono fun e w' ⟨he, hb⟩ => RefEnd.no (fun h => p2 (HF.1 h).2.2.1) he hb
  by_cases p3 : addr2 = 0
  case neg => exact (rreq3_3 _ _ _ _ _ _ _ bits regs bo ro w ok h1 h2 rfl rfl lb lr p0 p1 p2 p3).mono fun e w' ⟨he, hb⟩ => RefEnd.no (fun h => p3 (HF.1 h).2.2.2) he hb
  exact (rreq3_4 _ _ _ _ _ _ _ bits regs bo ro w ok h1 h2 rfl rfl lb lr p0 p1 p2 p3).mono fun e w' ⟨⟨v', he, ho⟩, hb⟩ => RefEnd.yes (HF.2 ⟨p0, p1, p2, p3⟩) he ho hb
end Go.Proofs.Ytehbbkdiekgpbaa
