/- The walk: the reference's bytes of a reply, function 15. -/
import Derived.Test.YtehbbkdiekgpbabJ2
namespace Go.Proofs.Ytehbbkdiekgpbab
open Go.RowKit
open Pdu
set_option linter.unusedSimpArgs false in
set_option linter.unusedVariables false in
set_option maxRecDepth 100000 in
set_option maxHeartbeats 1600000 in
theorem rrep15_0 (addr n nb nr bc rc : Nat) (bits : List Bool) (regs : List Nat) (bo ro : Option Addr) (w : World) (ok : Rp.Ok ⟨15, 0, addr, n, bits, regs⟩) (h1 : Sl w (.slice bo nb bc) (bls bits)) (h2 : Sl w (.slice ro nr rc) (u16s regs)) (hnb : nb = bits.length) (hnr : nr = regs.length) (lb : nb ≤ 2500) (lr : nr ≤ 200) (p0 : ¬ (1 ≤ n ∧ n ≤ 1968)) :
    Calls Try.prog 13 #[rpV 15 0 addr n (.slice bo nb bc) (.slice ro nr rc)] w fun e w' => e = .returned (.tuple #[.slice none 0 0, .int .i64 30]) ∧ Below w.heap.size w w' := by
  have Q0 : Hid (¬ ((1 : Int) ≤ (n : Int) ∧ (n : Int) ≤ 1968)) := by unfold Hid; omega
  have HNB : Hid (nb = bits.length) := hnb
  have HNR : Hid (nr = regs.length) := hnr
  have SB : Hid (Sl w (.slice bo nb bc) (bls bits)) := h1
  have SR : Hid (Sl w (.slice ro nr rc) (u16s regs)) := h2
  have hN : n < 65536 := ok.n
  have hA : addr < 65536 := ok.addr
  have hWR : Words regs := ok.regs
  have OK : Hid (Rp.Ok ⟨15, 0, addr, n, bits, regs⟩) := ok
  have P0 : Hid (¬ (1 ≤ n ∧ n ≤ 1968)) := p0
  clear hnb hnr h1 h2 ok p0
  unfold rpV
  go_enter Try.func13, Try.ntmps13
  go_wp2
  generalize hX : World.alloc w _ = X
  have BX : Hid (Box X w.heap.size (.int .u8 15) (.int .u8 0) (.int .u16 addr) (.int .u16 n) (.slice bo nb bc) (.slice ro nr rc)) := by rw [← hX]; exact Box.new w _ _ _ _ _ _ _
  have KX : Hid (Below w.heap.size w X) := by rw [← hX]; exact below_new (Below.refl _ w) _
  have hXs : w.heap.size < X.heap.size := by rw [← hX, World.size_alloc]; omega
  clear hX
  obtain ⟨c0, c1, c2, c3, c4, c5⟩ := BX.out
  have d0 := fun (k : Nat) (o : Obj) => ((BX.out.drewN k).grow o).c0
  have d1 := fun (k : Nat) (o : Obj) => ((BX.out.drewN k).grow o).c1
  have d2 := fun (k : Nat) (o : Obj) => ((BX.out.drewN k).grow o).c2
  have d3 := fun (k : Nat) (o : Obj) => ((BX.out.drewN k).grow o).c3
  have d4 := fun (k : Nat) (o : Obj) => ((BX.out.drewN k).grow o).c4
  have d5 := fun (k : Nat) (o : Obj) => ((BX.out.drewN k).grow o).c5
  go_quiet (fail)
  go_wp2_with fail
  refine (rwithin_f _ _ _ _ Q0.out).mono ?_
  rintro e w' ⟨rfl, hw⟩
  subst w'
  go_wp2_with fail
  refine (two_lit (X := X.drewN _) (fn := 15) (l := [addr, n]) (n := 2) (a := #[.int .u16 addr, .int .u16 n]) rfl rfl (words_two hA hN) (by simp)).mono ?_
  rintro e w4 ⟨v4, rfl, own4, k4⟩
  have K4 : Hid (Below w.heap.size w w4) := (below_drewN KX.out _).trans (k4.mono (Nat.le_of_lt hXs))
  have own4 : Hid (w4.ownsRow X.heap.size 5 1 v4 _ _) := own4
  clear k4 c0 c1 c2 c3 c4 c5 d0 d1 d2 d3 d4 d5
  all_goals
    go_wp2
    go_ret2
    exact ⟨rfl, K4.out⟩
set_option linter.unusedSimpArgs false in
set_option linter.unusedVariables false in
set_option maxRecDepth 100000 in
set_option maxHeartbeats 1600000 in
theorem rrep15_1 (addr n nb nr bc rc : Nat) (bits : List Bool) (regs : List Nat) (bo ro : Option Addr) (w : World) (ok : Rp.Ok ⟨15, 0, addr, n, bits, regs⟩) (h1 : Sl w (.slice bo nb bc) (bls bits)) (h2 : Sl w (.slice ro nr rc) (u16s regs)) (hnb : nb = bits.length) (hnr : nr = regs.length) (lb : nb ≤ 2500) (lr : nr ≤ 200) (p0 : 1 ≤ n ∧ n ≤ 1968) (p1 : ¬ (nb + nr = 0)) :
    Calls Try.prog 13 #[rpV 15 0 addr n (.slice bo nb bc) (.slice ro nr rc)] w fun e w' => e = .returned (.tuple #[.slice none 0 0, .int .i64 30]) ∧ Below w.heap.size w w' := by
  have Q0 : Hid (((1 : Int) ≤ (n : Int) ∧ (n : Int) ≤ 1968)) := by unfold Hid; omega
  have s1 : IntKind.i64.wrap ((nb : Int) + (nr : Int)) = (nb : Int) + nr := by rw [IntKind.wrap_i64]; omega
  have q1 : ((nb : Int) + (nr : Int) == 0) = false := by rw [beq_eq_false_iff_ne]; omega
  have HNB : Hid (nb = bits.length) := hnb
  have HNR : Hid (nr = regs.length) := hnr
  have SB : Hid (Sl w (.slice bo nb bc) (bls bits)) := h1
  have SR : Hid (Sl w (.slice ro nr rc) (u16s regs)) := h2
  have hN : n < 65536 := ok.n
  have hA : addr < 65536 := ok.addr
  have hWR : Words regs := ok.regs
  have OK : Hid (Rp.Ok ⟨15, 0, addr, n, bits, regs⟩) := ok
  have P0 : Hid (1 ≤ n ∧ n ≤ 1968) := p0
  have P1 : Hid (¬ (nb + nr = 0)) := p1
  clear hnb hnr h1 h2 ok p0 p1
  unfold rpV
  go_enter Try.func13, Try.ntmps13
  go_wp2
  generalize hX : World.alloc w _ = X
  have BX : Hid (Box X w.heap.size (.int .u8 15) (.int .u8 0) (.int .u16 addr) (.int .u16 n) (.slice bo nb bc) (.slice ro nr rc)) := by rw [← hX]; exact Box.new w _ _ _ _ _ _ _
  have KX : Hid (Below w.heap.size w X) := by rw [← hX]; exact below_new (Below.refl _ w) _
  have hXs : w.heap.size < X.heap.size := by rw [← hX, World.size_alloc]; omega
  clear hX
  obtain ⟨c0, c1, c2, c3, c4, c5⟩ := BX.out
  have d0 := fun (k : Nat) (o : Obj) => ((BX.out.drewN k).grow o).c0
  have d1 := fun (k : Nat) (o : Obj) => ((BX.out.drewN k).grow o).c1
  have d2 := fun (k : Nat) (o : Obj) => ((BX.out.drewN k).grow o).c2
  have d3 := fun (k : Nat) (o : Obj) => ((BX.out.drewN k).grow o).c3
  have d4 := fun (k : Nat) (o : Obj) => ((BX.out.drewN k).grow o).c4
  have d5 := fun (k : Nat) (o : Obj) => ((BX.out.drewN k).grow o).c5
  go_quiet (fail)
  go_wp2_with fail
  refine (rwithin_t _ _ _ _ Q0.out).mono ?_
  rintro e w' ⟨rfl, hw⟩
  subst w'
  go_wp2_with fail
  refine (two_lit (X := X.drewN _) (fn := 15) (l := [addr, n]) (n := 2) (a := #[.int .u16 addr, .int .u16 n]) rfl rfl (words_two hA hN) (by simp)).mono ?_
  rintro e w4 ⟨v4, rfl, own4, k4⟩
  have K4 : Hid (Below w.heap.size w w4) := (below_drewN KX.out _).trans (k4.mono (Nat.le_of_lt hXs))
  have own4 : Hid (w4.ownsRow X.heap.size 5 1 v4 _ _) := own4
  clear k4 c0 c1 c2 c3 c4 c5 d0 d1 d2 d3 d4 d5
  all_goals
    go_wp2
    go_ret2
    exact ⟨rfl, K4.out⟩
set_option linter.unusedSimpArgs false in
set_option linter.unusedVariables false in
set_option maxRecDepth 100000 in
set_option maxHeartbeats 1600000 in
theorem rrep15_2 (addr n nb nr bc rc : Nat) (bits : List Bool) (regs : List Nat) (bo ro : Option Addr) (w : World) (ok : Rp.Ok ⟨15, 0, addr, n, bits, regs⟩) (h1 : Sl w (.slice bo nb bc) (bls bits)) (h2 : Sl w (.slice ro nr rc) (u16s regs)) (hnb : nb = bits.length) (hnr : nr = regs.length) (lb : nb ≤ 2500) (lr : nr ≤ 200) (p0 : 1 ≤ n ∧ n ≤ 1968) (p1 : nb + nr = 0) :
    Calls Try.prog 13 #[rpV 15 0 addr n (.slice bo nb bc) (.slice ro nr rc)] w fun e w' => (∃ v', e = .returned (.tuple #[v', .int .i64 0]) ∧ w'.ownsRow w.heap.size 5 1 v' (repBytes ⟨15, 0, addr, n, bits, regs⟩).length (u8s (repBytes ⟨15, 0, addr, n, bits, regs⟩))) ∧ Below w.heap.size w w' := by
  have Q0 : Hid (((1 : Int) ≤ (n : Int) ∧ (n : Int) ≤ 1968)) := by unfold Hid; omega
  have s1 : IntKind.i64.wrap ((nb : Int) + (nr : Int)) = (nb : Int) + nr := by rw [IntKind.wrap_i64]; omega
  have q1 : ((nb : Int) + (nr : Int) == 0) = true := by rw [beq_iff_eq]; omega
  have HNB : Hid (nb = bits.length) := hnb
  have HNR : Hid (nr = regs.length) := hnr
  have SB : Hid (Sl w (.slice bo nb bc) (bls bits)) := h1
  have SR : Hid (Sl w (.slice ro nr rc) (u16s regs)) := h2
  have hN : n < 65536 := ok.n
  have hA : addr < 65536 := ok.addr
  have hWR : Words regs := ok.regs
  have OK : Hid (Rp.Ok ⟨15, 0, addr, n, bits, regs⟩) := ok
  have P0 : Hid (1 ≤ n ∧ n ≤ 1968) := p0
  have P1 : Hid (nb + nr = 0) := p1
  clear hnb hnr h1 h2 ok p0 p1
  unfold rpV
  go_enter Try.func13, Try.ntmps13
  go_wp2
  generalize hX : World.alloc w _ = X
  have BX : Hid (Box X w.heap.size (.int .u8 15) (.int .u8 0) (.int .u16 addr) (.int .u16 n) (.slice bo nb bc) (.slice ro nr rc)) := by rw [← hX]; exact Box.new w _ _ _ _ _ _ _
  have KX : Hid (Below w.heap.size w X) := by rw [← hX]; exact below_new (Below.refl _ w) _
  have hXs : w.heap.size < X.heap.size := by rw [← hX, World.size_alloc]; omega
  clear hX
  obtain ⟨c0, c1, c2, c3, c4, c5⟩ := BX.out
  have d0 := fun (k : Nat) (o : Obj) => ((BX.out.drewN k).grow o).c0
  have d1 := fun (k : Nat) (o : Obj) => ((BX.out.drewN k).grow o).c1
  have d2 := fun (k : Nat) (o : Obj) => ((BX.out.drewN k).grow o).c2
  have d3 := fun (k : Nat) (o : Obj) => ((BX.out.drewN k).grow o).c3
  have d4 := fun (k : Nat) (o : Obj) => ((BX.out.drewN k).grow o).c4
  have d5 := fun (k : Nat) (o : Obj) => ((BX.out.drewN k).grow o).c5
  go_quiet (fail)
  go_wp2_with fail
  refine (rwithin_t _ _ _ _ Q0.out).mono ?_
  rintro e w' ⟨rfl, hw⟩
  subst w'
  go_wp2_with fail
  refine (two_lit (X := X.drewN _) (fn := 15) (l := [addr, n]) (n := 2) (a := #[.int .u16 addr, .int .u16 n]) rfl rfl (words_two hA hN) (by simp)).mono ?_
  rintro e w4 ⟨v4, rfl, own4, k4⟩
  have K4 : Hid (Below w.heap.size w w4) := (below_drewN KX.out _).trans (k4.mono (Nat.le_of_lt hXs))
  have own4 : Hid (w4.ownsRow X.heap.size 5 1 v4 _ _) := own4
  clear k4 c0 c1 c2 c3 c4 c5 d0 d1 d2 d3 d4 d5
  all_goals
    go_wp2
    go_ret2
    refine ⟨⟨_, rfl, ?_⟩, K4.out⟩
    have o5 := own4.out
    rw [show repBytes ⟨15, 0, addr, n, bits, regs⟩ = [15] ++ wds [addr, n] by simp [repBytes, rtail, wds_one, wds_two, wds_three]]
    exact own_base o5 (Nat.le_of_lt hXs)
theorem rrep15 {addr n : Nat} {bits : List Bool} {regs : List Nat} {bv rv : Value} {w : World} (ok : Rp.Ok ⟨15, 0, addr, n, bits, regs⟩) (h1 : Sl w bv (bls bits)) (h2 : Sl w rv (u16s regs)) (lb : bits.length ≤ 2500) (lr : regs.length ≤ 200) :
    Calls Try.prog 13 #[rpV 15 0 addr n bv rv] w fun e w' => RefEnd (Rp.Fits ⟨15, 0, addr, n, bits, regs⟩) (repBytes ⟨15, 0, addr, n, bits, regs⟩) w e w' := by
  obtain ⟨bo, bc, rfl⟩ := h1.shape
  obtain ⟨ro, rc, rfl⟩ := h2.shape
  rw [bls_len] at h1 ⊢
  rw [u16s_len] at h2 ⊢
  have HF : Rp.Fits ⟨15, 0, addr, n, bits, regs⟩ ↔ ((1 ≤ n ∧ n ≤ 1968) ∧ (bits.length + regs.length = 0)) := by
    unfold Rp.Fits RFitsN
    simp only
    generalize bits.length = nb
    generalize regs.length = nr
    simp <;> omega
  by_cases p0 : 1 ≤ n ∧ n ≤ 1968
  case neg => exact (rrep15_0 _ _ _ _ _ _ bits regs bo ro w ok h1 h2 rfl rfl lb lr p0).mono fun e w' ⟨he, hb⟩ => RefEnd.no (fun h => p0 (HF.1 h).1) he hb
  by_cases p1 : bits.length + regs.length = 0
  case neg => exact (rrep15_1 _ _ _ _ _ _ bits regs bo ro w ok h1 h2 rfl rfl lb lr p0 p1).mono fun e w' ⟨he, hb⟩ => RefEnd.no (fun h => p1 (HF.1 h).2) he hb
  exact (rrep15_2 _ _ _ _ _ _ bits regs bo ro w ok h1 h2 rfl rfl lb lr p0 p1).mono fun e w' ⟨⟨v', he, ho⟩, hb⟩ => RefEnd.yes (HF.2 ⟨p0, p1⟩) he ho hb
end Go.Proofs.Ytehbbkdiekgpbab
