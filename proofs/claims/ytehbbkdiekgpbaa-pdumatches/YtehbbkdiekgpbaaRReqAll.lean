/- The walk: the reference's bytes of a request: functions that there aren't, all. -/
import Derived.Test.YtehbbkdiekgpbaaRReq1
import Derived.Test.YtehbbkdiekgpbaaRReq2
import Derived.Test.YtehbbkdiekgpbaaRReq3
import Derived.Test.YtehbbkdiekgpbaaRReq4
import Derived.Test.YtehbbkdiekgpbaaRReq5
import Derived.Test.YtehbbkdiekgpbaaRReq6
import Derived.Test.YtehbbkdiekgpbaaRReq15
import Derived.Test.YtehbbkdiekgpbaaRReq16
import Derived.Test.YtehbbkdiekgpbaaRReq22
import Derived.Test.YtehbbkdiekgpbaaRReq23
namespace Go.Proofs.Ytehbbkdiekgpbaa
open Go.RowKit
open Pdu
set_option linter.unusedSimpArgs false in
set_option linter.unusedVariables false in
set_option maxRecDepth 100000 in
set_option maxHeartbeats 1600000 in
theorem rreq_other (fn addr n addr2 nb nr bc rc : Nat) (bits : List Bool) (regs : List Nat) (bo ro : Option Addr) (w : World) (ok : Rq.Ok ⟨fn, addr, n, addr2, bits, regs⟩) (h1 : Sl w (.slice bo nb bc) (bls bits)) (h2 : Sl w (.slice ro nr rc) (u16s regs)) (hk : fn ≠ 1 ∧ fn ≠ 2 ∧ fn ≠ 3 ∧ fn ≠ 4 ∧ fn ≠ 5 ∧ fn ≠ 6 ∧ fn ≠ 15 ∧ fn ≠ 16 ∧ fn ≠ 22 ∧ fn ≠ 23) :
    Calls Try.prog 12 #[rqV fn addr n addr2 (.slice bo nb bc) (.slice ro nr rc)] w fun e w' => e = .returned (.tuple #[.slice none 0 0, .int .i64 30]) ∧ Below w.heap.size w w' := by
  have g1 : ((fn : Int) == 1) = false := by rw [beq_eq_false_iff_ne]; omega
  have g2 : ((fn : Int) == 2) = false := by rw [beq_eq_false_iff_ne]; omega
  have g3 : ((fn : Int) == 3) = false := by rw [beq_eq_false_iff_ne]; omega
  have g4 : ((fn : Int) == 4) = false := by rw [beq_eq_false_iff_ne]; omega
  have g5 : ((fn : Int) == 5) = false := by rw [beq_eq_false_iff_ne]; omega
  have g6 : ((fn : Int) == 6) = false := by rw [beq_eq_false_iff_ne]; omega
  have g15 : ((fn : Int) == 15) = false := by rw [beq_eq_false_iff_ne]; omega
  have g16 : ((fn : Int) == 16) = false := by rw [beq_eq_false_iff_ne]; omega
  have g22 : ((fn : Int) == 22) = false := by rw [beq_eq_false_iff_ne]; omega
  have g23 : ((fn : Int) == 23) = false := by rw [beq_eq_false_iff_ne]; omega
  have SB : Hid (Sl w (.slice bo nb bc) (bls bits)) := h1
  have SR : Hid (Sl w (.slice ro nr rc) (u16s regs)) := h2
  have hN : n < 65536 := ok.n
  have hA : addr < 65536 := ok.addr
  clear h1 h2
  clear hk ok
  unfold rqV
  go_enter Try.func12, Try.ntmps12
  go_wp2
  generalize hX : World.alloc w _ = X
  have BX : Hid (Box X w.heap.size (.int .u8 fn) (.int .u16 addr) (.int .u16 n) (.int .u16 addr2) (.slice bo nb bc) (.slice ro nr rc)) := by rw [← hX]; exact Box.new w _ _ _ _ _ _ _
  have KX : Hid (Below w.heap.size w X) := by rw [← hX]; exact below_new (Below.refl _ w) _
  have hXs : w.heap.size < X.heap.size := by rw [← hX, World.size_alloc]; omega
  clear hX
  obtain ⟨c0, c1, c2, c3, c4, c5⟩ := BX.out
  have d0 := fun (k : Nat) (o : Obj) => ((BX.out.drewN k).grow o).c0
  have d1 := fun (k : Nat) (o : Obj) => ((BX.out.drewN k).grow o).c1
  have d2 := fun (k : Nat) (o : Obj) => ((BX.out.drewN k).grow o).c2
  have d3 := fun (k : Nat) (o : Obj) => ((BX.out.drewN k).grow o).c3
  have d4 := fun (k : Nat) (o : Obj) => ((BX.out.drewN k).grow o).c4
  have d5 := fun (k : Nat) (o : Obj) => ((BX.out.drewN k).grow o).c5
  go_quiet (fail)
  go_wp2_with fail
  refine (first_two hA (X.drewN _)).mono ?_
  rintro e Y ⟨vY, rfl, ownY, kY⟩
  have OY : Hid (Y.ownsRow X.heap.size 5 1 vY (fn :: wd addr).length (u8s (fn :: wd addr))) := ownY
  have KY : Hid (Below w.heap.size w Y) := (below_drewN KX.out _).trans (kY.mono (Nat.le_of_lt hXs))
  have hYs : X.heap.size ≤ Y.heap.size := kY.size
  have hWY : w.heap.size < Y.heap.size := Nat.lt_of_lt_of_le hXs hYs
  have BY : Hid (Box Y w.heap.size (.int .u8 fn) (.int .u16 addr) (.int .u16 n) (.int .u16 addr2) (.slice bo nb bc) (.slice ro nr rc)) := (BX.out.drewN _).below kY hXs
  have LB : Hid (Sl Y (.slice bo nb bc) (bls bits)) := SB.out.below KY.out
  have LR : Hid (Sl Y (.slice ro nr rc) (u16s regs)) := SR.out.below KY.out
  have OB : Hid (Old X.heap.size (.slice bo nb bc) (bls bits)) := SB.out.old (Nat.le_of_lt hXs)
  have OR : Hid (Old X.heap.size (.slice ro nr rc) (u16s regs)) := SR.out.old (Nat.le_of_lt hXs)
  clear ownY kY c0 c1 c2 c3 c4 c5 d0 d1 d2 d3 d4 d5 BX
  obtain ⟨c0, c1, c2, c3, c4, c5⟩ := BY.out
  go_wp2
  go_ret2
  exact ⟨rfl, KY.out⟩
theorem ref_request {v : Value} {q : Rq} {w : World} (h : IsRq w v q) (lb : q.bits.length ≤ 2500) (lr : q.regs.length ≤ 200) : Calls Try.prog 12 #[v] w fun e w' => RefEnd q.Fits (reqBytes q) w e w' := by
  obtain ⟨ok, bv, rv, rfl, h1, h2⟩ := h
  obtain ⟨fn, addr, n, addr2, bits, regs⟩ := q
  simp only at ok h1 h2 lb lr ⊢
  by_cases hk : fn = 1 ∨ fn = 2 ∨ fn = 3 ∨ fn = 4 ∨ fn = 5 ∨ fn = 6 ∨ fn = 15 ∨ fn = 16 ∨ fn = 22 ∨ fn = 23
  · rcases hk with rfl | rfl | rfl | rfl | rfl | rfl | rfl | rfl | rfl | rfl
    · exact rreq1 ok h1 h2 lb lr
    · exact rreq2 ok h1 h2 lb lr
    · exact rreq3 ok h1 h2 lb lr
    · exact rreq4 ok h1 h2 lb lr
    · exact rreq5 ok h1 h2 lb lr
    · exact rreq6 ok h1 h2 lb lr
    · exact rreq15 ok h1 h2 lb lr
    · exact rreq16 ok h1 h2 lb lr
    · exact rreq22 ok h1 h2 lb lr
    · exact rreq23 ok h1 h2 lb lr
  · obtain ⟨bo, bc, rfl⟩ := h1.shape
    obtain ⟨ro, rc, rfl⟩ := h2.shape
    exact (rreq_other fn addr n addr2 _ _ bc rc bits regs bo ro w ok h1 h2 (by omega)).mono fun e w' ⟨he, hb⟩ => RefEnd.no (fun hf => hk (by unfold Rq.Fits FitsN at hf; simp only at hf; omega)) he hb
end Go.Proofs.Ytehbbkdiekgpbaa
