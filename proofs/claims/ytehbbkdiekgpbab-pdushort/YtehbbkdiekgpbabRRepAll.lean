/- The walk: the reference's bytes of a reply: exceptions, functions that there aren't, all. -/
import Derived.Test.YtehbbkdiekgpbabRRep1
import Derived.Test.YtehbbkdiekgpbabRRep2
import Derived.Test.YtehbbkdiekgpbabRRep3
import Derived.Test.YtehbbkdiekgpbabRRep4
import Derived.Test.YtehbbkdiekgpbabRRep23
import Derived.Test.YtehbbkdiekgpbabRRep5
import Derived.Test.YtehbbkdiekgpbabRRep6
import Derived.Test.YtehbbkdiekgpbabRRep22
import Derived.Test.YtehbbkdiekgpbabRRep15
import Derived.Test.YtehbbkdiekgpbabRRep16
import Derived.Test.YtehbbkdiekgpbabWk16
namespace Go.Proofs.Ytehbbkdiekgpbab
open Go.RowKit
open Pdu
set_option linter.unusedSimpArgs false in
set_option linter.unusedVariables false in
set_option maxRecDepth 100000 in
set_option maxHeartbeats 1600000 in
theorem rrep_other (fn addr n nb nr bc rc : Nat) (bits : List Bool) (regs : List Nat) (bo ro : Option Addr) (w : World) (ok : Rp.Ok ⟨fn, 0, addr, n, bits, regs⟩) (h1 : Sl w (.slice bo nb bc) (bls bits)) (h2 : Sl w (.slice ro nr rc) (u16s regs)) (hk : fn ≠ 1 ∧ fn ≠ 2 ∧ fn ≠ 3 ∧ fn ≠ 4 ∧ fn ≠ 5 ∧ fn ≠ 6 ∧ fn ≠ 15 ∧ fn ≠ 16 ∧ fn ≠ 22 ∧ fn ≠ 23) :
    Calls Try.prog 13 #[rpV fn 0 addr n (.slice bo nb bc) (.slice ro nr rc)] w fun e w' => e = .returned (.tuple #[.slice none 0 0, .int .i64 30]) ∧ Below w.heap.size w w' := by
  have g1 : ((fn : Int) == 1) = false := by rw [beq_eq_false_iff_ne]; omega
  have g2 : ((fn : Int) == 2) = false := by rw [beq_eq_false_iff_ne]; omega
  have g3 : ((fn : Int) == 3) = false := by rw [beq_eq_false_iff_ne]; omega
  have g4 : ((fn : Int) == 4) = false := by rw [beq_eq_false_iff_ne]; omega
  have g5 : ((fn : Int) == 5) = false := by rw [beq_eq_false_iff_ne]; omega
  have g6 : ((fn : Int) == 6) = false := by rw [beq_eq_false_iff_ne]; omega
  have g15 : ((fn : Int) == 15) = false := by rw [beq_eq_false_iff_ne]; omega
  have g16 : ((fn : Int) == 16) = false := by rw [beq_eq_false_iff_ne]; omega
  have g22 : ((fn : Int) == 22) = false := by rw [beq_eq_false_iff_ne]; omega
  have g23 : ((fn : Int) == 23) = false := by rw [beq_eq_false_iff_ne]; omega
  have SB : Hid (Sl w (.slice bo nb bc) (bls bits)) := h1
  have SR : Hid (Sl w (.slice ro nr rc) (u16s regs)) := h2
  have hN : n < 65536 := ok.n
  clear h1 h2
  clear hk ok
  unfold rpV
  go_enter Try.func13, Try.ntmps13
  go_wp2
  generalize hX : World.alloc w _ = X
  have BX : Hid (Box X w.heap.size (.int .u8 fn) (.int .u8 0) (.int .u16 addr) (.int .u16 n) (.slice bo nb bc) (.slice ro nr rc)) := by rw [← hX]; exact Box.new w _ _ _ _ _ _ _
  have KX : Hid (Below w.heap.size w X) := by rw [← hX]; exact below_new (Below.refl _ w) _
  have hXs : w.heap.size < X.heap.size := by rw [← hX, World.size_alloc]; omega
  clear hX
  obtain ⟨c0, c1, c2, c3, c4, c5⟩ := BX.out
  have d0 := fun (k : Nat) (o : Obj) => ((BX.out.drewN k).grow o).c0
  have d1 := fun (k : Nat) (o : Obj) => ((BX.out.drewN k).grow o).c1
  have d2 := fun (k : Nat) (o : Obj) => ((BX.out.drewN k).grow o).c2
  have d3 := fun (k : Nat) (o : Obj) => ((BX.out.drewN k).grow o).c3
  have d4 := fun (k : Nat) (o : Obj) => ((BX.out.drewN k).grow o).c4
  have d5 := fun (k : Nat) (o : Obj) => ((BX.out.drewN k).grow o).c5
  go_quiet (fail)
  go_wp2
  go_ret2
  exact ⟨rfl, below_new (below_drewN KX.out _) _⟩
set_option linter.unusedSimpArgs false in
set_option linter.unusedVariables false in
set_option maxRecDepth 100000 in
set_option maxHeartbeats 1600000 in
theorem rrep_e1 (fn exc addr n nb nr bc rc : Nat) (bits : List Bool) (regs : List Nat) (bo ro : Option Addr) (w : World) (ok : Rp.Ok ⟨fn, exc, addr, n, bits, regs⟩) (h1 : Sl w (.slice bo nb bc) (bls bits)) (h2 : Sl w (.slice ro nr rc) (u16s regs)) (lb : nb ≤ 2500) (lr : nr ≤ 200) (he : exc ≠ 0) (p1 : 128 ≤ fn) :
    Calls Try.prog 13 #[rpV fn exc addr n (.slice bo nb bc) (.slice ro nr rc)] w fun e w' => e = .returned (.tuple #[.slice none 0 0, .int .i64 30]) ∧ Below w.heap.size w w' := by
  have hfn : fn < 256 := ok.fn
  have g0 : ((exc : Int) == 0) = false := by rw [beq_eq_false_iff_ne]; omega
  have s1 : IntKind.i64.wrap ((n : Int) + (nb : Int)) = (n : Int) + nb := by have := ok.n; simp only at this; rw [IntKind.wrap_i64]; omega
  have s2 : IntKind.i64.wrap ((n : Int) + (nb : Int) + (nr : Int)) = (n : Int) + nb + nr := by have := ok.n; simp only at this; rw [IntKind.wrap_i64]; omega
  have q1 : decide ((128 : Int) ≤ (fn : Int)) = true := decide_eq_true (by omega)
  have SB : Hid (Sl w (.slice bo nb bc) (bls bits)) := h1
  have SR : Hid (Sl w (.slice ro nr rc) (u16s regs)) := h2
  have hN : n < 65536 := ok.n
  clear h1 h2
  clear he ok p1
  unfold rpV
  go_enter Try.func13, Try.ntmps13
  go_wp2
  generalize hX : World.alloc w _ = X
  have BX : Hid (Box X w.heap.size (.int .u8 fn) (.int .u8 exc) (.int .u16 addr) (.int .u16 n) (.slice bo nb bc) (.slice ro nr rc)) := by rw [← hX]; exact Box.new w _ _ _ _ _ _ _
  have KX : Hid (Below w.heap.size w X) := by rw [← hX]; exact below_new (Below.refl _ w) _
  have hXs : w.heap.size < X.heap.size := by rw [← hX, World.size_alloc]; omega
  clear hX
  obtain ⟨c0, c1, c2, c3, c4, c5⟩ := BX.out
  have d0 := fun (k : Nat) (o : Obj) => ((BX.out.drewN k).grow o).c0
  have d1 := fun (k : Nat) (o : Obj) => ((BX.out.drewN k).grow o).c1
  have d2 := fun (k : Nat) (o : Obj) => ((BX.out.drewN k).grow o).c2
  have d3 := fun (k : Nat) (o : Obj) => ((BX.out.drewN k).grow o).c3
  have d4 := fun (k : Nat) (o : Obj) => ((BX.out.drewN k).grow o).c4
  have d5 := fun (k : Nat) (o : Obj) => ((BX.out.drewN k).grow o).c5
  go_quiet (fail)
  go_wp2
  go_ret2
  exact ⟨rfl, below_drewN KX.out _⟩
set_option linter.unusedSimpArgs false in
set_option linter.unusedVariables false in
set_option maxRecDepth 100000 in
set_option maxHeartbeats 1600000 in
theorem rrep_e2 (fn exc addr n nb nr bc rc : Nat) (bits : List Bool) (regs : List Nat) (bo ro : Option Addr) (w : World) (ok : Rp.Ok ⟨fn, exc, addr, n, bits, regs⟩) (h1 : Sl w (.slice bo nb bc) (bls bits)) (h2 : Sl w (.slice ro nr rc) (u16s regs)) (lb : nb ≤ 2500) (lr : nr ≤ 200) (he : exc ≠ 0) (p1 : fn < 128) (p2 : ¬ n + nb + nr = 0) :
    Calls Try.prog 13 #[rpV fn exc addr n (.slice bo nb bc) (.slice ro nr rc)] w fun e w' => e = .returned (.tuple #[.slice none 0 0, .int .i64 30]) ∧ Below w.heap.size w w' := by
  have hfn : fn < 256 := ok.fn
  have g0 : ((exc : Int) == 0) = false := by rw [beq_eq_false_iff_ne]; omega
  have s1 : IntKind.i64.wrap ((n : Int) + (nb : Int)) = (n : Int) + nb := by have := ok.n; simp only at this; rw [IntKind.wrap_i64]; omega
  have s2 : IntKind.i64.wrap ((n : Int) + (nb : Int) + (nr : Int)) = (n : Int) + nb + nr := by have := ok.n; simp only at this; rw [IntKind.wrap_i64]; omega
  have q1 : decide ((128 : Int) ≤ (fn : Int)) = false := decide_eq_false (by omega)
  have q2 : ((n : Int) + (nb : Int) + (nr : Int) == 0) = false := by rw [beq_eq_false_iff_ne]; omega
  have SB : Hid (Sl w (.slice bo nb bc) (bls bits)) := h1
  have SR : Hid (Sl w (.slice ro nr rc) (u16s regs)) := h2
  have hN : n < 65536 := ok.n
  clear h1 h2
  clear he ok p1 p2
  unfold rpV
  go_enter Try.func13, Try.ntmps13
  go_wp2
  generalize hX : World.alloc w _ = X
  have BX : Hid (Box X w.heap.size (.int .u8 fn) (.int .u8 exc) (.int .u16 addr) (.int .u16 n) (.slice bo nb bc) (.slice ro nr rc)) := by rw [← hX]; exact Box.new w _ _ _ _ _ _ _
  have KX : Hid (Below w.heap.size w X) := by rw [← hX]; exact below_new (Below.refl _ w) _
  have hXs : w.heap.size < X.heap.size := by rw [← hX, World.size_alloc]; omega
  clear hX
  obtain ⟨c0, c1, c2, c3, c4, c5⟩ := BX.out
  have d0 := fun (k : Nat) (o : Obj) => ((BX.out.drewN k).grow o).c0
  have d1 := fun (k : Nat) (o : Obj) => ((BX.out.drewN k).grow o).c1
  have d2 := fun (k : Nat) (o : Obj) => ((BX.out.drewN k).grow o).c2
  have d3 := fun (k : Nat) (o : Obj) => ((BX.out.drewN k).grow o).c3
  have d4 := fun (k : Nat) (o : Obj) => ((BX.out.drewN k).grow o).c4
  have d5 := fun (k : Nat) (o : Obj) => ((BX.out.drewN k).grow o).c5
  go_quiet (fail)
  go_wp2
  go_ret2
  exact ⟨rfl, below_drewN KX.out _⟩
set_option linter.unusedSimpArgs false in
set_option linter.unusedVariables false in
set_option maxRecDepth 100000 in
set_option maxHeartbeats 1600000 in
theorem rrep_e3 (fn exc addr bc rc : Nat) (bo ro : Option Addr) (w : World) (hfn : fn < 256) (he : exc ≠ 0) (p1 : fn < 128) (p3 : ¬ addr = 0) :
    Calls Try.prog 13 #[rpV fn exc addr 0 (.slice bo 0 bc) (.slice ro 0 rc)] w fun e w' => e = .returned (.tuple #[.slice none 0 0, .int .i64 30]) ∧ Below w.heap.size w w' := by
  have g0 : ((exc : Int) == 0) = false := by rw [beq_eq_false_iff_ne]; omega
  have q1 : decide ((128 : Int) ≤ (fn : Int)) = false := decide_eq_false (by omega)
  have q3 : ((addr : Int) == 0) = false := by rw [beq_eq_false_iff_ne]; omega
  clear he p1 p3
  unfold rpV
  go_enter Try.func13, Try.ntmps13
  go_wp2
  generalize hX : World.alloc w _ = X
  have BX : Hid (Box X w.heap.size (.int .u8 fn) (.int .u8 exc) (.int .u16 addr) (.int .u16 0) (.slice bo 0 bc) (.slice ro 0 rc)) := by rw [← hX]; exact Box.new w _ _ _ _ _ _ _
  have KX : Hid (Below w.heap.size w X) := by rw [← hX]; exact below_new (Below.refl _ w) _
  have hXs : w.heap.size < X.heap.size := by rw [← hX, World.size_alloc]; omega
  clear hX
  obtain ⟨c0, c1, c2, c3, c4, c5⟩ := BX.out
  have d0 := fun (k : Nat) (o : Obj) => ((BX.out.drewN k).grow o).c0
  have d1 := fun (k : Nat) (o : Obj) => ((BX.out.drewN k).grow o).c1
  have d2 := fun (k : Nat) (o : Obj) => ((BX.out.drewN k).grow o).c2
  have d3 := fun (k : Nat) (o : Obj) => ((BX.out.drewN k).grow o).c3
  have d4 := fun (k : Nat) (o : Obj) => ((BX.out.drewN k).grow o).c4
  have d5 := fun (k : Nat) (o : Obj) => ((BX.out.drewN k).grow o).c5
  go_quiet (fail)
  go_wp2
  go_ret2
  exact ⟨rfl, below_drewN KX.out _⟩
set_option linter.unusedSimpArgs false in
set_option linter.unusedVariables false in
set_option maxRecDepth 100000 in
set_option maxHeartbeats 1600000 in
theorem rrep_e4 (fn exc addr bc rc : Nat) (bo ro : Option Addr) (w : World) (hfn : fn < 256) (he : exc ≠ 0) (p1 : fn < 128) (p3 : addr = 0) :
    Calls Try.prog 13 #[rpV fn exc addr 0 (.slice bo 0 bc) (.slice ro 0 rc)] w fun e w' => (∃ v', e = .returned (.tuple #[v', .int .i64 0]) ∧ w'.ownsRow w.heap.size 5 1 v' [fn + 128, exc].length (u8s [fn + 128, exc])) ∧ Below w.heap.size w w' := by
  have g0 : ((exc : Int) == 0) = false := by rw [beq_eq_false_iff_ne]; omega
  have q1 : decide ((128 : Int) ≤ (fn : Int)) = false := decide_eq_false (by omega)
  have q3 : ((addr : Int) == 0) = true := by rw [beq_iff_eq]; omega
  have q4 := or_128 p1
  clear he p1 p3
  unfold rpV
  go_enter Try.func13, Try.ntmps13
  go_wp2
  generalize hX : World.alloc w _ = X
  have BX : Hid (Box X w.heap.size (.int .u8 fn) (.int .u8 exc) (.int .u16 addr) (.int .u16 0) (.slice bo 0 bc) (.slice ro 0 rc)) := by rw [← hX]; exact Box.new w _ _ _ _ _ _ _
  have KX : Hid (Below w.heap.size w X) := by rw [← hX]; exact below_new (Below.refl _ w) _
  have hXs : w.heap.size < X.heap.size := by rw [← hX, World.size_alloc]; omega
  clear hX
  obtain ⟨c0, c1, c2, c3, c4, c5⟩ := BX.out
  have d0 := fun (k : Nat) (o : Obj) => ((BX.out.drewN k).grow o).c0
  have d1 := fun (k : Nat) (o : Obj) => ((BX.out.drewN k).grow o).c1
  have d2 := fun (k : Nat) (o : Obj) => ((BX.out.drewN k).grow o).c2
  have d3 := fun (k : Nat) (o : Obj) => ((BX.out.drewN k).grow o).c3
  have d4 := fun (k : Nat) (o : Obj) => ((BX.out.drewN k).grow o).c4
  have d5 := fun (k : Nat) (o : Obj) => ((BX.out.drewN k).grow o).c5
  go_quiet (fail)
  go_wp2
  go_ret2
  refine ⟨⟨_, rfl, ?_⟩, below_new (below_drewN KX.out _) _⟩
  exact own_base (lit_own2 (X.drewN _) (fn + 128) exc) (Nat.le_of_lt hXs)
theorem ref_reply {v : Value} {r : Rp} {w : World} (h : IsRp w v r) (lb : r.bits.length ≤ 2500) (lr : r.regs.length ≤ 200) : Calls Try.prog 13 #[v] w fun e w' => RefEnd r.Fits (repBytes r) w e w' := by
  obtain ⟨ok, bv, rv, rfl, h1, h2⟩ := h
  obtain ⟨fn, exc, addr, n, bits, regs⟩ := r
  simp only at ok h1 h2 lb lr ⊢
  by_cases he : exc = 0
  · subst he
    by_cases hk : fn = 1 ∨ fn = 2 ∨ fn = 3 ∨ fn = 4 ∨ fn = 5 ∨ fn = 6 ∨ fn = 15 ∨ fn = 16 ∨ fn = 22 ∨ fn = 23
    · rcases hk with rfl | rfl | rfl | rfl | rfl | rfl | rfl | rfl | rfl | rfl
      · exact rrep1 ok h1 h2 lb lr
      · exact rrep2 ok h1 h2 lb lr
      · exact rrep3 ok h1 h2 lb lr
      · exact rrep4 ok h1 h2 lb lr
      · exact rrep5 ok h1 h2 lb lr
      · exact rrep6 ok h1 h2 lb lr
      · exact rrep15 ok h1 h2 lb lr
      · exact rrep16 ok h1 h2 lb lr
      · exact rrep22 ok h1 h2 lb lr
      · exact rrep23 ok h1 h2 lb lr
    · obtain ⟨bo, bc, rfl⟩ := h1.shape
      obtain ⟨ro, rc, rfl⟩ := h2.shape
      exact (rrep_other fn addr n _ _ bc rc bits regs bo ro w ok h1 h2 (by omega)).mono fun e w' ⟨he, hb⟩ => RefEnd.no (fun hf => hk (by unfold Rp.Fits RFitsN at hf; simp only at hf; omega)) he hb
  · obtain ⟨bo, bc, rfl⟩ := h1.shape
    obtain ⟨ro, rc, rfl⟩ := h2.shape
    rw [bls_len] at h1 ⊢
    rw [u16s_len] at h2 ⊢
    by_cases p1 : fn < 128
    case neg => exact (rrep_e1 fn exc addr n _ _ bc rc bits regs bo ro w ok h1 h2 lb lr he (by omega)).mono fun e w' ⟨he', hb⟩ => RefEnd.no (fun hf => by unfold Rp.Fits RFitsN at hf; simp only at hf; omega) he' hb
    by_cases p2 : n + bits.length + regs.length = 0
    case neg => exact (rrep_e2 fn exc addr n _ _ bc rc bits regs bo ro w ok h1 h2 lb lr he p1 p2).mono fun e w' ⟨he', hb⟩ => RefEnd.no (fun hf => by unfold Rp.Fits RFitsN at hf; simp only at hf; omega) he' hb
    obtain rfl : n = 0 := by omega
    obtain rfl : bits = [] := List.length_eq_zero_iff.1 (by omega)
    obtain rfl : regs = [] := List.length_eq_zero_iff.1 (by omega)
    by_cases p3 : addr = 0
    case neg => exact (rrep_e3 fn exc addr bc rc bo ro w ok.fn he p1 p3).mono fun e w' ⟨he', hb⟩ => RefEnd.no (fun hf => by unfold Rp.Fits RFitsN at hf; simp only at hf; omega) he' hb
    have e2 : repBytes ⟨fn, exc, addr, 0, [], []⟩ = [fn + 128, exc] := by unfold repBytes; rw [if_neg he]
    rw [e2]
    exact (rrep_e4 fn exc addr bc rc bo ro w ok.fn he p1 p3).mono fun e w' ⟨⟨v', he', ho⟩, hb⟩ => RefEnd.yes (show RFitsN fn exc addr 0 0 0 from Or.inl ⟨he, p1, p3, rfl, rfl, rfl⟩) he' ho hb
end Go.Proofs.Ytehbbkdiekgpbab
