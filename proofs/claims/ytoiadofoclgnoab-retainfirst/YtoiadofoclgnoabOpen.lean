/- From what is read of an argument to the values in memory (stage 9). -/
import Derived.Test.YtoiadofoclgnoabL1
import Derived.ProofKit
import Derived.OpenShut
import Derived.Deep.Matrix
import Derived.Deep.Grids
import Derived.Lib.SmallJoins
namespace Go.Proofs.Ytoiadofoclgnoab
open Go.ChangeShapes Go.WideShapes Go.ChangeAt Go.RowKit Go.Deep Go.Joins
open Pdu
theorem Try.own : ownKnob Try.prog.godebug = none := by kernel_rfl
theorem Try.laidOut : laidOutB Try.prog = true := by kernel_rfl
theorem u8_wf {z : Int} (h : (Lit.int .u8 z).wf = true) : 0 ≤ z ∧ z ≤ 255 := by
  simpa [Lit.wf, IntKind.min, IntKind.max, IntKind.signed, IntKind.bits] using h
/-- A slice value whose cells are these values. -/
theorem sl_of {W : World} {a : Addr} {len cap : Nat} {vs : List Value} (hl : len = vs.length) (hc : len ≤ cap) (hcell : ∀ i u, vs[i]? = some u → W.cell? (a.add i) = some u) : Sl W (.slice (some a) len cap) vs := by
  by_cases h0 : vs = []
  · subst h0
    subst hl
    exact Or.inl ⟨rfl, some a, cap, rfl, fun h => by simp at h⟩
  · obtain ⟨b, off, spot⟩ := a
    have hpos : 0 < vs.length := List.length_pos_iff.2 h0
    have hspot : spot = none := by simpa [Addr.add] using World.cell?_spot (hcell 0 _ (List.getElem?_eq_getElem hpos))
    subst hspot
    refine Or.inr ⟨b, off, cap, by rw [hl], by omega, fun k u hk => ?_⟩
    have hplain : (⟨b, off, none⟩ : Addr).add k = ⟨b, off + k, none⟩ := by unfold Addr.add; split <;> simp_all
    rw [← hplain]
    exact hcell k u hk
theorem i64_wf {z : Int} (h : (Lit.int .i64 z).wf = true) : -9223372036854775808 ≤ z ∧ z ≤ 9223372036854775807 := by
  simpa [Lit.wf, IntKind.min, IntKind.max, IntKind.signed, IntKind.bits] using h
theorem Try.cellsInt : Try.prog.cellsOf 3 = 1 := by kernel_rfl
end Go.Proofs.Ytoiadofoclgnoab
