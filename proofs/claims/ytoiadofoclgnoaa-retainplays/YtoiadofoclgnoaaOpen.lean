/- From what is read of an argument to the values in memory (stage 9). -/
import Derived.Test.YtoiadofoclgnoaaL1
import Derived.ProofKit
import Derived.OpenShut
import Derived.Deep.Matrix
import Derived.Deep.Grids
import Derived.Lib.SmallJoins
namespace Go.Proofs.Ytoiadofoclgnoaa
open Go.ChangeShapes Go.WideShapes Go.ChangeAt Go.RowKit Go.Deep Go.Joins
open Pdu
theorem Try.own : ownKnob Try.prog.godebug = none := by kernel_rfl
theorem Try.laidOut : laidOutB Try.prog = true := by kernel_rfl
theorem u8_wf {z : Int} (h : (Lit.int .u8 z).wf = true) : 0 ≤ z ∧ z ≤ 255 := by
  simpa [Lit.wf, IntKind.min, IntKind.max, IntKind.signed, IntKind.bits] using h
/-- A slice value whose cells are these values. -/
theorem sl_of {W : World} {a : Addr} {len cap : Nat} {vs : List Value} (hl : len = vs.length) (hc : len ≤ cap) (hcell : ∀ i u, vs[i]? = some u → W.cell? (a.add i) = some u) : Sl W (.slice (some a) len cap) vs := by
  by_cases h0 : vs = []
  · subst h0
    subst hl
    exact Or.inl ⟨rfl, some a, cap, rfl, fun h => by simp at h⟩
  · obtain ⟨b, off, spot⟩ := a
    have hpos : 0 < vs.length := List.length_pos_iff.2 h0
    have hspot : spot = none := by simpa [Addr.add] using World.cell?_spot (hcell 0 _ (List.getElem?_eq_getElem hpos))
    subst hspot
    refine Or.inr ⟨b, off, cap, by rw [hl], by omega, fun k u hk => ?_⟩
    have hplain : (⟨b, off, none⟩ : Addr).add k = ⟨b, off + k, none⟩ := by unfold Addr.add; split <;> simp_all
    rw [← hplain]
    exact hcell k u hk
theorem i64_wf {z : Int} (h : (Lit.int .i64 z).wf = true) : -9223372036854775808 ≤ z ∧ z ≤ 9223372036854775807 := by
  simpa [Lit.wf, IntKind.min, IntKind.max, IntKind.signed, IntKind.bits] using h
theorem Try.cellsInt : Try.prog.cellsOf 3 = 1 := by kernel_rfl
/-- A list of numbers. -/
theorem open_nums {H : Type} {enc : TypeId × Value → H} {W : World} {base : Nat} {v : Value} {d : DataW H} {p : List MemPlace} (hok : Value.okWide Try.prog W .any base 45 v) (h : DataW.Trod enc Try.prog W 0 (fun _ => true) true 45 v d p) :
    ∃ ao n c l, v = .slice ao n c ∧ n = l.length ∧ Sl W (.slice ao n c) (i64s l) := by
  obtain ⟨a0, len, cap, rfl⟩ := okWide_slice Try.underlying45 hok
  obtain ⟨fuel, hf⟩ := h
  rcases open_ints Try.underlying45 Try.underlying3 Try.cellsInt hf with ⟨hcs, _⟩ | ⟨a, len', cap', zs, hcs, _, hl, hm, hz, _, hcell, hwz⟩
  · simp [Value.cells] at hcs
    obtain ⟨rfl, rfl, rfl⟩ := hcs
    exact ⟨none, 0, 0, [], rfl, rfl, Sl.nil W⟩
  · simp [Value.cells] at hcs
    obtain ⟨rfl, rfl, rfl⟩ := hcs
    simp only [if_true] at hz
    have hlen : (zs.take len).length = len := by simp; omega
    refine ⟨_, _, _, zs.take len, rfl, hlen.symm, sl_of (by rw [i64s_len, hlen]) (by omega) fun i u hi => ?_⟩
    have hil : i < len := by have := (List.getElem?_eq_some_iff.1 hi).1; rw [i64s_len, hlen] at this; exact this
    rw [i64s_at _ i (by rw [hlen]; exact hil)] at hi
    have hkz : i < zs.length := by omega
    have e : (zs.take len).getD i 0 = zs.getD i 0 := by
      simp only [List.getD_eq_getElem?_getD, List.getElem?_take, if_pos hil]
    rw [hcell i (by omega), ← hi, e]
end Go.Proofs.Ytoiadofoclgnoaa
