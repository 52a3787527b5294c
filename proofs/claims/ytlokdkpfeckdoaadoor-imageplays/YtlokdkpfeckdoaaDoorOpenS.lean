/- From what is read of a list of steps to the values in memory (stage 11). -/
import Derived.Test.YtlokdkpfeckdoaaDoorP1
import Derived.ProofKit
import Derived.OpenShut
import Derived.Deep.Matrix
import Derived.Deep.Grids
import Derived.Lib.SmallJoins
namespace Go.Proofs.YtlokdkpfeckdoaaDoor
open Go.ChangeShapes Go.WideShapes Go.ChangeAt Go.RowKit Go.Deep Go.Joins
open Adr
theorem laidOut : laidOutB Tryd.prog = true := by kernel_rfl
theorem u16_wf {z : Int} (h : (Lit.int .u16 z).wf = true) : 0 ≤ z ∧ z ≤ 65535 := by
  simpa [Lit.wf, IntKind.min, IntKind.max, IntKind.signed, IntKind.bits] using h
theorem field_u16 {H : Type} {enc : TypeId × Value → H} {W : World} {fuel : Nat} {v : Value} {y : DataW H × List MemPlace} (hf : DataW.trod enc Tryd.prog W 0 (fun _ => true) true fuel 28 [v] = some y) : ∃ x : Nat, v = .int .u16 (x : Int) := by
  obtain ⟨a, e0, _, wa⟩ := DataW.trod_int Tryd.underlying28 hf
  have := u16_wf wa
  exact ⟨a.toNat, by simp at e0; rw [e0, Int.toNat_of_nonneg this.1]⟩
theorem field_int {H : Type} {enc : TypeId × Value → H} {W : World} {fuel : Nat} {v : Value} {y : DataW H × List MemPlace} (hf : DataW.trod enc Tryd.prog W 0 (fun _ => true) true fuel 3 [v] = some y) : ∃ x : Int, v = .int .i64 x := by
  obtain ⟨a, e0, _, wa⟩ := DataW.trod_int Tryd.underlying3 hf
  exact ⟨a, by simpa using e0⟩
theorem cellsStep : Tryd.prog.cellsOf 30 = 4 := by kernel_rfl
theorem open_steps {H : Type} {enc : TypeId × Value → H} {W : World} {base : Nat} {v : Value} {d : DataW H} {p : List MemPlace} (hok : Value.okWide Tryd.prog W .any base 22 v) (h : DataW.Trod enc Tryd.prog W 0 (fun _ => true) true 22 v d p) :
    ∃ ao n c, ∃ L : List Stp, v = .slice ao n c ∧ n = L.length ∧ n ≤ 9223372036854775807 ∧ (0 < n → ∃ lb lo, ao = some ⟨lb, lo, none⟩ ∧ ∀ i x, L[i]? = some x → StepAt W lb lo i x) := by
  obtain ⟨a0, len, cap, rfl⟩ := okWide_slice Tryd.underlying22 hok
  obtain ⟨fuel, hf⟩ := h
  rcases open_slice Tryd.underlying22 hf with ⟨hcs, _⟩ | ⟨a, len', cap', m, nf, D, Pl, hcs, _, hl, hm, hmm, hx, hr⟩
  · simp [Value.cells] at hcs
    obtain ⟨rfl, rfl, rfl⟩ := hcs
    exact ⟨none, 0, 0, [], rfl, rfl, by decide, fun h => by omega⟩
  · simp [Value.cells] at hcs
    obtain ⟨rfl, rfl, rfl⟩ := hcs
    simp only [if_true] at hmm
    unfold maxLen at hm
    rw [cellsStep] at hr
    by_cases h00 : len = 0
    · subst h00
      exact ⟨_, _, _, [], rfl, rfl, by omega, fun h => by omega⟩
    obtain ⟨b, off, spot⟩ := a
    have hspot : spot = none := by
      obtain ⟨cs', h1, _⟩ := hr 0 (by omega)
      obtain ⟨_, hlen, hcell⟩ := World.cells?_some h1
      have := hcell 0 (by omega)
      match cs', hlen with
      | [c0, c1, c2, c3], _ =>
        have h2 := World.cell?_spot (w := W) (v := c0) (by simpa using this)
        simpa [Addr.add] using h2
    subst hspot
    have hp : ∀ q, (⟨b, off, none⟩ : Addr).add q = ⟨b, off + q, none⟩ := fun q => by unfold Addr.add; split <;> simp_all
    have each : ∀ i, i < len → ∃ x : Stp, StepAt W b off i x := by
      intro i hi
      obtain ⟨cs', h1, h2⟩ := hr i (by omega)
      obtain ⟨_, hlen, hcell⟩ := World.cells?_some h1
      obtain ⟨xs, n2, _, hxe, _, hxl, hff⟩ := DataW.trod_struct Tryd.underlying30 h2
      match cs', hlen with
      | [c0, c1, c2, c3], _ =>
        match xs, hxl with
        | [y0, y1, y2, y3], _ =>
          have f0 := hff 0 _ rfl
          have f1 := hff 1 _ rfl
          have f2 := hff 2 _ rfl
          have f3 := hff 3 _ rfl
          have g0 : DataW.trod enc Tryd.prog W 0 (fun _ => true) true n2 3 [c0] = some y0 := f0
          have g1 : DataW.trod enc Tryd.prog W 0 (fun _ => true) true n2 3 [c1] = some y1 := f1
          have g2 : DataW.trod enc Tryd.prog W 0 (fun _ => true) true n2 3 [c2] = some y2 := f2
          have g3 : DataW.trod enc Tryd.prog W 0 (fun _ => true) true n2 28 [c3] = some y3 := f3
          obtain ⟨x0, rfl⟩ := field_int g0
          obtain ⟨x1, rfl⟩ := field_int g1
          obtain ⟨x2, rfl⟩ := field_int g2
          obtain ⟨x3, rfl⟩ := field_u16 g3
          refine ⟨⟨x0, x1, x2, x3⟩, fun k u hk => ?_⟩
          have hk6 : k < 4 := by have := (List.getElem?_eq_some_iff.1 hk).1; simpa [Stp.cs] using this
          have q := hcell k (by omega)
          rw [add_add, hp] at q
          rw [Nat.add_assoc]
          rw [q, ← hk]
          simp [Stp.cs]
    obtain ⟨F, hF⟩ := @choose_lt Stp ⟨⟨0, 0, 0, 0⟩⟩ len _ each
    refine ⟨_, _, _, (List.range len).map F, rfl, by simp, by omega, fun _ => ?_⟩
    refine ⟨b, off, rfl, fun i f hi => ?_⟩
    have hil : i < len := by have := (List.getElem?_eq_some_iff.1 hi).1; simpa using this
    rw [List.getElem?_map, List.getElem?_range hil] at hi
    simp at hi
    subst hi
    exact hF i hil
end Go.Proofs.YtlokdkpfeckdoaaDoor
