/- From what is read of a list of steps to the values in memory (stage 9). -/
import Derived.Test.YtoiadofoclgnoaaOpen
import Derived.Test.YtoiadofoclgnoaaPL1
namespace Go.Proofs.Ytoiadofoclgnoaa
open Go.ChangeShapes Go.WideShapes Go.ChangeAt Go.RowKit Go.Deep Go.Joins
open Pdu
theorem Try.cellsStep : Try.prog.cellsOf 35 = 3 := by kernel_rfl
theorem field_int {H : Type} {enc : TypeId × Value → H} {W : World} {fuel : Nat} {v : Value} {y : DataW H × List MemPlace} (hf : DataW.trod enc Try.prog W 0 (fun _ => true) true fuel 3 [v] = some y) : ∃ x : Int, v = .int .i64 x := by
  obtain ⟨a, e0, _, wa⟩ := DataW.trod_int Try.underlying3 hf
  exact ⟨a, by simpa using e0⟩
set_option maxRecDepth 100000 in
theorem open_steps {H : Type} {enc : TypeId × Value → H} {W : World} {base : Nat} {v : Value} {d : DataW H} {p : List MemPlace} (hok : Value.okWide Try.prog W .any base 22 v) (h : DataW.Trod enc Try.prog W 0 (fun _ => true) true 22 v d p) :
    ∃ ao n c, ∃ L : List Stp, v = .slice ao n c ∧ n = L.length ∧ n ≤ 9223372036854775807 ∧ (0 < n → ∃ lb lo, ao = some ⟨lb, lo, none⟩ ∧ ∀ i x, L[i]? = some x → StepAt W lb lo i x) := by
  obtain ⟨a0, len, cap, rfl⟩ := okWide_slice Try.underlying22 hok
  obtain ⟨fuel, hf⟩ := h
  rcases open_slice Try.underlying22 hf with ⟨hcs, _⟩ | ⟨a, len', cap', m, nf, D, Pl, hcs, _, hl, hm, hmm, hx, hr⟩
  · simp [Value.cells] at hcs
    obtain ⟨rfl, rfl, rfl⟩ := hcs
    exact ⟨none, 0, 0, [], rfl, rfl, by decide, fun h => by omega⟩
  · simp [Value.cells] at hcs
    obtain ⟨rfl, rfl, rfl⟩ := hcs
    simp only [if_true] at hmm
    unfold maxLen at hm
    rw [Try.cellsStep] at hr
    by_cases h00 : len = 0
    · subst h00
      exact ⟨_, _, _, [], rfl, rfl, by omega, fun h => by omega⟩
    obtain ⟨b, off, spot⟩ := a
    have hspot : spot = none := by
      obtain ⟨cs', h1, _⟩ := hr 0 (by omega)
      obtain ⟨_, hlen, hcell⟩ := World.cells?_some h1
      have := hcell 0 (by omega)
      match cs', hlen with
      | [c0, c1, c2], _ =>
        have h2 := World.cell?_spot (w := W) (v := c0) (by simpa using this)
        simpa [Addr.add] using h2
    subst hspot
    have hp : ∀ q, (⟨b, off, none⟩ : Addr).add q = ⟨b, off + q, none⟩ := fun q => by unfold Addr.add; split <;> simp_all
    have each : ∀ i, i < len → ∃ x : Stp, StepAt W b off i x := by
      intro i hi
      obtain ⟨cs', h1, h2⟩ := hr i (by omega)
      obtain ⟨_, hlen, hcell⟩ := World.cells?_some h1
      obtain ⟨xs, n2, _, hxe, _, hxl, hff⟩ := DataW.trod_struct Try.underlying35 h2
      match cs', hlen with
      | [c0, c1, c2], _ =>
        match xs, hxl with
        | [y0, y1, y2], _ =>
          have f0 := hff 0 _ rfl
          have f1 := hff 1 _ rfl
          have f2 := hff 2 _ rfl
          have g0 : DataW.trod enc Try.prog W 0 (fun _ => true) true n2 3 [c0] = some y0 := f0
          have g1 : DataW.trod enc Try.prog W 0 (fun _ => true) true n2 3 [c1] = some y1 := f1
          have g2 : DataW.trod enc Try.prog W 0 (fun _ => true) true n2 3 [c2] = some y2 := f2
          obtain ⟨x0, rfl⟩ := field_int g0
          obtain ⟨x1, rfl⟩ := field_int g1
          obtain ⟨x2, rfl⟩ := field_int g2
          have key : ∀ k u, [Value.int .i64 x0, .int .i64 x1, .int .i64 x2][k]? = some u → W.cell? ⟨b, off + i * 3 + k, none⟩ = some u := by
            intro k u hk
            have hk3 : k < 3 := (List.getElem?_eq_some_iff.1 hk).1
            have q := hcell k (by omega)
            rw [add_add, hp] at q
            rw [Nat.add_assoc]
            rw [q, ← hk]
          exact ⟨⟨x0, x1, x2⟩, key 0 _ rfl, key 1 _ rfl, key 2 _ rfl⟩
    obtain ⟨F, hF⟩ := @choose_lt Stp ⟨⟨0, 0, 0⟩⟩ len _ each
    refine ⟨_, _, _, (List.range len).map F, rfl, by simp, by omega, fun _ => ?_⟩
    refine ⟨b, off, rfl, fun i f hi => ?_⟩
    have hil : i < len := by have := (List.getElem?_eq_some_iff.1 hi).1; simpa using this
    rw [List.getElem?_map, List.getElem?_range hil] at hi
    simp at hi
    subst hi
    exact hF i hil
end Go.Proofs.Ytoiadofoclgnoaa
