/- From what is read of a list of frames to the values in memory. -/
import Derived.Test.YtjfaocpbhhpbdaaOpen
import Derived.Test.YtjfaocpbhhpbdaaWR
namespace Go.Proofs.Ytjfaocpbhhpbdaa
open Go.ChangeShapes Go.WideShapes Go.ChangeAt Go.RowKit Go.Deep Go.Joins
open Pdu
theorem open_frs {H : Type} {enc : TypeId × Value → H} {W : World} {base : Nat} {v : Value} {d : DataW H} {p : List MemPlace} (hok : Value.okWide Try.prog W .any base 24 v) (h : DataW.Trod enc Try.prog W 0 (fun _ => true) true 24 v d p) :
    ∃ ao n c, ∃ L : List Fr, v = .slice ao n c ∧ n = L.length ∧ (0 < n → ∃ lb lo, ao = some ⟨lb, lo, none⟩ ∧ ∀ i f, L[i]? = some f → FrAt W lb lo i f) := by
  obtain ⟨a0, len, cap, rfl⟩ := okWide_slice Try.underlying24 hok
  obtain ⟨fuel, hf⟩ := h
  rcases open_slice Try.underlying24 hf with ⟨hcs, _⟩ | ⟨a, len', cap', m, nf, D, Pl, hcs, _, hl, hm, hmm, _, hr⟩
  · simp [Value.cells] at hcs
    obtain ⟨rfl, rfl, rfl⟩ := hcs
    exact ⟨none, 0, 0, [], rfl, rfl, fun h => by omega⟩
  · simp [Value.cells] at hcs
    obtain ⟨rfl, rfl, rfl⟩ := hcs
    simp only [if_true] at hmm
    rw [Try.cellsFr] at hr
    by_cases h00 : len = 0
    · subst h00
      exact ⟨_, _, _, [], rfl, rfl, fun h => by omega⟩
    obtain ⟨b, off, spot⟩ := a
    have hspot : spot = none := by
      obtain ⟨cs', h1, _⟩ := hr 0 (by omega)
      obtain ⟨_, hlen, hcell⟩ := World.cells?_some h1
      have := hcell 0 (by omega)
      match cs', hlen with
      | [c0, c1, c2], _ =>
        have h2 := World.cell?_spot (w := W) (v := c0) (by simpa using this)
        simpa [Addr.add] using h2
    subst hspot
    have hp : ∀ q, (⟨b, off, none⟩ : Addr).add q = ⟨b, off + q, none⟩ := fun q => by unfold Addr.add; split <;> simp_all
    have each : ∀ i, i < len → ∃ f : Fr, FrAt W b off i f := by
      intro i hi
      obtain ⟨cs', h1, h2⟩ := hr i (by omega)
      obtain ⟨_, hlen, hcell⟩ := World.cells?_some h1
      obtain ⟨xs, n2, _, _, _, hxl, hff⟩ := DataW.trod_struct Try.underlying29 h2
      match cs', hlen with
      | [c0, c1, c2], _ =>
        match xs, hxl with
        | [y0, y1, y2], _ =>
          have f0 := hff 0 _ rfl
          have f1 := hff 1 _ rfl
          have f2 := hff 2 _ rfl
          have g0 : DataW.trod enc Try.prog W 0 (fun _ => true) true n2 27 [c0] = some y0 := f0
          have g1 : DataW.trod enc Try.prog W 0 (fun _ => true) true n2 5 [c1] = some y1 := f1
          have g2 : DataW.trod enc Try.prog W 0 (fun _ => true) true n2 22 [c2] = some y2 := f2
          obtain ⟨x0, rfl, b0⟩ := field_u16 g0
          obtain ⟨x1, rfl, b1⟩ := field_u8 g1
          obtain ⟨l, hb, hs⟩ := field_bytes g2
          obtain ⟨po, pc, rfl⟩ := hs.shape
          rw [u8s_len] at hs hcell
          have k0 := hcell 0 (by omega)
          have k1 := hcell 1 (by omega)
          have k2 := hcell 2 (by omega)
          rw [add_add, hp] at k0 k1 k2
          exact ⟨⟨x0, x1, l⟩, b0, b1, hb, po, pc, k0, by rw [Nat.add_assoc]; exact k1, by rw [Nat.add_assoc]; exact k2, hs⟩
    obtain ⟨F, hF⟩ := @choose_lt Fr ⟨⟨0, 0, []⟩⟩ len _ each
    refine ⟨_, _, _, (List.range len).map F, rfl, by simp, fun _ => ?_⟩
    refine ⟨b, off, rfl, fun i f hi => ?_⟩
    have hil : i < len := by have := (List.getElem?_eq_some_iff.1 hi).1; simpa using this
    rw [List.getElem?_map, List.getElem?_range hil] at hi
    simp at hi
    subst hi
    exact hF i hil
end Go.Proofs.Ytjfaocpbhhpbdaa
