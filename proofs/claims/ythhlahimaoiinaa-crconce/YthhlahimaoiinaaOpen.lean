/- From what is read of an argument to the bytes in memory. -/
import Derived.Test.YthhlahimaoiinaaTab
import Derived.ProofKit
import Derived.OpenShut
namespace Go.Proofs.Ythhlahimaoiinaa
open Go.ChangeShapes Go.WideShapes Go.ChangeAt Go.RowKit
theorem Try.own : ownKnob Try.prog.godebug = none := by kernel_rfl
theorem Try.laidOut : laidOutB Try.prog = true := by kernel_rfl
theorem Try.cells5 : Try.prog.cellsOf 5 = 1 := by kernel_rfl
theorem u8_wf {z : Int} (h : (Lit.int .u8 z).wf = true) : 0 ≤ z ∧ z ≤ 255 := by
  simpa [Lit.wf, IntKind.min, IntKind.max, IntKind.signed, IntKind.bits] using h
def nats (zs : List Int) : List Nat := zs.map Int.toNat
theorem nats_bytes {zs : List Int} (h : ∀ n ∈ zs, (Lit.int .u8 n).wf = true) : Bytes (nats zs) := by
  intro x hx
  simp only [nats, List.mem_map] at hx
  obtain ⟨z, hz, rfl⟩ := hx
  have := u8_wf (h z hz)
  omega
/-- A slice value whose cells, as many as it is long, are read as bytes. -/
theorem slice_of {W : World} {a : Addr} {len cap : Nat} {zs : List Int} (hl : len ≤ zs.length) (hcell : ∀ i, i < len → W.cell? (a.add i) = some (.int .u8 (zs.getD i 0))) (hw : ∀ n ∈ zs, (Lit.int .u8 n).wf = true) :
    ∃ bs, len = bs.length ∧ Slice W (.slice (some a) len cap) bs := by
  have hb : Bytes (nats (zs.take len)) := nats_bytes fun n hn => hw n (List.mem_of_mem_take hn)
  have hlen : (nats (zs.take len)).length = len := by simp [nats]; omega
  refine ⟨nats (zs.take len), hlen.symm, hb, ?_⟩
  by_cases h0 : len = 0
  · subst h0
    exact Or.inl ⟨rfl, some a, cap, rfl, fun h => by simp at h⟩
  · obtain ⟨b, off, spot⟩ := a
    have hspot : spot = none := by simpa [Addr.add] using World.cell?_spot (hcell 0 (by omega))
    subst hspot
    refine Or.inr ⟨b, off, cap, by rw [hlen], fun k hk => ?_⟩
    rw [hlen] at hk
    have hplain : (⟨b, off, none⟩ : Addr).add k = ⟨b, off + k, none⟩ := by unfold Addr.add; split <;> simp_all
    have hkz : k < zs.length := by omega
    have hz := u8_wf (hw _ (List.getElem_mem hkz))
    have e : ((nats (zs.take len)).getD k 0 : Int) = zs.getD k 0 := by
      simp only [nats, List.getD_eq_getElem?_getD, List.getElem?_map, List.getElem?_take, if_pos hk, List.getElem?_eq_getElem hkz, Option.map_some, Option.getD_some]
      omega
    rw [← hplain, hcell k hk, e]
theorem open_bytes {H : Type} {enc : TypeId × Value → H} {W : World} {base : Nat} {v : Value} {d : DataW H} {p : List MemPlace} (hok : Value.okWide Try.prog W .any base 22 v) (h : DataW.Trod enc Try.prog W 0 (fun _ => true) true 22 v d p) :
    ∃ bs, Slice W v bs ∧ (∃ ao n c, v = .slice ao n c ∧ n = bs.length) ∧ bs.length ≤ 9223372036854775807 := by
  obtain ⟨a0, len, cap, rfl⟩ := okWide_slice Try.underlying22 hok
  obtain ⟨fuel, hf⟩ := h
  rcases open_ints Try.underlying22 Try.underlying5 Try.cells5 hf with ⟨hcs, _⟩ | ⟨a, len', cap', zs, hcs, _, hl, hm, hz, _, hcell, hwz⟩
  · simp [Value.cells] at hcs
    obtain ⟨rfl, rfl, rfl⟩ := hcs
    exact ⟨[], ⟨fun _ h => by simp at h, Or.inl ⟨rfl, none, 0, rfl, fun _ => rfl⟩⟩, ⟨none, 0, 0, rfl, rfl⟩, by simp⟩
  · simp [Value.cells] at hcs
    obtain ⟨rfl, rfl, rfl⟩ := hcs
    simp only [if_true] at hz
    obtain ⟨bs, h1, h2⟩ := slice_of (cap := cap) (show len ≤ zs.length by omega) (fun i hi => hcell i (by omega)) hwz
    unfold maxLen at hm
    exact ⟨bs, h2, ⟨_, _, _, rfl, h1⟩, by omega⟩
end Go.Proofs.Ythhlahimaoiinaa
