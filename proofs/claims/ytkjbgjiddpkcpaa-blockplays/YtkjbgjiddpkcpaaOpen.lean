/- From what is read of an argument to the values in memory (stage 8). -/
import Derived.Test.YtkjbgjiddpkcpaaU1
import Derived.ProofKit
import Derived.OpenShut
import Derived.Deep.Matrix
import Derived.Deep.Grids
import Derived.Lib.SmallJoins
namespace Go.Proofs.Ytkjbgjiddpkcpaa
open Go.ChangeShapes Go.WideShapes Go.ChangeAt Go.RowKit Go.Deep Go.Joins
open Pdu
theorem Try.own : ownKnob Try.prog.godebug = none := by kernel_rfl
theorem Try.laidOut : laidOutB Try.prog = true := by kernel_rfl
theorem Try.cellsByte : Try.prog.cellsOf 5 = 1 := by kernel_rfl
theorem u8_wf {z : Int} (h : (Lit.int .u8 z).wf = true) : 0 ≤ z ∧ z ≤ 255 := by
  simpa [Lit.wf, IntKind.min, IntKind.max, IntKind.signed, IntKind.bits] using h
def nats (zs : List Int) : List Nat := zs.map Int.toNat
theorem nats_bytes {zs : List Int} (h : ∀ n ∈ zs, (Lit.int .u8 n).wf = true) : Bytes (nats zs) := by
  intro x hx
  simp only [nats, List.mem_map] at hx
  obtain ⟨z, hz, rfl⟩ := hx
  have := u8_wf (h z hz)
  omega
/-- A slice value whose cells are these values. -/
theorem sl_of {W : World} {a : Addr} {len cap : Nat} {vs : List Value} (hl : len = vs.length) (hc : len ≤ cap) (hcell : ∀ i u, vs[i]? = some u → W.cell? (a.add i) = some u) : Sl W (.slice (some a) len cap) vs := by
  by_cases h0 : vs = []
  · subst h0
    subst hl
    exact Or.inl ⟨rfl, some a, cap, rfl, fun h => by simp at h⟩
  · obtain ⟨b, off, spot⟩ := a
    have hpos : 0 < vs.length := List.length_pos_iff.2 h0
    have hspot : spot = none := by simpa [Addr.add] using World.cell?_spot (hcell 0 _ (List.getElem?_eq_getElem hpos))
    subst hspot
    refine Or.inr ⟨b, off, cap, by rw [hl], by omega, fun k u hk => ?_⟩
    have hplain : (⟨b, off, none⟩ : Addr).add k = ⟨b, off + k, none⟩ := by unfold Addr.add; split <;> simp_all
    rw [← hplain]
    exact hcell k u hk
theorem open_bytes {H : Type} {enc : TypeId × Value → H} {W : World} {base : Nat} {v : Value} {d : DataW H} {p : List MemPlace} (hok : Value.okWide Try.prog W .any base 30 v) (h : DataW.Trod enc Try.prog W 0 (fun _ => true) true 30 v d p) :
    ∃ ao n c bs, v = .slice ao n c ∧ n = bs.length ∧ Bytes bs ∧ Sl W v (u8s bs) ∧ n ≤ 9223372036854775807 := by
  obtain ⟨a0, len, cap, rfl⟩ := okWide_slice Try.underlying30 hok
  obtain ⟨fuel, hf⟩ := h
  rcases open_ints Try.underlying30 Try.underlying5 Try.cellsByte hf with ⟨hcs, _⟩ | ⟨a, len', cap', zs, hcs, _, hl, hm, hz, _, hcell, hwz⟩
  · simp [Value.cells] at hcs
    obtain ⟨rfl, rfl, rfl⟩ := hcs
    exact ⟨none, 0, 0, [], rfl, rfl, Bytes.nil, Sl.nil W, by decide⟩
  · simp [Value.cells] at hcs
    obtain ⟨rfl, rfl, rfl⟩ := hcs
    simp only [if_true] at hz
    unfold maxLen at hm
    have hlen : (nats (zs.take len)).length = len := by simp [nats]; omega
    refine ⟨_, _, _, nats (zs.take len), rfl, hlen.symm, nats_bytes fun n hn => hwz n (List.mem_of_mem_take hn), sl_of (by rw [u8s_len, hlen]) (by omega) fun i u hi => ?_, by omega⟩
    have hil : i < len := by have := (List.getElem?_eq_some_iff.1 hi).1; rw [u8s_len, hlen] at this; exact this
    rw [u8s_at _ i (by rw [hlen]; exact hil)] at hi
    have hkz : i < zs.length := by omega
    have hw := u8_wf (hwz _ (List.getElem_mem hkz))
    have e : ((nats (zs.take len)).getD i 0 : Int) = zs.getD i 0 := by
      simp only [nats, List.getD_eq_getElem?_getD, List.getElem?_map, List.getElem?_take, if_pos hil, List.getElem?_eq_getElem hkz, Option.map_some, Option.getD_some]
      omega
    rw [hcell i (by omega), ← hi, e]
theorem u16_wf {z : Int} (h : (Lit.int .u16 z).wf = true) : 0 ≤ z ∧ z ≤ 65535 := by
  simpa [Lit.wf, IntKind.min, IntKind.max, IntKind.signed, IntKind.bits] using h
theorem field_u8 {H : Type} {enc : TypeId × Value → H} {W : World} {fuel : Nat} {v : Value} {y : DataW H × List MemPlace} (hf : DataW.trod enc Try.prog W 0 (fun _ => true) true fuel 5 [v] = some y) : ∃ x : Nat, v = .int .u8 x ∧ x < 256 := by
  obtain ⟨a, e0, _, wa⟩ := DataW.trod_int Try.underlying5 hf
  have := u8_wf wa
  exact ⟨a.toNat, by simp at e0; rw [e0, Int.toNat_of_nonneg this.1], by omega⟩
theorem field_bytes {H : Type} {enc : TypeId × Value → H} {W : World} {fuel : Nat} {v : Value} {y : DataW H × List MemPlace} (hf : DataW.trod enc Try.prog W 0 (fun _ => true) true fuel 30 [v] = some y) : ∃ l, Bytes l ∧ Sl W v (u8s l) := by
  rcases open_ints Try.underlying30 Try.underlying5 Try.cellsByte hf with ⟨hcs, _⟩ | ⟨a, len, cap, zs, hcs, _, hl, hm, hz, _, hcell, hwz⟩
  · simp at hcs
    subst hcs
    exact ⟨[], Bytes.nil, Sl.nil W⟩
  · simp at hcs
    subst hcs
    simp only [if_true] at hz
    have hlen : (nats (zs.take len)).length = len := by simp [nats]; omega
    refine ⟨nats (zs.take len), nats_bytes fun n hn => hwz n (List.mem_of_mem_take hn), sl_of (by rw [u8s_len, hlen]) (by omega) fun i u hi => ?_⟩
    have hil : i < len := by have := (List.getElem?_eq_some_iff.1 hi).1; rw [u8s_len, hlen] at this; exact this
    rw [u8s_at _ i (by rw [hlen]; exact hil)] at hi
    have hkz : i < zs.length := by omega
    have hw := u8_wf (hwz _ (List.getElem_mem hkz))
    have e : ((nats (zs.take len)).getD i 0 : Int) = zs.getD i 0 := by
      simp only [nats, List.getD_eq_getElem?_getD, List.getElem?_map, List.getElem?_take, if_pos hil, List.getElem?_eq_getElem hkz, Option.map_some, Option.getD_some]
      omega
    rw [hcell i (by omega), ← hi, e]
theorem Try.cellsSl : Try.prog.cellsOf 30 = 1 := by kernel_rfl
theorem sl_of_ints {W : World} {a : Addr} {len cap : Nat} {zs : List Int} (hl : len ≤ cap) (hz : zs.length = cap) (hcell : ∀ i, i < cap → W.cell? (a.add i) = some (.int .u8 (zs.getD i 0))) (hwz : ∀ n ∈ zs, (Lit.int .u8 n).wf = true) :
    ∃ bs, len = bs.length ∧ Bytes bs ∧ Sl W (.slice (some a) len cap) (u8s bs) := by
  have hlen : (nats (zs.take len)).length = len := by simp [nats]; omega
  refine ⟨nats (zs.take len), hlen.symm, nats_bytes fun n hn => hwz n (List.mem_of_mem_take hn), sl_of (by rw [u8s_len, hlen]) hl fun i u hi => ?_⟩
  have hil : i < len := by have := (List.getElem?_eq_some_iff.1 hi).1; rw [u8s_len, hlen] at this; exact this
  rw [u8s_at _ i (by rw [hlen]; exact hil)] at hi
  have hkz : i < zs.length := by omega
  have hw := u8_wf (hwz _ (List.getElem_mem hkz))
  have e : ((nats (zs.take len)).getD i 0 : Int) = zs.getD i 0 := by
    simp only [nats, List.getD_eq_getElem?_getD, List.getElem?_map, List.getElem?_take, if_pos hil, List.getElem?_eq_getElem hkz, Option.map_some, Option.getD_some]
    omega
  rw [hcell i (by omega), ← hi, e]
theorem open_grid {H : Type} {enc : TypeId × Value → H} {W : World} {base : Nat} {v : Value} {d : DataW H} {p : List MemPlace} (hok : Value.okWide Try.prog W .any base 33 v) (h : DataW.Trod enc Try.prog W 0 (fun _ => true) true 33 v d p) :
    ∃ ao n c, v = .slice ao n c ∧ (0 < n → ∃ lb lo, ao = some ⟨lb, lo, none⟩ ∧ ∀ i, i < n → ∃ bs, RowAt W ⟨lb, lo + i, none⟩ bs) := by
  obtain ⟨a0, len, cap, rfl⟩ := okWide_slice Try.underlying33 hok
  obtain ⟨fuel, hf⟩ := h
  rcases open_int_rows Try.underlying33 Try.underlying30 Try.underlying5 Try.cellsSl Try.cellsByte hf with ⟨hcs, _⟩ | ⟨a, len', cap', A, L, C, Z, hcs, _, hl, hm, _, hr⟩
  · simp [Value.cells] at hcs
    obtain ⟨rfl, rfl, rfl⟩ := hcs
    exact ⟨none, 0, 0, rfl, fun h => by omega⟩
  · simp [Value.cells] at hcs
    obtain ⟨rfl, rfl, rfl⟩ := hcs
    refine ⟨_, _, _, rfl, fun h0 => ?_⟩
    obtain ⟨b, off, spot⟩ := a
    have hspot : spot = none := by simpa [Addr.add] using World.cell?_spot (hr 0 (by omega)).1
    subst hspot
    refine ⟨b, off, rfl, fun i hi => ?_⟩
    have hplain : (⟨b, off, none⟩ : Addr).add i = ⟨b, off + i, none⟩ := by unfold Addr.add; split <;> simp_all
    obtain ⟨hc, h1, h2, h3, h4, h5, h6⟩ := hr i (by omega)
    rw [hplain] at hc
    match hA : A i with
    | none =>
      have e0 := h5 hA
      refine ⟨[], Bytes.nil, none, 0, ?_, Sl.nil W⟩
      rw [hc, hA, e0, show L i = 0 by omega]
      rfl
    | some a' =>
      obtain ⟨bs, e1, e2, e3⟩ := sl_of_ints (W := W) (a := a') (len := L i) (cap := C i) (zs := Z i) h1 h3 (fun j hj => (h6 a' hA).2 j hj) h4
      refine ⟨bs, e2, some a', C i, ?_, ?_⟩
      · rw [hc, hA, e1]
      · rw [← e1]; exact e3
theorem i64_wf {z : Int} (h : (Lit.int .i64 z).wf = true) : -9223372036854775808 ≤ z ∧ z ≤ 9223372036854775807 := by
  simpa [Lit.wf, IntKind.min, IntKind.max, IntKind.signed, IntKind.bits] using h
end Go.Proofs.Ytkjbgjiddpkcpaa
