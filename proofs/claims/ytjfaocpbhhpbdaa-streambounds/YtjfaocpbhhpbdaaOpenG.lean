/- From what is read of lists of lists, and of frames, to the values in memory. -/
import Derived.Test.YtjfaocpbhhpbdaaOpen
import Derived.Test.YtjfaocpbhhpbdaaBD
namespace Go.Proofs.Ytjfaocpbhhpbdaa
open Go.ChangeShapes Go.WideShapes Go.ChangeAt Go.RowKit Go.Deep Go.Joins
open Pdu
theorem Try.cellsSl : Try.prog.cellsOf 22 = 1 := by kernel_rfl
theorem sl_of_ints {W : World} {a : Addr} {len cap : Nat} {zs : List Int} (hl : len ≤ cap) (hz : zs.length = cap) (hcell : ∀ i, i < cap → W.cell? (a.add i) = some (.int .u8 (zs.getD i 0))) (hwz : ∀ n ∈ zs, (Lit.int .u8 n).wf = true) :
    ∃ bs, len = bs.length ∧ Bytes bs ∧ Sl W (.slice (some a) len cap) (u8s bs) := by
  have hlen : (nats (zs.take len)).length = len := by simp [nats]; omega
  refine ⟨nats (zs.take len), hlen.symm, nats_bytes fun n hn => hwz n (List.mem_of_mem_take hn), sl_of (by rw [u8s_len, hlen]) hl fun i u hi => ?_⟩
  have hil : i < len := by have := (List.getElem?_eq_some_iff.1 hi).1; rw [u8s_len, hlen] at this; exact this
  rw [u8s_at _ i (by rw [hlen]; exact hil)] at hi
  have hkz : i < zs.length := by omega
  have hw := u8_wf (hwz _ (List.getElem_mem hkz))
  have e : ((nats (zs.take len)).getD i 0 : Int) = zs.getD i 0 := by
    simp only [nats, List.getD_eq_getElem?_getD, List.getElem?_map, List.getElem?_take, if_pos hil, List.getElem?_eq_getElem hkz, Option.map_some, Option.getD_some]
    omega
  rw [hcell i (by omega), ← hi, e]
theorem open_grid {H : Type} {enc : TypeId × Value → H} {W : World} {base : Nat} {v : Value} {d : DataW H} {p : List MemPlace} (hok : Value.okWide Try.prog W .any base 34 v) (h : DataW.Trod enc Try.prog W 0 (fun _ => true) true 34 v d p) :
    ∃ ao n c, v = .slice ao n c ∧ (0 < n → ∃ lb lo, ao = some ⟨lb, lo, none⟩ ∧ ∀ i, i < n → ∃ bs, RowAt W ⟨lb, lo + i, none⟩ bs) := by
  obtain ⟨a0, len, cap, rfl⟩ := okWide_slice Try.underlying34 hok
  obtain ⟨fuel, hf⟩ := h
  rcases open_int_rows Try.underlying34 Try.underlying22 Try.underlying5 Try.cellsSl Try.cellsByte hf with ⟨hcs, _⟩ | ⟨a, len', cap', A, L, C, Z, hcs, _, hl, hm, _, hr⟩
  · simp [Value.cells] at hcs
    obtain ⟨rfl, rfl, rfl⟩ := hcs
    exact ⟨none, 0, 0, rfl, fun h => by omega⟩
  · simp [Value.cells] at hcs
    obtain ⟨rfl, rfl, rfl⟩ := hcs
    refine ⟨_, _, _, rfl, fun h0 => ?_⟩
    obtain ⟨b, off, spot⟩ := a
    have hspot : spot = none := by simpa [Addr.add] using World.cell?_spot (hr 0 (by omega)).1
    subst hspot
    refine ⟨b, off, rfl, fun i hi => ?_⟩
    have hplain : (⟨b, off, none⟩ : Addr).add i = ⟨b, off + i, none⟩ := by unfold Addr.add; split <;> simp_all
    obtain ⟨hc, h1, h2, h3, h4, h5, h6⟩ := hr i (by omega)
    rw [hplain] at hc
    match hA : A i with
    | none =>
      have e0 := h5 hA
      refine ⟨[], Bytes.nil, none, 0, ?_, Sl.nil W⟩
      rw [hc, hA, e0, show L i = 0 by omega]
      rfl
    | some a' =>
      obtain ⟨bs, e1, e2, e3⟩ := sl_of_ints (W := W) (a := a') (len := L i) (cap := C i) (zs := Z i) h1 h3 (fun j hj => (h6 a' hA).2 j hj) h4
      refine ⟨bs, e2, some a', C i, ?_, ?_⟩
      · rw [hc, hA, e1]
      · rw [← e1]; exact e3
end Go.Proofs.Ytjfaocpbhhpbdaa
