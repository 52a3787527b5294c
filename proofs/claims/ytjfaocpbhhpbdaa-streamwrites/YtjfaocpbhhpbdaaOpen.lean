/- From what is read of an argument to the values in memory (stage 6). -/
import Derived.Test.YtjfaocpbhhpbdaaW1
import Derived.ProofKit
import Derived.OpenShut
import Derived.Deep.Matrix
import Derived.Deep.Grids
import Derived.Lib.SmallJoins
namespace Go.Proofs.Ytjfaocpbhhpbdaa
open Go.ChangeShapes Go.WideShapes Go.ChangeAt Go.RowKit Go.Deep Go.Joins
open Pdu
theorem Try.own : ownKnob Try.prog.godebug = none := by kernel_rfl
theorem Try.laidOut : laidOutB Try.prog = true := by kernel_rfl
theorem Try.cellsByte : Try.prog.cellsOf 5 = 1 := by kernel_rfl
theorem u8_wf {z : Int} (h : (Lit.int .u8 z).wf = true) : 0 ≤ z ∧ z ≤ 255 := by
  simpa [Lit.wf, IntKind.min, IntKind.max, IntKind.signed, IntKind.bits] using h
def nats (zs : List Int) : List Nat := zs.map Int.toNat
theorem nats_bytes {zs : List Int} (h : ∀ n ∈ zs, (Lit.int .u8 n).wf = true) : Bytes (nats zs) := by
  intro x hx
  simp only [nats, List.mem_map] at hx
  obtain ⟨z, hz, rfl⟩ := hx
  have := u8_wf (h z hz)
  omega
/-- A slice value whose cells are these values. -/
theorem sl_of {W : World} {a : Addr} {len cap : Nat} {vs : List Value} (hl : len = vs.length) (hc : len ≤ cap) (hcell : ∀ i u, vs[i]? = some u → W.cell? (a.add i) = some u) : Sl W (.slice (some a) len cap) vs := by
  by_cases h0 : vs = []
  · subst h0
    subst hl
    exact Or.inl ⟨rfl, some a, cap, rfl, fun h => by simp at h⟩
  · obtain ⟨b, off, spot⟩ := a
    have hpos : 0 < vs.length := List.length_pos_iff.2 h0
    have hspot : spot = none := by simpa [Addr.add] using World.cell?_spot (hcell 0 _ (List.getElem?_eq_getElem hpos))
    subst hspot
    refine Or.inr ⟨b, off, cap, by rw [hl], by omega, fun k u hk => ?_⟩
    have hplain : (⟨b, off, none⟩ : Addr).add k = ⟨b, off + k, none⟩ := by unfold Addr.add; split <;> simp_all
    rw [← hplain]
    exact hcell k u hk
theorem open_bytes {H : Type} {enc : TypeId × Value → H} {W : World} {base : Nat} {v : Value} {d : DataW H} {p : List MemPlace} (hok : Value.okWide Try.prog W .any base 22 v) (h : DataW.Trod enc Try.prog W 0 (fun _ => true) true 22 v d p) :
    ∃ ao n c bs, v = .slice ao n c ∧ n = bs.length ∧ Bytes bs ∧ Sl W v (u8s bs) ∧ n ≤ 9223372036854775807 := by
  obtain ⟨a0, len, cap, rfl⟩ := okWide_slice Try.underlying22 hok
  obtain ⟨fuel, hf⟩ := h
  rcases open_ints Try.underlying22 Try.underlying5 Try.cellsByte hf with ⟨hcs, _⟩ | ⟨a, len', cap', zs, hcs, _, hl, hm, hz, _, hcell, hwz⟩
  · simp [Value.cells] at hcs
    obtain ⟨rfl, rfl, rfl⟩ := hcs
    exact ⟨none, 0, 0, [], rfl, rfl, Bytes.nil, Sl.nil W, by decide⟩
  · simp [Value.cells] at hcs
    obtain ⟨rfl, rfl, rfl⟩ := hcs
    simp only [if_true] at hz
    unfold maxLen at hm
    have hlen : (nats (zs.take len)).length = len := by simp [nats]; omega
    refine ⟨_, _, _, nats (zs.take len), rfl, hlen.symm, nats_bytes fun n hn => hwz n (List.mem_of_mem_take hn), sl_of (by rw [u8s_len, hlen]) (by omega) fun i u hi => ?_, by omega⟩
    have hil : i < len := by have := (List.getElem?_eq_some_iff.1 hi).1; rw [u8s_len, hlen] at this; exact this
    rw [u8s_at _ i (by rw [hlen]; exact hil)] at hi
    have hkz : i < zs.length := by omega
    have hw := u8_wf (hwz _ (List.getElem_mem hkz))
    have e : ((nats (zs.take len)).getD i 0 : Int) = zs.getD i 0 := by
      simp only [nats, List.getD_eq_getElem?_getD, List.getElem?_map, List.getElem?_take, if_pos hil, List.getElem?_eq_getElem hkz, Option.map_some, Option.getD_some]
      omega
    rw [hcell i (by omega), ← hi, e]
theorem u16_wf {z : Int} (h : (Lit.int .u16 z).wf = true) : 0 ≤ z ∧ z ≤ 65535 := by
  simpa [Lit.wf, IntKind.min, IntKind.max, IntKind.signed, IntKind.bits] using h
theorem field_u8 {H : Type} {enc : TypeId × Value → H} {W : World} {fuel : Nat} {v : Value} {y : DataW H × List MemPlace} (hf : DataW.trod enc Try.prog W 0 (fun _ => true) true fuel 5 [v] = some y) : ∃ x : Nat, v = .int .u8 x ∧ x < 256 := by
  obtain ⟨a, e0, _, wa⟩ := DataW.trod_int Try.underlying5 hf
  have := u8_wf wa
  exact ⟨a.toNat, by simp at e0; rw [e0, Int.toNat_of_nonneg this.1], by omega⟩
theorem field_u16 {H : Type} {enc : TypeId × Value → H} {W : World} {fuel : Nat} {v : Value} {y : DataW H × List MemPlace} (hf : DataW.trod enc Try.prog W 0 (fun _ => true) true fuel 27 [v] = some y) : ∃ x : Nat, v = .int .u16 x ∧ x < 65536 := by
  obtain ⟨a, e0, _, wa⟩ := DataW.trod_int Try.underlying27 hf
  have := u16_wf wa
  exact ⟨a.toNat, by simp at e0; rw [e0, Int.toNat_of_nonneg this.1], by omega⟩
theorem array3 {α : Type} {cs : Array α} (h : cs.size = 3) : ∃ c0 c1 c2, cs = #[c0, c1, c2] := by
  obtain ⟨l⟩ := cs
  match l, h with
  | [c0, c1, c2], _ => exact ⟨c0, c1, c2, rfl⟩
theorem open_three {H : Type} {enc : TypeId × Value → H} {P : Program} {w : World} {base b0 : Nat} {spare : Nat → Bool} {held : Bool} {r : Reach} {t : TypeId} {f0 f1 f2 : Field} {v : Value} {d : DataW H} {p : List MemPlace} (hs : P.underlying t = some (.struct #[f0, f1, f2])) (hone : oneCellFields P #[f0, f1, f2] = true) (hC : P.cellsOf t = 3)
    (hv : Value.okWide P w r b0 t v) (h : DataW.Trod enc P w base spare held t v d p) :
    ∃ (v0 v1 v2 : Value) (y0 y1 y2 : DataW H × List MemPlace) (n : Nat), v = .agg #[v0, v1, v2] ∧ DataW.trod enc P w base spare held n f0.type [v0] = some y0 ∧ DataW.trod enc P w base spare held n f1.type [v1] = some y1 ∧ DataW.trod enc P w base spare held n f2.type [v2] = some y2 := by
  obtain ⟨cs, rfl, hsz⟩ := okWide_struct hs hv
  obtain ⟨c0, c1, c2, rfl⟩ := array3 (hsz.trans hC)
  obtain ⟨fuel, hf⟩ := h
  obtain ⟨xs, n, _, _, _, hlen, hff⟩ := DataW.trod_struct hs hf
  obtain ⟨o0, k0⟩ := hone_of hone 0 f0 rfl
  obtain ⟨o1, k1⟩ := hone_of hone 1 f1 rfl
  obtain ⟨o2, k2⟩ := hone_of hone 2 f2 rfl
  match xs, hlen with
  | [y0, y1, y2], _ =>
    exact ⟨c0, c1, c2, y0, y1, y2, n, rfl, by simpa [Value.cells, o0, k0] using hff 0 f0 rfl, by simpa [Value.cells, o1, k1] using hff 1 f1 rfl, by simpa [Value.cells, o2, k2] using hff 2 f2 rfl⟩
theorem field_bytes {H : Type} {enc : TypeId × Value → H} {W : World} {fuel : Nat} {v : Value} {y : DataW H × List MemPlace} (hf : DataW.trod enc Try.prog W 0 (fun _ => true) true fuel 22 [v] = some y) : ∃ l, Bytes l ∧ Sl W v (u8s l) := by
  rcases open_ints Try.underlying22 Try.underlying5 Try.cellsByte hf with ⟨hcs, _⟩ | ⟨a, len, cap, zs, hcs, _, hl, hm, hz, _, hcell, hwz⟩
  · simp at hcs
    subst hcs
    exact ⟨[], Bytes.nil, Sl.nil W⟩
  · simp at hcs
    subst hcs
    simp only [if_true] at hz
    have hlen : (nats (zs.take len)).length = len := by simp [nats]; omega
    refine ⟨nats (zs.take len), nats_bytes fun n hn => hwz n (List.mem_of_mem_take hn), sl_of (by rw [u8s_len, hlen]) (by omega) fun i u hi => ?_⟩
    have hil : i < len := by have := (List.getElem?_eq_some_iff.1 hi).1; rw [u8s_len, hlen] at this; exact this
    rw [u8s_at _ i (by rw [hlen]; exact hil)] at hi
    have hkz : i < zs.length := by omega
    have hw := u8_wf (hwz _ (List.getElem_mem hkz))
    have e : ((nats (zs.take len)).getD i 0 : Int) = zs.getD i 0 := by
      simp only [nats, List.getD_eq_getElem?_getD, List.getElem?_map, List.getElem?_take, if_pos hil, List.getElem?_eq_getElem hkz, Option.map_some, Option.getD_some]
      omega
    rw [hcell i (by omega), ← hi, e]
theorem Try.cellsFr : Try.prog.cellsOf 29 = 3 := by kernel_rfl
theorem open_fr {H : Type} {enc : TypeId × Value → H} {W : World} {base : Nat} {v : Value} {d : DataW H} {p : List MemPlace} (hok : Value.okWide Try.prog W .any base 29 v) (h : DataW.Trod enc Try.prog W 0 (fun _ => true) true 29 v d p) : ∃ id unit pdu pv, IsFr W v id unit pdu pv := by
  obtain ⟨v0, v1, v2, y0, y1, y2, n, rfl, h0, h1, h2⟩ := open_three Try.underlying29 (by kernel_rfl) Try.cellsFr hok h
  obtain ⟨x0, rfl, b0⟩ := field_u16 h0
  obtain ⟨x1, rfl, b1⟩ := field_u8 h1
  obtain ⟨l, hb, hs⟩ := field_bytes h2
  exact ⟨x0, x1, l, v2, rfl, b0, b1, hb, hs⟩
end Go.Proofs.Ytjfaocpbhhpbdaa
