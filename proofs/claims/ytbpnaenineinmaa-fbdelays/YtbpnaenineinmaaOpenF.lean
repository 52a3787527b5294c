/- From what is read of an argument to the values in memory (stage 17). -/
import Derived.Test.YtbpnaenineinmaaB1
import Derived.ProofKit
import Derived.OpenShut
import Derived.Deep.Matrix
import Derived.Deep.Grids
import Derived.Lib.SmallJoins
namespace Go.Proofs.Ytbpnaenineinmaa
open Go.ChangeShapes Go.WideShapes Go.ChangeAt Go.RowKit Go.Deep Go.Joins
theorem Try.own : ownKnob Try.prog.godebug = none := by kernel_rfl
theorem Try.laidOut : laidOutB Try.prog = true := by kernel_rfl
theorem i64_wf {z : Int} (h : (Lit.int .i64 z).wf = true) : -9223372036854775808 ≤ z ∧ z ≤ 9223372036854775807 := by
  simpa [Lit.wf, IntKind.min, IntKind.max, IntKind.signed, IntKind.bits] using h
def nats (zs : List Int) : List Nat := zs.map Int.toNat
/-- A slice value whose cells are these values. -/
theorem sl_of {W : World} {a : Addr} {len cap : Nat} {vs : List Value} (hl : len = vs.length) (hc : len ≤ cap) (hcell : ∀ i u, vs[i]? = some u → W.cell? (a.add i) = some u) : Sl W (.slice (some a) len cap) vs := by
  by_cases h0 : vs = []
  · subst h0
    subst hl
    exact Or.inl ⟨rfl, some a, cap, rfl, fun h => by simp at h⟩
  · obtain ⟨b, off, spot⟩ := a
    have hpos : 0 < vs.length := List.length_pos_iff.2 h0
    have hspot : spot = none := by simpa [Addr.add] using World.cell?_spot (hcell 0 _ (List.getElem?_eq_getElem hpos))
    subst hspot
    refine Or.inr ⟨b, off, cap, by rw [hl], by omega, fun k u hk => ?_⟩
    have hplain : (⟨b, off, none⟩ : Addr).add k = ⟨b, off + k, none⟩ := by unfold Addr.add; split <;> simp_all
    rw [← hplain]
    exact hcell k u hk
theorem u32_wf {z : Int} (h : (Lit.int .u32 z).wf = true) : 0 ≤ z ∧ z ≤ 4294967295 := by
  simpa [Lit.wf, IntKind.min, IntKind.max, IntKind.signed, IntKind.bits] using h
theorem Try.cellsuint32 : Try.prog.cellsOf 94 = 1 := by kernel_rfl
def u32s (l : List Nat) : List Value := l.map fun (x : Nat) => Value.int .u32 (x : Int)
theorem u32s_len (l : List Nat) : (u32s l).length = l.length := by simp [u32s]
theorem u32s_at (l : List Nat) (k : Nat) (h : k < l.length) : (u32s l)[k]? = some (.int .u32 (l.getD k 0 : Nat)) := by simp [u32s, List.getD_eq_getElem?_getD, List.getElem?_eq_getElem h]
theorem u16_wf {z : Int} (h : (Lit.int .u16 z).wf = true) : 0 ≤ z ∧ z ≤ 65535 := by
  simpa [Lit.wf, IntKind.min, IntKind.max, IntKind.signed, IntKind.bits] using h
theorem Try.cellsuint16 : Try.prog.cellsOf 36 = 1 := by kernel_rfl
def u16s (l : List Nat) : List Value := l.map fun (x : Nat) => Value.int .u16 (x : Int)
theorem u16s_len (l : List Nat) : (u16s l).length = l.length := by simp [u16s]
theorem u16s_at (l : List Nat) (k : Nat) (h : k < l.length) : (u16s l)[k]? = some (.int .u16 (l.getD k 0 : Nat)) := by simp [u16s, List.getD_eq_getElem?_getD, List.getElem?_eq_getElem h]
theorem open_u16 {H : Type} {enc : TypeId × Value → H} {W : World} {base : Nat} {v : Value} {d : DataW H} {p : List MemPlace} (hok : Value.okWide Try.prog W .any base 33 v) (h : DataW.Trod enc Try.prog W 0 (fun _ => true) true 33 v d p) :
    ∃ ao n c l, v = .slice ao n c ∧ n = l.length ∧ (∀ x ∈ l, x < 65536) ∧ Sl W (.slice ao n c) (u16s l) ∧ n ≤ 9223372036854775807 := by
  obtain ⟨a0, len, cap, rfl⟩ := okWide_slice Try.underlying33 hok
  obtain ⟨fuel, hf⟩ := h
  rcases open_ints Try.underlying33 Try.underlying36 Try.cellsuint16 hf with ⟨hcs, _⟩ | ⟨a, len', cap', zs, hcs, _, hl, hm, hz, _, hcell, hwz⟩
  · simp [Value.cells] at hcs
    obtain ⟨rfl, rfl, rfl⟩ := hcs
    exact ⟨none, 0, 0, [], rfl, rfl, fun x h => (List.not_mem_nil h).elim, Sl.nil W, by decide⟩
  · simp [Value.cells] at hcs
    obtain ⟨rfl, rfl, rfl⟩ := hcs
    simp only [if_true] at hz
    unfold maxLen at hm
    have hlen : (nats (zs.take len)).length = len := by simp [nats]; omega
    refine ⟨_, _, _, nats (zs.take len), rfl, hlen.symm, fun x hx => ?_, sl_of (by rw [u16s_len, hlen]) (by omega) fun i u hi => ?_, by omega⟩
    · simp only [nats, List.mem_map] at hx
      obtain ⟨z, hz, rfl⟩ := hx
      have := u16_wf (hwz z (List.mem_of_mem_take hz))
      omega
    · have hil : i < len := by have := (List.getElem?_eq_some_iff.1 hi).1; rw [u16s_len, hlen] at this; exact this
      rw [u16s_at _ i (by rw [hlen]; exact hil)] at hi
      have hkz : i < zs.length := by omega
      have hw := u16_wf (hwz _ (List.getElem_mem hkz))
      have e : ((nats (zs.take len)).getD i 0 : Int) = zs.getD i 0 := by
        simp only [nats, List.getD_eq_getElem?_getD, List.getElem?_map, List.getElem?_take, if_pos hil, List.getElem?_eq_getElem hkz, Option.map_some, Option.getD_some]
        omega
      rw [hcell i (by omega), ← hi, e]
theorem u8_wf {z : Int} (h : (Lit.int .u8 z).wf = true) : 0 ≤ z ∧ z ≤ 255 := by
  simpa [Lit.wf, IntKind.min, IntKind.max, IntKind.signed, IntKind.bits] using h
theorem Try.cellsuint8 : Try.prog.cellsOf 5 = 1 := by kernel_rfl
def u8s (l : List Nat) : List Value := l.map fun (x : Nat) => Value.int .u8 (x : Int)
theorem u8s_len (l : List Nat) : (u8s l).length = l.length := by simp [u8s]
theorem u8s_at (l : List Nat) (k : Nat) (h : k < l.length) : (u8s l)[k]? = some (.int .u8 (l.getD k 0 : Nat)) := by simp [u8s, List.getD_eq_getElem?_getD, List.getElem?_eq_getElem h]
theorem open_u8 {H : Type} {enc : TypeId × Value → H} {W : World} {base : Nat} {v : Value} {d : DataW H} {p : List MemPlace} (hok : Value.okWide Try.prog W .any base 40 v) (h : DataW.Trod enc Try.prog W 0 (fun _ => true) true 40 v d p) :
    ∃ ao n c l, v = .slice ao n c ∧ n = l.length ∧ (∀ x ∈ l, x < 256) ∧ Sl W (.slice ao n c) (u8s l) ∧ n ≤ 9223372036854775807 := by
  obtain ⟨a0, len, cap, rfl⟩ := okWide_slice Try.underlying40 hok
  obtain ⟨fuel, hf⟩ := h
  rcases open_ints Try.underlying40 Try.underlying5 Try.cellsuint8 hf with ⟨hcs, _⟩ | ⟨a, len', cap', zs, hcs, _, hl, hm, hz, _, hcell, hwz⟩
  · simp [Value.cells] at hcs
    obtain ⟨rfl, rfl, rfl⟩ := hcs
    exact ⟨none, 0, 0, [], rfl, rfl, fun x h => (List.not_mem_nil h).elim, Sl.nil W, by decide⟩
  · simp [Value.cells] at hcs
    obtain ⟨rfl, rfl, rfl⟩ := hcs
    simp only [if_true] at hz
    unfold maxLen at hm
    have hlen : (nats (zs.take len)).length = len := by simp [nats]; omega
    refine ⟨_, _, _, nats (zs.take len), rfl, hlen.symm, fun x hx => ?_, sl_of (by rw [u8s_len, hlen]) (by omega) fun i u hi => ?_, by omega⟩
    · simp only [nats, List.mem_map] at hx
      obtain ⟨z, hz, rfl⟩ := hx
      have := u8_wf (hwz z (List.mem_of_mem_take hz))
      omega
    · have hil : i < len := by have := (List.getElem?_eq_some_iff.1 hi).1; rw [u8s_len, hlen] at this; exact this
      rw [u8s_at _ i (by rw [hlen]; exact hil)] at hi
      have hkz : i < zs.length := by omega
      have hw := u8_wf (hwz _ (List.getElem_mem hkz))
      have e : ((nats (zs.take len)).getD i 0 : Int) = zs.getD i 0 := by
        simp only [nats, List.getD_eq_getElem?_getD, List.getElem?_map, List.getElem?_take, if_pos hil, List.getElem?_eq_getElem hkz, Option.map_some, Option.getD_some]
        omega
      rw [hcell i (by omega), ← hi, e]
theorem Try.cells64 : Try.prog.cellsOf 2 = 1 := by kernel_rfl
theorem open_nums {H : Type} {enc : TypeId × Value → H} {W : World} {base : Nat} {v : Value} {d : DataW H} {p : List MemPlace} (hok : Value.okWide Try.prog W .any base 22 v) (h : DataW.Trod enc Try.prog W 0 (fun _ => true) true 22 v d p) :
    ∃ ao n c l, v = .slice ao n c ∧ n = l.length ∧ Sl W (.slice ao n c) (i64s l) ∧ n ≤ 9223372036854775807 := by
  obtain ⟨a0, len, cap, rfl⟩ := okWide_slice Try.underlying22 hok
  obtain ⟨fuel, hf⟩ := h
  rcases open_ints Try.underlying22 Try.underlying2 Try.cells64 hf with ⟨hcs, _⟩ | ⟨a, len', cap', zs, hcs, _, hl, hm, hz, _, hcell, hwz⟩
  · simp [Value.cells] at hcs
    obtain ⟨rfl, rfl, rfl⟩ := hcs
    exact ⟨none, 0, 0, [], rfl, rfl, Sl.nil W, by decide⟩
  · simp [Value.cells] at hcs
    obtain ⟨rfl, rfl, rfl⟩ := hcs
    simp only [if_true] at hz
    unfold maxLen at hm
    have hlen : (zs.take len).length = len := by simp; omega
    refine ⟨_, _, _, zs.take len, rfl, hlen.symm, sl_of (by rw [i64s_len, hlen]) (by omega) fun i u hi => ?_, by omega⟩
    have hil : i < len := by have := (List.getElem?_eq_some_iff.1 hi).1; rw [i64s_len, hlen] at this; exact this
    rw [i64s_at _ i (by rw [hlen]; exact hil)] at hi
    have e : (zs.take len).getD i 0 = zs.getD i 0 := by
      simp only [List.getD_eq_getElem?_getD, List.getElem?_take, if_pos hil]
    rw [hcell i (by omega), ← hi, e]
theorem open_bls {H : Type} {enc : TypeId × Value → H} {W : World} {base : Nat} {v : Value} {d : DataW H} {p : List MemPlace} (hok : Value.okWide Try.prog W .any base 32 v) (h : DataW.Trod enc Try.prog W 0 (fun _ => true) true 32 v d p) :
    ∃ ao n c l, v = .slice ao n c ∧ n = l.length ∧ Sl W (.slice ao n c) (bls l) ∧ n ≤ 9223372036854775807 := by
  obtain ⟨a0, len, cap, rfl⟩ := okWide_slice Try.underlying32 hok
  obtain ⟨fuel, hf⟩ := h
  rcases open_bools Try.underlying32 Try.underlying4 (show Try.prog.cellsOf 4 = 1 by kernel_rfl) hf with ⟨hcs, _⟩ | ⟨a, len', cap', B, hcs, _, hl, hm, _, hcell⟩
  · simp [Value.cells] at hcs
    obtain ⟨rfl, rfl, rfl⟩ := hcs
    exact ⟨none, 0, 0, [], rfl, rfl, Sl.nil W, by decide⟩
  · simp [Value.cells] at hcs
    obtain ⟨rfl, rfl, rfl⟩ := hcs
    unfold maxLen at hm
    refine ⟨_, _, _, (List.range len).map B, rfl, by simp, sl_of (by simp [bls]) (by omega) fun i u hi => ?_, by omega⟩
    have hil : i < len := by have := (List.getElem?_eq_some_iff.1 hi).1; simpa [bls] using this
    rw [hcell i (by omega), ← hi]
    simp [bls, hil]
end Go.Proofs.Ytbpnaenineinmaa
