/- From what is read of a request or a reply to the values in memory. -/
import Derived.Test.YtehbbkdiekgpbaaOpen
import Derived.Test.YtehbbkdiekgpbaaWk12
import Derived.Lib.SmallJoins
namespace Go.Proofs.Ytehbbkdiekgpbaa
open Go.ChangeShapes Go.WideShapes Go.ChangeAt Go.RowKit Go.Deep Go.Joins
open Pdu
theorem array6 {α : Type} {cs : Array α} (h : cs.size = 6) : ∃ c0 c1 c2 c3 c4 c5, cs = #[c0, c1, c2, c3, c4, c5] := by
  obtain ⟨l⟩ := cs
  match l, h with
  | [c0, c1, c2, c3, c4, c5], _ => exact ⟨c0, c1, c2, c3, c4, c5, rfl⟩
theorem open_six {H : Type} {enc : TypeId × Value → H} {P : Program} {w : World} {base b0 : Nat} {spare : Nat → Bool} {held : Bool} {r : Reach} {t : TypeId} {f0 f1 f2 f3 f4 f5 : Field} {v : Value} {d : DataW H} {p : List MemPlace} (hs : P.underlying t = some (.struct #[f0, f1, f2, f3, f4, f5])) (hone : oneCellFields P #[f0, f1, f2, f3, f4, f5] = true) (hC : P.cellsOf t = 6)
    (hv : Value.okWide P w r b0 t v) (h : DataW.Trod enc P w base spare held t v d p) :
    ∃ (v0 v1 v2 v3 v4 v5 : Value) (y0 y1 y2 y3 y4 y5 : DataW H × List MemPlace) (n : Nat), v = .agg #[v0, v1, v2, v3, v4, v5] ∧ DataW.trod enc P w base spare held n f0.type [v0] = some y0 ∧ DataW.trod enc P w base spare held n f1.type [v1] = some y1 ∧ DataW.trod enc P w base spare held n f2.type [v2] = some y2 ∧ DataW.trod enc P w base spare held n f3.type [v3] = some y3 ∧ DataW.trod enc P w base spare held n f4.type [v4] = some y4 ∧ DataW.trod enc P w base spare held n f5.type [v5] = some y5 := by
  obtain ⟨cs, rfl, hsz⟩ := okWide_struct hs hv
  obtain ⟨c0, c1, c2, c3, c4, c5, rfl⟩ := array6 (hsz.trans hC)
  obtain ⟨fuel, hf⟩ := h
  obtain ⟨xs, n, _, _, _, hlen, hff⟩ := DataW.trod_struct hs hf
  obtain ⟨o0, k0⟩ := hone_of hone 0 f0 rfl
  obtain ⟨o1, k1⟩ := hone_of hone 1 f1 rfl
  obtain ⟨o2, k2⟩ := hone_of hone 2 f2 rfl
  obtain ⟨o3, k3⟩ := hone_of hone 3 f3 rfl
  obtain ⟨o4, k4⟩ := hone_of hone 4 f4 rfl
  obtain ⟨o5, k5⟩ := hone_of hone 5 f5 rfl
  match xs, hlen with
  | [y0, y1, y2, y3, y4, y5], _ =>
    exact ⟨c0, c1, c2, c3, c4, c5, y0, y1, y2, y3, y4, y5, n, rfl, by simpa [Value.cells, o0, k0] using hff 0 f0 rfl, by simpa [Value.cells, o1, k1] using hff 1 f1 rfl, by simpa [Value.cells, o2, k2] using hff 2 f2 rfl, by simpa [Value.cells, o3, k3] using hff 3 f3 rfl, by simpa [Value.cells, o4, k4] using hff 4 f4 rfl, by simpa [Value.cells, o5, k5] using hff 5 f5 rfl⟩
theorem u16_wf {z : Int} (h : (Lit.int .u16 z).wf = true) : 0 ≤ z ∧ z ≤ 65535 := by
  simpa [Lit.wf, IntKind.min, IntKind.max, IntKind.signed, IntKind.bits] using h
theorem field_u8 {H : Type} {enc : TypeId × Value → H} {W : World} {fuel : Nat} {v : Value} {y : DataW H × List MemPlace} (hf : DataW.trod enc Try.prog W 0 (fun _ => true) true fuel 5 [v] = some y) : ∃ x : Nat, v = .int .u8 x ∧ x < 256 := by
  obtain ⟨a, e0, _, wa⟩ := DataW.trod_int Try.underlying5 hf
  have := u8_wf wa
  exact ⟨a.toNat, by simp at e0; rw [e0, Int.toNat_of_nonneg this.1], by omega⟩
theorem field_u16 {H : Type} {enc : TypeId × Value → H} {W : World} {fuel : Nat} {v : Value} {y : DataW H × List MemPlace} (hf : DataW.trod enc Try.prog W 0 (fun _ => true) true fuel 22 [v] = some y) : ∃ x : Nat, v = .int .u16 x ∧ x < 65536 := by
  obtain ⟨a, e0, _, wa⟩ := DataW.trod_int Try.underlying22 hf
  have := u16_wf wa
  exact ⟨a.toNat, by simp at e0; rw [e0, Int.toNat_of_nonneg this.1], by omega⟩
theorem field_bits {H : Type} {enc : TypeId × Value → H} {W : World} {fuel : Nat} {v : Value} {y : DataW H × List MemPlace} (hf : DataW.trod enc Try.prog W 0 (fun _ => true) true fuel 23 [v] = some y) : ∃ l, Sl W v (bls l) ∧ l.length ≤ 9223372036854775807 := by
  rcases open_bools Try.underlying23 Try.underlying4 Try.cellsBool hf with ⟨hcs, _⟩ | ⟨a, len, cap, Bo, hcs, _, hl, hm, _, hr⟩
  · simp at hcs
    subst hcs
    exact ⟨[], Sl.nil W, by decide⟩
  · simp at hcs
    subst hcs
    unfold maxLen at hm
    refine ⟨(List.range len).map Bo, sl_of (by simp [bls]) (by omega) fun i u hi => ?_, by simp; omega⟩
    have hil : i < len := by have := (List.getElem?_eq_some_iff.1 hi).1; rw [bls_len] at this; simpa using this
    rw [hr i (by omega), ← hi]
    simp [bls, hil]
theorem field_words {H : Type} {enc : TypeId × Value → H} {W : World} {fuel : Nat} {v : Value} {y : DataW H × List MemPlace} (hf : DataW.trod enc Try.prog W 0 (fun _ => true) true fuel 24 [v] = some y) : ∃ l, Words l ∧ Sl W v (u16s l) ∧ l.length ≤ 9223372036854775807 := by
  rcases open_ints Try.underlying24 Try.underlying22 Try.cellsWord hf with ⟨hcs, _⟩ | ⟨a, len, cap, zs, hcs, _, hl, hm, hz, _, hcell, hwz⟩
  · simp at hcs
    subst hcs
    exact ⟨[], fun _ h => by simp at h, Sl.nil W, by decide⟩
  · simp at hcs
    subst hcs
    simp only [if_true] at hz
    unfold maxLen at hm
    have hlen : (nats (zs.take len)).length = len := by simp [nats]; omega
    refine ⟨nats (zs.take len), ?_, sl_of (by rw [u16s_len, hlen]) (by omega) fun i u hi => ?_, by rw [hlen]; omega⟩
    · intro x hx
      simp only [nats, List.mem_map] at hx
      obtain ⟨z, hz, rfl⟩ := hx
      have := u16_wf (hwz z (List.mem_of_mem_take hz))
      omega
    · have hil : i < len := by have := (List.getElem?_eq_some_iff.1 hi).1; rw [u16s_len, hlen] at this; exact this
      rw [u16s_at _ i (by rw [hlen]; exact hil)] at hi
      have hkz : i < zs.length := by omega
      have hw := u16_wf (hwz _ (List.getElem_mem hkz))
      have e : ((nats (zs.take len)).getD i 0 : Int) = zs.getD i 0 := by
        simp only [nats, List.getD_eq_getElem?_getD, List.getElem?_map, List.getElem?_take, if_pos hil, List.getElem?_eq_getElem hkz, Option.map_some, Option.getD_some]
        omega
      rw [hcell i (by omega), ← hi, e]
theorem Try.cellsRq : Try.prog.cellsOf 26 = 6 := by kernel_rfl
theorem Try.cellsRp : Try.prog.cellsOf 44 = 6 := by kernel_rfl
theorem open_rq {H : Type} {enc : TypeId × Value → H} {W : World} {base : Nat} {v : Value} {d : DataW H} {p : List MemPlace} (hok : Value.okWide Try.prog W .any base 26 v) (h : DataW.Trod enc Try.prog W 0 (fun _ => true) true 26 v d p) : ∃ q, IsRq W v q ∧ q.bits.length ≤ 9223372036854775807 ∧ q.regs.length ≤ 9223372036854775807 := by
  obtain ⟨v0, v1, v2, v3, v4, v5, y0, y1, y2, y3, y4, y5, n, rfl, h0, h1, h2, h3, h4, h5⟩ := open_six Try.underlying26 (by kernel_rfl) Try.cellsRq hok h
  obtain ⟨x0, rfl, b0⟩ := field_u8 h0
  obtain ⟨x1, rfl, b1⟩ := field_u16 h1
  obtain ⟨x2, rfl, b2⟩ := field_u16 h2
  obtain ⟨x3, rfl, b3⟩ := field_u16 h3
  obtain ⟨l, s4, m4⟩ := field_bits h4
  obtain ⟨k, w5, s5, m5⟩ := field_words h5
  exact ⟨⟨x0, x1, x2, x3, l, k⟩, ⟨⟨b0, b1, b2, b3, w5⟩, v4, v5, rfl, s4, s5⟩, m4, m5⟩
theorem open_rp {H : Type} {enc : TypeId × Value → H} {W : World} {base : Nat} {v : Value} {d : DataW H} {p : List MemPlace} (hok : Value.okWide Try.prog W .any base 44 v) (h : DataW.Trod enc Try.prog W 0 (fun _ => true) true 44 v d p) : ∃ q, IsRp W v q ∧ q.bits.length ≤ 9223372036854775807 ∧ q.regs.length ≤ 9223372036854775807 := by
  obtain ⟨v0, v1, v2, v3, v4, v5, y0, y1, y2, y3, y4, y5, n, rfl, h0, h1, h2, h3, h4, h5⟩ := open_six Try.underlying44 (by kernel_rfl) Try.cellsRp hok h
  obtain ⟨x0, rfl, b0⟩ := field_u8 h0
  obtain ⟨x1, rfl, b1⟩ := field_u8 h1
  obtain ⟨x2, rfl, b2⟩ := field_u16 h2
  obtain ⟨x3, rfl, b3⟩ := field_u16 h3
  obtain ⟨l, s4, m4⟩ := field_bits h4
  obtain ⟨k, w5, s5, m5⟩ := field_words h5
  exact ⟨⟨x0, x1, x2, x3, l, k⟩, ⟨⟨b0, b1, b2, b3, w5⟩, v4, v5, rfl, s4, s5⟩, m4, m5⟩
end Go.Proofs.Ytehbbkdiekgpbaa
