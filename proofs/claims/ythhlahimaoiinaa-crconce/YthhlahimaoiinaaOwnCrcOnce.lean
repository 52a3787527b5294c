/- Proved: two tables, asked in any order for sums of any bytes, tell the document's sums and don't touch one another, each made once: the law runglaw2.CrcOnce returns true for every input.
   No condition: of lists of more than 40, and from the first of more than 500 bytes on, the law itself says true. -/
import Derived.Test.YthhlahimaoiinaaRows
import Derived.Test.YthhlahimaoiinaaOpen
import Derived.Test.YthhlahimaoiinaaLawOnce
import Derived.Test.YthhlahimaoiinaaOnceBig
import Derived.Carry
import Derived.Deep.Matrix
import Derived.Deep.Grids
namespace Go.Proofs.Ythhlahimaoiinaa
open Go.ChangeShapes Go.WideShapes Go.ChangeAt Go.RowKit Go.Deep

theorem Try.cells22 : Try.prog.cellsOf 22 = 1 := by kernel_rfl
theorem Try.cells4 : Try.prog.cellsOf 4 = 1 := by kernel_rfl
/-- The list of lists of bytes. -/
theorem open_rows {H : Type} {enc : TypeId × Value → H} {W : World} {base : Nat} {v : Value} {d : DataW H} {p : List MemPlace} (hok : Value.okWide Try.prog W .any base 52 v) (h : DataW.Trod enc Try.prog W 0 (fun _ => true) true 52 v d p) :
    ∃ ao N c, v = .slice ao N c ∧ N ≤ 9223372036854775807 ∧ (0 < N → ∃ lb lo, ao = some ⟨lb, lo, none⟩ ∧ ∀ i, i < N → ∃ av n c bs, n = bs.length ∧ n ≤ 9223372036854775807 ∧ Elem W ⟨lb, lo + i, none⟩ (.slice av n c) bs) := by
  obtain ⟨a0, len, cap, rfl⟩ := okWide_slice Try.underlying52 hok
  obtain ⟨fuel, hf⟩ := h
  rcases open_int_rows Try.underlying52 Try.underlying22 Try.underlying5 Try.cells22 Try.cells5 hf with ⟨hcs, _⟩ | ⟨a, len', cap', A, L, C, Z, hcs, _, hl, hm, _, hr⟩
  · simp [Value.cells] at hcs
    obtain ⟨rfl, rfl, rfl⟩ := hcs
    exact ⟨none, 0, 0, rfl, by decide, fun h => by omega⟩
  · simp [Value.cells] at hcs
    obtain ⟨rfl, rfl, rfl⟩ := hcs
    unfold maxLen at hm
    refine ⟨_, _, _, rfl, by omega, fun h0 => ?_⟩
    obtain ⟨b, off, spot⟩ := a
    have hspot : spot = none := by simpa [Addr.add] using World.cell?_spot (hr 0 (by omega)).1
    subst hspot
    refine ⟨b, off, rfl, fun i hi => ?_⟩
    have hplain : (⟨b, off, none⟩ : Addr).add i = ⟨b, off + i, none⟩ := by unfold Addr.add; split <;> simp_all
    obtain ⟨hc, h1, h2, h3, h4, h5, h6⟩ := hr i (by omega)
    rw [hplain] at hc
    unfold maxLen at h2
    match hA : A i with
    | none =>
      have e0 := h5 hA
      refine ⟨A i, L i, C i, [], by simp; omega, by omega, hc, fun _ h => by simp at h, Or.inl ⟨rfl, none, 0, ?_, fun _ => rfl⟩⟩
      rw [hA, e0, show L i = 0 by omega]
    | some a' =>
      obtain ⟨bs, e1, e2⟩ := slice_of (W := W) (a := a') (len := L i) (cap := C i) (zs := Z i) (by omega) (fun j hj => (h6 a' hA).2 j (by omega)) h4
      exact ⟨some a', L i, C i, bs, e1, by omega, by rw [← hA]; exact hc, e2⟩
theorem open_flags {H : Type} {enc : TypeId × Value → H} {W : World} {base : Nat} {v : Value} {d : DataW H} {p : List MemPlace} (hok : Value.okWide Try.prog W .any base 53 v) (h : DataW.Trod enc Try.prog W 0 (fun _ => true) true 53 v d p) :
    ∃ ao N c, v = .slice ao N c ∧ N ≤ 9223372036854775807 ∧ (0 < N → ∃ lb lo, ao = some ⟨lb, lo, none⟩ ∧ ∀ i, i < N → ∃ b : Bool, W.cell? ⟨lb, lo + i, none⟩ = some (.bool b)) := by
  obtain ⟨a0, len, cap, rfl⟩ := okWide_slice Try.underlying53 hok
  obtain ⟨fuel, hf⟩ := h
  rcases open_bools Try.underlying53 Try.underlying4 Try.cells4 hf with ⟨hcs, _⟩ | ⟨a, len', cap', Bo, hcs, _, hl, hm, _, hr⟩
  · simp [Value.cells] at hcs
    obtain ⟨rfl, rfl, rfl⟩ := hcs
    exact ⟨none, 0, 0, rfl, by decide, fun h => by omega⟩
  · simp [Value.cells] at hcs
    obtain ⟨rfl, rfl, rfl⟩ := hcs
    unfold maxLen at hm
    refine ⟨_, _, _, rfl, by omega, fun h0 => ?_⟩
    obtain ⟨b, off, spot⟩ := a
    have hspot : spot = none := by simpa [Addr.add] using World.cell?_spot (hr 0 (by omega))
    subst hspot
    refine ⟨b, off, rfl, fun i hi => ⟨Bo i, ?_⟩⟩
    have hplain : (⟨b, off, none⟩ : Addr).add i = ⟨b, off + i, none⟩ := by unfold Addr.add; split <;> simp_all
    rw [← hplain]
    exact hr i (by omega)

theorem crcOnce_contract (H : Type) (enc : TypeId × Value → H) (W : World) (base : Nat) (args : Array Value) (ds gs : List (DataW H)) (before : List MemPlace)
    (hval : ∀ (j : Nat) t v, Try.f6.params[j]? = some t → args[j]? = some v → Value.okWide Try.prog W .any base t v)
    (hW : DataW.Whole enc Try.prog Try.f6.params.toList Rows.crcOnceSpec.vars false W args.toList ds gs before) :
    Calls Try.prog 6 args W fun e W' => ∃ v, e = .returned v ∧ Rows.crcOnceSpec.post enc Try.prog Try.f6 false true false false W args v W' := by
  have hW' := hW
  obtain ⟨p, q, hA0, hV, rfl, hfz, hnd⟩ := hW
  have hA : DataW.TrodAll enc Try.prog W 0 (fun _ => true) true Try.f6.params.toList args.toList ds p := hA0
  rw [Try.params6] at hA hval
  obtain ⟨v0, vs0, d0, ds0, p0, q0, hargs, rfl, rfl, h0, r0⟩ := trodAll_cons hA
  obtain ⟨v1, vs1, d1, ds1, p1, q1, rfl, rfl, rfl, h1, r1⟩ := trodAll_cons r0
  obtain ⟨rfl, rfl, rfl⟩ := trodAll_nil r1
  obtain rfl : args = #[v0, v1] := by cases args; simp_all
  obtain ⟨rfl, rfl⟩ := trodVars_none hV
  obtain ⟨a0, n0, c0, rfl, b0, o0⟩ := open_rows (hval 0 52 v0 rfl rfl) h0
  obtain ⟨a1, n1, c1, rfl, b1, o1⟩ := open_flags (hval 1 53 v1 rfl rfl) h1
  clear hA0
  simp only [List.append_nil] at hW'
  have hlt : ∀ x ∈ p0, x.block < W.heap.size := fun x hx => by simpa using hW'.lt x (List.mem_append_left _ hx)
  have hlt1 : ∀ x ∈ p1, x.block < W.heap.size := fun x hx => by simpa using hW'.lt x (List.mem_append_right _ (by simpa using hx))
  have hwalk : Calls Try.prog 6 #[.slice a0 n0 c0, .slice a1 n1 c1] W fun e w' => e = .returned (.bool true) ∧ Below W.heap.size W w' := by
    by_cases hb : 40 < n0 ∨ 40 < n1
    · exact once_big a0 a1 n0 n1 c0 c1 W b0 b1 hb
    · exact once_w a0 a1 n0 n1 c0 c1 W (by omega) (by omega) o0 o1
  refine hwalk.mono fun e W' ⟨he, hb⟩ => ?_
  subst he
  exact ⟨_, rfl, _, _, _, [], p0 ++ (p1 ++ []), [], hW', trodAll_cons_mk (shut_bool Try.underlying4 _) trodAll_mk0, trodAll_cons_mk (Below.trod Try.laidOut (by kernel_rfl) (of_decide_eq_true (by kernel_rfl)) h0 hb hlt) (trodAll_cons_mk (Below.trod Try.laidOut (by kernel_rfl) (of_decide_eq_true (by kernel_rfl)) h1 hb hlt1) trodAll_mk0), rfl, hb.frame _, fun h => by cases h⟩

set_option maxRecDepth 100000 in
theorem crcOnce_lifted (os : Os) (started : os.Started) (H : Type) (enc : TypeId × Value → H) :
    ReturnsInHanded {} Try.checked os 6 .any (Rows.crcOnceSpec.pre6 enc Try.prog Try.f6 Rows.crcOnceRow.domain false) (Rows.crcOnceSpec.post enc Try.prog Try.f6 false true false false) := by
  refine returnsInHanded_of_change (C := Try.checked) Try.own started (by kernel_rfl) Try.func6
    (ChangeSpec.witness6 (enc := enc) (C := Try.checked) false ⟨#[], #[.slice none 0 0, .slice none 0 0], []⟩ 8 (by kernel_rfl) (by kernel_rfl) (by kernel_rfl) (by kernel_rfl)) ?_
  intro W base args ds gs before hval hW _ _
  exact crcOnce_contract H enc W base args ds gs before hval hW

theorem crcOnce_said : Rows.CrcOnceSaid :=
  OpenClaim.holds_of_wide 6 Try.f6 rfl rfl rfl rfl rfl rfl rfl ⟨rfl, rfl, rfl, rfl, rfl⟩ rfl rfl rfl rfl rfl (by kernel_rfl) Try.func6 (by kernel_rfl)
    (of_decide_eq_true (by kernel_rfl)) (by unfold Func.isWrapper; first | (rw [if_pos (by decide +kernel)]; kernel_rfl) | (rw [if_neg (by decide +kernel)]; exact ⟨rfl, rfl⟩))
    (fun os started H enc _ => crcOnce_lifted os started H enc)
end Go.Proofs.Ythhlahimaoiinaa
