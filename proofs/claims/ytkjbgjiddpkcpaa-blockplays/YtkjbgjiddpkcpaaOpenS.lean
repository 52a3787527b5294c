/- From what is read of a list of steps to the values in memory. -/
import Derived.Test.YtkjbgjiddpkcpaaOpen
import Derived.Test.YtkjbgjiddpkcpaaPL1
import Derived.SizedLaws
namespace Go.Proofs.Ytkjbgjiddpkcpaa
open Go.ChangeShapes Go.WideShapes Go.ChangeAt Go.RowKit Go.Deep Go.Joins
open Pdu
theorem weights_all {H : Type} {P : Program} {e : TypeId} {d : DataW H} {n : Nat} (hn : n ∈ d.weights P e) : ∀ {l : List (DataW H)}, d ∈ l → n ∈ DataW.weightsAll P e l
  | [], h => by cases h
  | x :: r, h => by
    simp only [DataW.weightsAll, List.mem_append]
    rcases List.mem_cons.1 h with rfl | h
    · exact Or.inl hn
    · exact Or.inr (weights_all hn h)
theorem Try.bytesByte : Try.prog.bytesOf 5 = 1 := by kernel_rfl
theorem Try.cellsStep : Try.prog.cellsOf 37 = 6 := by kernel_rfl
/-- A field of bytes, and how long it may be. -/
theorem field_sized {H : Type} {enc : TypeId × Value → H} {W : World} {fuel : Nat} {v : Value} {y : DataW H × List MemPlace} (hf : DataW.trod enc Try.prog W 0 (fun _ => true) true fuel 30 [v] = some y) : ∃ l, Bytes l ∧ Sl W v (u8s l) ∧ (l.length = 0 ∨ ∃ n ∈ y.1.weights Try.prog 30, l.length ≤ n) := by
  rcases open_ints Try.underlying30 Try.underlying5 Try.cellsByte hf with ⟨hcs, _⟩ | ⟨a, len, cap, zs, hcs, _, hl, hm, hz, hy, hcell, hwz⟩
  · simp at hcs
    subst hcs
    exact ⟨[], Bytes.nil, Sl.nil W, Or.inl rfl⟩
  · simp at hcs
    subst hcs
    simp only [if_true] at hz
    have hlen : (nats (zs.take len)).length = len := by simp [nats]; omega
    refine ⟨nats (zs.take len), nats_bytes fun n hn => hwz n (List.mem_of_mem_take hn), sl_of (by rw [u8s_len, hlen]) (by omega) fun i u hi => ?_, Or.inr ⟨len + (zs.length - len), ?_, by omega⟩⟩
    · have hil : i < len := by have := (List.getElem?_eq_some_iff.1 hi).1; rw [u8s_len, hlen] at this; exact this
      rw [u8s_at _ i (by rw [hlen]; exact hil)] at hi
      have hkz : i < zs.length := by omega
      have hw := u8_wf (hwz _ (List.getElem_mem hkz))
      have e : ((nats (zs.take len)).getD i 0 : Int) = zs.getD i 0 := by
        simp only [nats, List.getD_eq_getElem?_getD, List.getElem?_map, List.getElem?_take, if_pos hil, List.getElem?_eq_getElem hkz, Option.map_some, Option.getD_some]
        omega
      rw [hcell i (by omega), ← hi, e]
    · rw [hy]
      simp only [DataW.weights, Try.underlying30, Try.bytesByte, Nat.mul_one]
      have e1 : (lits (H := H) .u8 (zs.take len)).length = len := by simp [lits]; omega
      have e2 : (lits (H := H) .u8 (zs.drop len)).length = zs.length - len := by simp [lits]
      rw [e1, e2]
      exact List.mem_cons_self ..
theorem field_int {H : Type} {enc : TypeId × Value → H} {W : World} {fuel : Nat} {v : Value} {y : DataW H × List MemPlace} (hf : DataW.trod enc Try.prog W 0 (fun _ => true) true fuel 3 [v] = some y) : ∃ x : Int, v = .int .i64 x ∧ x ≤ 9223372036854775807 := by
  obtain ⟨a, e0, _, wa⟩ := DataW.trod_int Try.underlying3 hf
  exact ⟨a, by simpa using e0, (i64_wf wa).2⟩
theorem open_steps {H : Type} {enc : TypeId × Value → H} {W : World} {base : Nat} {v : Value} {d : DataW H} {p : List MemPlace} (hok : Value.okWide Try.prog W .any base 22 v) (h : DataW.Trod enc Try.prog W 0 (fun _ => true) true 22 v d p) (hzz : ∀ n ∈ d.weights Try.prog 22, n ≤ reachBytes) :
    ∃ ao n c, ∃ L : List Stp, v = .slice ao n c ∧ n = L.length ∧ n ≤ 9223372036854775807 ∧ (∀ x ∈ L, x.b.length ≤ 140737488355328) ∧ (0 < n → ∃ lb lo, ao = some ⟨lb, lo, none⟩ ∧ ∀ i x, L[i]? = some x → StepAt W lb lo i x) := by
  obtain ⟨a0, len, cap, rfl⟩ := okWide_slice Try.underlying22 hok
  obtain ⟨fuel, hf⟩ := h
  rcases open_slice Try.underlying22 hf with ⟨hcs, _⟩ | ⟨a, len', cap', m, nf, D, Pl, hcs, _, hl, hm, hmm, hx, hr⟩
  · simp [Value.cells] at hcs
    obtain ⟨rfl, rfl, rfl⟩ := hcs
    exact ⟨none, 0, 0, [], rfl, rfl, by decide, fun x h => (List.not_mem_nil h).elim, fun h => by omega⟩
  · simp [Value.cells] at hcs
    obtain ⟨rfl, rfl, rfl⟩ := hcs
    simp only [if_true] at hmm
    unfold maxLen at hm
    rw [Try.cellsStep] at hr
    by_cases h00 : len = 0
    · subst h00
      exact ⟨_, _, _, [], rfl, rfl, by omega, fun x h => (List.not_mem_nil h).elim, fun h => by omega⟩
    obtain ⟨b, off, spot⟩ := a
    have hspot : spot = none := by
      obtain ⟨cs', h1, _⟩ := hr 0 (by omega)
      obtain ⟨_, hlen, hcell⟩ := World.cells?_some h1
      have := hcell 0 (by omega)
      match cs', hlen with
      | [c0, c1, c2, c3, c4, c5], _ =>
        have h2 := World.cell?_spot (w := W) (v := c0) (by simpa using this)
        simpa [Addr.add] using h2
    subst hspot
    have hp : ∀ q, (⟨b, off, none⟩ : Addr).add q = ⟨b, off + q, none⟩ := fun q => by unfold Addr.add; split <;> simp_all
    have hd : ∀ i, i < len → ∀ n ∈ (D i).weights Try.prog 37, n ≤ reachBytes := by
      intro i hi n hn
      refine hzz n ?_
      have e : d = .slice ((List.range len).map D) ((List.range (m - len)).map fun j => D (len + j)) := congrArg Prod.fst hx
      rw [e]
      simp only [DataW.weights, Try.underlying22]
      refine List.mem_cons_of_mem _ (List.mem_append_left _ (weights_all hn (List.mem_map.2 ⟨i, List.mem_range.2 hi, rfl⟩)))
    have each : ∀ i, i < len → ∃ x : Stp, StepAt W b off i x ∧ x.b.length ≤ 140737488355328 := by
      intro i hi
      obtain ⟨cs', h1, h2⟩ := hr i (by omega)
      obtain ⟨_, hlen, hcell⟩ := World.cells?_some h1
      obtain ⟨xs, n2, _, hxe, _, hxl, hff⟩ := DataW.trod_struct Try.underlying37 h2
      match cs', hlen with
      | [c0, c1, c2, c3, c4, c5], _ =>
        match xs, hxl with
        | [y0, y1, y2, y3, y4, y5], _ =>
          have f0 := hff 0 _ rfl
          have f1 := hff 1 _ rfl
          have f2 := hff 2 _ rfl
          have f3 := hff 3 _ rfl
          have f4 := hff 4 _ rfl
          have f5 := hff 5 _ rfl
          have g0 : DataW.trod enc Try.prog W 0 (fun _ => true) true n2 3 [c0] = some y0 := f0
          have g1 : DataW.trod enc Try.prog W 0 (fun _ => true) true n2 3 [c1] = some y1 := f1
          have g2 : DataW.trod enc Try.prog W 0 (fun _ => true) true n2 3 [c2] = some y2 := f2
          have g3 : DataW.trod enc Try.prog W 0 (fun _ => true) true n2 3 [c3] = some y3 := f3
          have g4 : DataW.trod enc Try.prog W 0 (fun _ => true) true n2 5 [c4] = some y4 := f4
          have g5 : DataW.trod enc Try.prog W 0 (fun _ => true) true n2 30 [c5] = some y5 := f5
          obtain ⟨x0, rfl, _⟩ := field_int g0
          obtain ⟨x1, rfl, _⟩ := field_int g1
          obtain ⟨x2, rfl, hx2⟩ := field_int g2
          obtain ⟨x3, rfl, _⟩ := field_int g3
          obtain ⟨x4, rfl, hx4⟩ := field_u8 g4
          obtain ⟨l, hb, hs, hsz⟩ := field_sized g5
          obtain ⟨po, pc, rfl⟩ := hs.shape
          rw [u8s_len] at hs hcell
          refine ⟨⟨x0, x1, x2, x3, x4, l⟩, ⟨hb, hx4, hx2, po, pc, fun k u hk => ?_, hs⟩, ?_⟩
          · have hk6 : k < 6 := by have := (List.getElem?_eq_some_iff.1 hk).1; simpa [Stp.cs] using this
            have q := hcell k (by omega)
            rw [add_add, hp] at q
            rw [Nat.add_assoc]
            rw [q, ← hk]
            simp [Stp.cs]
          show l.length ≤ 140737488355328
          rcases hsz with h | ⟨n, hn, hle⟩
          · omega
          · have hDi : D i = .agg [y0.1, y1.1, y2.1, y3.1, y4.1, y5.1] := congrArg Prod.fst hxe
            have := hd i hi n (by
              rw [hDi]
              simp only [DataW.weights, Try.underlying37]
              exact DataW.weights_mem_each (j := 5) (t := 30) (d := y5.1) rfl rfl n hn)
            unfold reachBytes at this
            omega
    obtain ⟨F, hF⟩ := @choose_lt Stp ⟨⟨0, 0, 0, 0, 0, []⟩⟩ len _ each
    refine ⟨_, _, _, (List.range len).map F, rfl, by simp, by omega, fun x hx => ?_, fun _ => ?_⟩
    · obtain ⟨i, hi, rfl⟩ := List.mem_map.1 hx
      exact (hF i (List.mem_range.1 hi)).2
    · refine ⟨b, off, rfl, fun i f hi => ?_⟩
      have hil : i < len := by have := (List.getElem?_eq_some_iff.1 hi).1; simpa using this
      rw [List.getElem?_map, List.getElem?_range hil] at hi
      simp at hi
      subst hi
      exact (hF i hil).1
end Go.Proofs.Ytkjbgjiddpkcpaa
