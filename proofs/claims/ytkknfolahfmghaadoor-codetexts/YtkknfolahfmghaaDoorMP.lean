/- A map of numbers in memory: what is looked up, what is put (stage 20). -/
import Derived.Test.YtkknfolahfmghaaDoorB1
import Derived.Maps.Keyed
import Derived.Carry
namespace Go.Proofs.YtkknfolahfmghaaDoor
open Go.RowKit
theorem Tryd.keyed : Maps.Keyed Tryd.prog 3 := Maps.int_keyed Tryd.underlying3
theorem key_of {k : Nat} (hk : k ≤ 9000000000000000000) : keyOf Tryd.prog 3 (.int .i64 (k : Int)) = some (.int .i64 (k : Int)) :=
  Maps.keyOf_int_mk Tryd.underlying3 (by simp [Lit.wf, IntKind.min, IntKind.max, IntKind.signed, IntKind.bits]; omega)
/-- Block b is a map: at k lies f k. -/
def MapAt (w : World) (b : Nat) (f : Nat → Option Value) : Prop := ∃ es clock, w.heap[b]? = some (.map es clock) ∧ es.toList.Pairwise (fun x y => x.key ≠ y.key) ∧ (∀ e, e ∈ es.toList → ∃ k : Nat, e.key = .int .i64 (k : Int) ∧ k ≤ 9000000000000000000 ∧ f k = some e.val) ∧ (∀ k v, f k = some v → ∃ e, e ∈ es.toList ∧ e.key = .int .i64 (k : Int))
theorem MapAt.kept {w u : World} {b : Nat} {f : Nat → Option Value} (h : MapAt w b f) (k : u.heap[b]? = w.heap[b]?) : MapAt u b f := by
  obtain ⟨es, clock, h1, r⟩ := h
  exact ⟨es, clock, k.trans h1, r⟩
theorem MapAt.lt {w : World} {b : Nat} {f : Nat → Option Value} (h : MapAt w b f) : b < w.heap.size := by
  obtain ⟨es, clock, h1, _⟩ := h
  exact (Array.getElem?_eq_some_iff.1 h1).1
theorem MapAt.below {w u : World} {b : Nat} {f : Nat → Option Value} (h : MapAt w b f) (k : Below w.heap.size w u) : MapAt u b f := h.kept (k.block b h.lt)
theorem MapAt.turn {w u : World} {b g : Nat} {f : Nat → Option Value} (h : MapAt w b f) (k : Turn g w u) (hne : b ≠ g) : MapAt u b f := h.kept (k.block b h.lt (fun e => hne (by simpa using e)))
theorem map_made (w : World) : MapAt (w.alloc (.map #[] 0)) w.heap.size (fun _ => none) :=
  ⟨#[], 0, heap_alloc_new w _, by simp, by simp, by simp⟩
def upd (f : Nat → Option Value) (k : Nat) (v : Value) : Nat → Option Value := fun j => if j = k then some v else f j
theorem MapAt.keys {es : Array MapEntry} {f : Nat → Option Value} (h : ∀ e, e ∈ es.toList → ∃ k : Nat, e.key = .int .i64 (k : Int) ∧ k ≤ 9000000000000000000 ∧ f k = some e.val) : ∀ e, e ∈ es.toList → ∃ l, keyOf Tryd.prog 3 e.key = some l := by
  intro e he
  obtain ⟨k, h1, h2, _⟩ := h e he
  rw [h1]
  exact ⟨_, key_of h2⟩
theorem map_look {w : World} {b t el : Nat} {f : Nat → Option Value} (h : MapAt w b f) (ht : Tryd.prog.underlying t = some (.map 3 el)) {z : Value} (hz : (zeroValue el).run Tryd.prog w = .ok z w) {k : Nat} (hk : k ≤ 9000000000000000000) :
    (Instr.lookup t (.map (some b)) (.int .i64 (k : Int)) true).run Tryd.prog w = .ok (.tuple #[(f k).getD z, .bool (f k).isSome]) w := by
  obtain ⟨es, clock, hb, _, h1, h2⟩ := h
  rcases Tryd.keyed.find w (key_of hk) es.toList (MapAt.keys h1) with ⟨g1, g2⟩ | ⟨j, e0, g1, g2, g3⟩
  · have hf : f k = none := by
      cases hf : f k with
      | none => rfl
      | some v =>
        obtain ⟨e, he, hq⟩ := h2 k v hf
        exact absurd hq (g2 e he)
    rw [hf]
    simp [Instr.lookup, run_underlying ht, MapKept.run_getObj_map hb, Tryd.keyed.check w _ (key_of hk), g1, hz, Result.andThen]
  · obtain ⟨k', e1, _, e2⟩ := h1 e0 (List.mem_of_getElem? g2)
    rw [g3] at e1
    simp only [Value.int.injEq, true_and] at e1
    have : k' = k := by omega
    subst this
    rw [e2]
    simp [Instr.lookup, run_underlying ht, MapKept.run_getObj_map hb, Tryd.keyed.check w _ (key_of hk), g1, Result.andThen]
theorem map_put {w : World} {b t el : Nat} {f : Nat → Option Value} (h : MapAt w b f) (ht : Tryd.prog.underlying t = some (.map 3 el)) {k : Nat} (hk : k ≤ 9000000000000000000) (v : Value) :
    ∃ w', (Instr.mapUpdate t (.map (some b)) (.int .i64 (k : Int)) v).run Tryd.prog w = .ok () w' ∧ MapAt w' b (upd f k v) ∧ Turn b w w' := by
  obtain ⟨es, clock, hb, hp, h1, h2⟩ := h
  have turn : ∀ o, Turn b w (ChangeMaps.setBlock w b o) := fun o => ⟨rfl, rfl, rfl, by simp [ChangeMaps.setBlock], fun i _ hi => ChangeMaps.heap_setBlock_other hb _ (fun e => hi (by rw [e]))⟩
  rcases Tryd.keyed.find w (key_of hk) es.toList (MapAt.keys h1) with ⟨g1, g2⟩ | ⟨j, e0, g1, g2, g3⟩
  · refine ⟨ChangeMaps.setBlock w b (.map (es.push ⟨.int .i64 (k : Int), v, clock⟩) (clock + 1)), ?_, ⟨_, _, ChangeMaps.heap_setBlock_same hb _, ?_, ?_, ?_⟩, turn _⟩
    · simp [Instr.mapUpdate, run_underlying ht, MapKept.run_getObj_map hb, Tryd.keyed.check w false (key_of hk), g1, MapKept.run_setObj_map _ hb, Result.andThen, ChangeMaps.setBlock]
    · rw [Array.toList_push, List.pairwise_append]
      exact ⟨hp, by simp, fun a ha c hc => by simp at hc; subst hc; exact g2 a ha⟩
    · intro e he
      rw [Array.toList_push, List.mem_append] at he
      rcases he with he | he
      · obtain ⟨q, e1, e2, e3⟩ := h1 e he
        refine ⟨q, e1, e2, ?_⟩
        have : q ≠ k := fun hq => g2 e he (by rw [e1, hq])
        simp [upd, this, e3]
      · simp at he
        subst he
        exact ⟨k, rfl, hk, by simp [upd]⟩
    · intro q u hq
      rw [Array.toList_push]
      by_cases hqk : q = k
      · subst hqk
        exact ⟨_, List.mem_append.2 (Or.inr (List.mem_singleton.2 rfl)), rfl⟩
      · simp only [upd, hqk, if_false] at hq
        obtain ⟨e, he, e1⟩ := h2 q u hq
        exact ⟨e, List.mem_append.2 (Or.inl he), e1⟩
  · have hjl : j < es.toList.length := (List.getElem?_eq_some_iff.1 g2).1
    have hj : es[j]? = some e0 := by simpa using g2
    have hlist : (es.modify j (fun e' => { e' with key := .int .i64 (k : Int), val := v })).toList = es.toList.set j { e0 with key := .int .i64 (k : Int), val := v } := by rw [Array.toList_modify, ChangeMaps.modify_eq_set _ _ _ _ g2]
    have e0j : es.toList[j]'hjl = e0 := (List.getElem?_eq_some_iff.1 g2).2
    have uniq : ∀ i (hi : i < es.toList.length), i ≠ j → (es.toList[i]'hi).key ≠ .int .i64 (k : Int) := by
      intro i hi hne
      have hpp := List.pairwise_iff_getElem.1 hp
      rcases Nat.lt_or_gt_of_ne hne with hl | hl
      · have := hpp i j hi hjl hl
        rw [e0j, g3] at this
        exact this
      · have := hpp j i hjl hi hl
        rw [e0j, g3] at this
        exact fun e => this e.symm
    refine ⟨ChangeMaps.setBlock w b (.map (es.modify j (fun e' => { e' with key := .int .i64 (k : Int), val := v })) clock), ?_, ⟨_, _, ChangeMaps.heap_setBlock_same hb _, ?_, ?_, ?_⟩, turn _⟩
    · simp [Instr.mapUpdate, run_underlying ht, MapKept.run_getObj_map hb, Tryd.keyed.check w false (key_of hk), g1, hj, g3, Tryd.keyed.stays w (key_of hk), MapKept.run_setObj_map _ hb, Result.andThen, ChangeMaps.setBlock]
    · rw [hlist, List.pairwise_iff_getElem]
      intro i1 i2 hi1 hi2 hlt
      rw [List.length_set] at hi1 hi2
      rw [List.getElem_set, List.getElem_set]
      have hpp := List.pairwise_iff_getElem.1 hp i1 i2 hi1 hi2 hlt
      by_cases q1 : j = i1
      · subst q1
        have q2 : ¬ j = i2 := by omega
        rw [if_pos rfl, if_neg q2]
        exact fun e => uniq i2 hi2 (fun h => q2 h.symm) e.symm
      · rw [if_neg q1]
        by_cases q2 : j = i2
        · subst q2
          rw [if_pos rfl]
          exact uniq i1 hi1 (fun h => q1 h.symm)
        · rw [if_neg q2]
          exact hpp
    · rw [hlist]
      intro e he
      obtain ⟨i, hi, rfl⟩ := List.getElem_of_mem he
      rw [List.length_set] at hi
      rw [List.getElem_set]
      by_cases q : j = i
      · rw [if_pos q]
        exact ⟨k, rfl, hk, by simp [upd]⟩
      · rw [if_neg q]
        obtain ⟨k', e1, e2, e3⟩ := h1 _ (List.getElem_mem hi)
        refine ⟨k', e1, e2, ?_⟩
        have : k' ≠ k := fun hq => uniq i hi (fun h => q h.symm) (by rw [e1, hq])
        simp [upd, this, e3]
    · intro q u hq
      rw [hlist]
      by_cases hqk : q = k
      · subst hqk
        exact ⟨_, List.mem_of_getElem? (List.getElem?_set_self (by simpa using hjl)), rfl⟩
      · simp only [upd, hqk, if_false] at hq
        obtain ⟨e, he, e1⟩ := h2 q u hq
        obtain ⟨i, hi, rfl⟩ := List.getElem_of_mem he
        have hij : j ≠ i := fun h => by
          subst h
          rw [e0j, g3] at e1
          simp only [Value.int.injEq, true_and] at e1
          omega
        refine ⟨es.toList[i]'hi, ?_, e1⟩
        refine List.mem_of_getElem? (i := i) ?_
        rw [List.getElem?_set_ne hij, List.getElem?_eq_getElem hi]
end Go.Proofs.YtkknfolahfmghaaDoor
