/- The walk of the reference's New (stage 8). -/
import Derived.Test.YtkjbgjiddpkcpaaR6
namespace Go.Proofs.Ytkjbgjiddpkcpaa
open Go.RowKit
open Pdu
/-- So many blocks are laid. -/
def NI (w wr : World) (r h sz k : Nat) : Prop := ∃ ao cc vals, wr.heap[r]? = some (.cells (rx (.slice ao k cc) (SS.new 0 sz)).toArray 35 (0, 0)) ∧ wr.ownsRow (r + 1) 30 1 (.slice ao k cc) k vals ∧ (∀ j, j < k → ∃ u, vals[j]? = some u ∧ RowIn wr h u (List.replicate sz 0)) ∧ Below w.heap.size w wr
/-- One block more. -/
theorem ni_step {w wr : World} {r h sz k : Nat} (n : NI w wr r h sz k) (hr : w.heap.size ≤ r) (hh : h < w.heap.size) (hz : 16 ≤ sz ∧ sz ≤ 4096) (hk : k < 64) : ∃ ao cc, wr.cell? ⟨r, 0, none⟩ = some (.slice ao k cc) ∧ wr.cell? ⟨r, 1, none⟩ = some (.int .i64 (sz : Int)) ∧ ∃ w1, (Instr.makeSlice 30 (.int .i64 (sz : Int)) (.int .i64 (sz : Int))).run Try.prog wr.drew = .ok (.slice (some ⟨wr.heap.size, 0, none⟩) sz sz) w1 ∧
    ∃ g2 cc2 w2, (Builtin.append_ #[33, 33] 33 #[.slice ao k cc, .slice (some ⟨w1.heap.size, 0, none⟩) 1 1]).run Try.prog (w1.alloc (.cells #[.slice (some ⟨wr.heap.size, 0, none⟩) sz sz] 30)) = .ok (.slice (some ⟨g2, 0, none⟩) (k + 1) cc2) w2 ∧ (w1.cell? ⟨r, 0, none⟩ = some (.slice ao k cc) ∧ (w1.alloc (.cells #[.slice (some ⟨wr.heap.size, 0, none⟩) sz sz] 30)).cell? ⟨r, 0, none⟩ = some (.slice ao k cc) ∧ w2.cell? ⟨r, 0, none⟩ = some (.slice ao k cc) ∧ w2.frozen? ⟨r, 0, none⟩ = false ∧ w1.cell? ⟨r, 1, none⟩ = some (.int .i64 (sz : Int)) ∧ (w1.alloc (.cells #[.slice (some ⟨wr.heap.size, 0, none⟩) sz sz] 30)).cell? ⟨r, 1, none⟩ = some (.int .i64 (sz : Int)) ∧ w2.cell? ⟨r, 1, none⟩ = some (.int .i64 (sz : Int))) ∧ NI w (w2.setCell ⟨r, 0, none⟩ (.slice (some ⟨g2, 0, none⟩) (k + 1) cc2)) r h sz (k + 1) := by
  obtain ⟨ao, cc, vals, h1, h2, h3, h4⟩ := n
  have hlt : r < wr.heap.size := (Array.getElem?_eq_some_iff.1 h1).1
  obtain ⟨w1, hm, hb1, k1, sz1⟩ := mk_run wr.drew sz (by omega)
  change w1.heap[wr.heap.size]? = _ at hb1
  change w1.heap.size = wr.heap.size + 1 at sz1
  obtain ⟨W, hW⟩ : ∃ W, W = w1.alloc (.cells #[.slice (some ⟨wr.heap.size, 0, none⟩) sz sz] 30) := ⟨_, rfl⟩
  have kW : Below wr.heap.size wr W := by rw [hW]; exact below_new ((drew_below wr).trans k1) _
  have hsW : wr.heap.size + 2 = W.heap.size := by rw [hW, World.size_alloc, sz1]
  have lit : Sl W (.slice (some ⟨w1.heap.size, 0, none⟩) 1 1) [.slice (some ⟨wr.heap.size, 0, none⟩) sz sz] := by
    rw [hW]
    refine Or.inr ⟨w1.heap.size, 0, 1, rfl, Nat.le_refl _, fun k u hk => ?_⟩
    rw [World.cell?_alloc_new, Nat.zero_add, ← Array.getElem?_toList]
    exact hk
  obtain ⟨i0, hi, hz0, hz1, hz2⟩ := info_parts Try.infoSl
  have oW : W.ownsRow (r + 1) 30 1 (.slice ao k cc) k vals := own_below h2 kW (Nat.le_refl _)
  obtain ⟨v2, w2, hr2, own2, g2⟩ := run_append_sl (P := Try.prog) (w := W) (r + 1) 33 33 30 i0 (.slice none 0 0) 24 Try.underlying33 hi hz0 hz1 hz2 rfl _ _ _ oW _ _ lit (fun u hu => by simp at hu; rw [hu]; rfl) (by simp; unfold maxLen; omega) (by simp; omega) (by omega)
  have k2 : Below (r + 1) W w2 := (Below.refl _ W).grown g2 (by omega) (fun g hg => (oW.lt g hg).1)
  have kw2 : Below (r + 1) wr w2 := (Below.mono kW (by omega)).trans k2
  simp only [List.length_singleton] at own2
  have own2' := own2
  rcases own2.2 with ⟨_, h5⟩ | ⟨gg, cc2, cur, rfl, hb, hg, hn, hmx, hcs, ht⟩
  · omega
  have r1 : wr.cell? ⟨r, 0, none⟩ = some (.slice ao k cc) := cell_row h1 rfl
  have r2 : wr.cell? ⟨r, 1, none⟩ = some (.int .i64 (sz : Int)) := cell_row h1 rfl
  have kw1 : Below wr.heap.size wr w1 := (drew_below wr).trans k1
  have hT : Turn r w2 (w2.setCell ⟨r, 0, none⟩ (.slice (some ⟨gg, 0, none⟩) (k + 1) cc2)) := (Turn.refl r w2).set 0 _
  have hbox : w2.heap[r]? = some (.cells (rx (.slice ao k cc) (SS.new 0 sz)).toArray 35 (0, 0)) := (kw2.block r (by omega)).trans h1
  refine ⟨ao, cc, r1, r2, w1, hm, gg, cc2, w2, by rw [← hW]; exact hr2, ?_, some ⟨gg, 0, none⟩, cc2, vals ++ [.slice (some ⟨wr.heap.size, 0, none⟩) sz sz], ?_, ?_, ?_, ?_⟩
  · rw [← hW]
    exact ⟨keep_cell kw1 r1, keep_cell kW r1, (kw2.cell (p := ⟨r, 0, none⟩) (by simp)).trans r1, frozen_row hbox, keep_cell kw1 r2, keep_cell kW r2, (kw2.cell (p := ⟨r, 1, none⟩) (by simp)).trans r2⟩
  · rw [set_row hbox]
    rfl
  · exact own2'.kept hT (Or.inr (fun e => by
      have e3 : gg = r := by simpa [Value.ownBlock] using e
      omega))
  · intro j hj
    -- the rows that there were, and the new one
    have hrows : ∀ u bs, RowIn wr h u bs → RowIn w2 h u bs := by
      rintro u bs ⟨p, c, cur', rfl, hc, hh', hp, ht'⟩
      have hpl : p < wr.heap.size := (Array.getElem?_eq_some_iff.1 hp).1
      have hpW : W.heap[p]? = some (.cells cur' 5 (0, 0)) := (kW.block p hpl).trans hp
      refine ⟨p, c, cur', rfl, hc, hh', (g2.block p (by omega) (fun e => ?_)).trans hpW, ht'⟩
      rcases oW.2 with ⟨e2, _⟩ | ⟨g3, c3, cur3, e2, _, hg3, _⟩
      · rw [e2] at e; simp [Value.ownBlock] at e
      · rw [e2] at e
        have e4 : p = g3 := by simpa [Value.ownBlock] using e
        rw [e4, hg3] at hpW
        simp at hpW
    have hset : ∀ u bs, RowIn w2 h u bs → RowIn (w2.setCell ⟨r, 0, none⟩ (.slice (some ⟨gg, 0, none⟩) (k + 1) cc2)) h u bs := fun u bs hr2 => hr2.only (S := [r]) (Only.ofTurn hT (by simp)) (fun p c cur fl _ hp hm => by
      simp only [List.mem_cons, List.not_mem_nil, or_false] at hm
      rw [hm, hbox] at hp
      simp at hp)
    have hvl : vals.length = k := by have := h2.1; omega
    by_cases hjk : j < k
    · obtain ⟨u, hu, hr'⟩ := h3 j hjk
      exact ⟨u, by rw [List.getElem?_append_left (by omega)]; exact hu, hset u _ (hrows u _ hr')⟩
    · obtain rfl : j = k := by omega
      refine ⟨_, by rw [List.getElem?_append_right (by omega), hvl, Nat.sub_self]; rfl, hset _ _ ?_⟩
      have hpW : W.heap[wr.heap.size]? = some (.cells (u8s (List.replicate sz 0)).toArray 5 (0, 0)) := by
        rw [hW, Below.heap_alloc _ _ _ (by rw [sz1]; omega)]
        exact hb1
      refine ⟨wr.heap.size, sz, _, by rw [List.length_replicate], by rw [List.length_replicate]; exact Nat.le_refl _, by have h6 := h4.size; omega, (g2.block _ (by omega) (fun e => ?_)).trans hpW, by rw [List.length_replicate, List.take_of_length_le (by simp [u8s_len])]⟩
      rcases oW.2 with ⟨e2, _⟩ | ⟨g3, c3, cur3, e2, _, hg3, _⟩
      · rw [e2] at e; simp [Value.ownBlock] at e
      · rw [e2] at e
        have e4 : wr.heap.size = g3 := by simpa [Value.ownBlock] using e
        rw [e4, hg3] at hpW
        simp at hpW
  · have h5 : Below w.heap.size w w2 := h4.trans (Below.mono kw2 (by omega))
    exact h5.trans (hT.below hr h5.size)
end Go.Proofs.Ytkjbgjiddpkcpaa
