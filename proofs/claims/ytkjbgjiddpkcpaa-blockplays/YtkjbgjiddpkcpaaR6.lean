/- The walks of the reference's Copy and New (stage 8). -/
import Derived.Test.YtkjbgjiddpkcpaaR2
namespace Go.Proofs.Ytkjbgjiddpkcpaa
open Go.RowKit
open Pdu
theorem Try.infoSl : (Try.prog.info? 30).map (fun i => (i.zero, i.size, i.bytes)) = some (some (.slice none 0 0), 1, 24) := by kernel_rfl
/-- The list of blocks copied. -/
theorem app_rows {X : World} {q cap n base : Nat} {vals : List Value} (o : X.ownsRow base 30 1 (.slice (some ⟨q, 0, none⟩) n cap) n vals) (h1 : ∀ u ∈ vals, u.oneCell' = true) (hn : n ≤ 64) (h0 : 1 ≤ n) :
    ∃ q2 c2 w1, (Builtin.append_ #[33, 33] 33 #[.slice none 0 0, .slice (some ⟨q, 0, none⟩) n cap]).run Try.prog X = .ok (.slice (some ⟨q2, 0, none⟩) n c2) w1 ∧ X.heap.size ≤ q2 ∧ w1.ownsRow 0 30 1 (.slice (some ⟨q2, 0, none⟩) n c2) n vals ∧ Below X.heap.size X w1 := by
  obtain ⟨i0, hi, hz0, hz1, hz2⟩ := info_parts Try.infoSl
  have hl : vals.length = n := by have := o.1; omega
  have hs : Sl X (.slice (some ⟨q, 0, none⟩) n cap) vals := own_sl o
  obtain ⟨v1, w1, hr1, own1, g1⟩ := run_append_sl (P := Try.prog) (w := X) X.heap.size 33 33 30 i0 (.slice none 0 0) 24 Try.underlying33 hi hz0 hz1 hz2 rfl (.slice none 0 0) 0 [] (World.ownsRow_nil ..) _ _ hs h1 (by rw [hl]; unfold maxLen; omega) (by rw [hl]; omega) (Nat.le_refl _)
  have k1 : Below X.heap.size X w1 := (Below.refl _ X).grown g1 (Nat.le_refl _) (fun g hg => by simp [Value.ownBlock] at hg)
  rw [List.nil_append, hl, Nat.zero_add] at own1
  have own2 := own_base own1 (Nat.zero_le _)
  rcases own1.2 with ⟨_, h1⟩ | ⟨g, cap, cur, rfl, hb, hg, hn, _, _, ht⟩
  · omega
  · exact ⟨g, cap, w1, hr1, hb, own2, k1⟩
theorem Rf.ones {w : World} {r q h : Nat} {s : SS} (t : Rf w r q h s) : ∃ cap vals, w.heap[r]? = some (.cells (rx (.slice (some ⟨q, 0, none⟩) s.rows.length cap) s).toArray 35 (0, 0)) ∧ w.ownsRow 0 30 1 (.slice (some ⟨q, 0, none⟩) s.rows.length cap) s.rows.length vals ∧ (∀ (k : Nat) (bs : List Nat), s.rows[k]? = some bs → ∃ v, vals[k]? = some v ∧ RowIn w h v bs) ∧ ∀ u ∈ vals, u.oneCell' = true := by
  obtain ⟨cap, vals, h1, h2, h3⟩ := t.lst
  refine ⟨cap, vals, h1, h2, h3, fun u hu => ?_⟩
  obtain ⟨k, hk, rfl⟩ := List.getElem_of_mem hu
  have hl : vals.length = s.rows.length := by have := h2.1; omega
  obtain ⟨v, hv, p, c, cur, rfl, _⟩ := h3 k _ (List.getElem?_eq_getElem (by omega))
  rw [List.getElem?_eq_getElem hk] at hv
  simp only [Option.some.injEq] at hv
  rw [hv]
  rfl
set_option maxHeartbeats 800000 in
theorem copyr_c {w : World} {r q h : Nat} {s : SS} (t : Rf w r q h s) : Calls Try.prog 25 #[.pointer (some ⟨r, 0, none⟩)] w fun e w' => ∃ r' q', e = .returned (.pointer (some ⟨r', 0, none⟩)) ∧ Rf w' r' q' h s ∧ Below w.heap.size w w' ∧ w.heap.size ≤ r' ∧ w.heap.size ≤ q' := by
  obtain ⟨cap, vals, h1, h2, h3, ho⟩ := t.ones
  have c0 : w.cell? ⟨r, 0, none⟩ = some (.slice (some ⟨q, 0, none⟩) s.rows.length cap) := cell_row h1 rfl
  have c1 := t.cSize
  have c2 := t.cN
  have c3 := t.cLeft
  have c4 := t.cPre
  have c5 := t.cDead
  have T := hid_as t
  have H2 := hid_as h2
  have H3 := hid_as h3
  have HO := hid_as ho
  clear t h1 h2 h3 ho
  go_enter Try.func25, Try.ntmps25
  go_upto_region 2 with fail
  have kX := hid_as (below_new (Below.refl _ w) (.cells (rx (.slice (some ⟨q, 0, none⟩) s.rows.length cap) s).toArray 35))
  have bX : Hid ((w.alloc (.cells (rx (.slice (some ⟨q, 0, none⟩) s.rows.length cap) s).toArray 35)).heap[w.heap.size]? = some (.cells (rx (.slice (some ⟨q, 0, none⟩) s.rows.length cap) s).toArray 35 (0, 0))) := heap_alloc_new w _
  have zX : Hid ((w.alloc (.cells (rx (.slice (some ⟨q, 0, none⟩) s.rows.length cap) s).toArray 35)).heap.size = w.heap.size + 1) := World.size_alloc ..
  change Code.wp _ _ _ _ (w.alloc (.cells (rx (.slice (some ⟨q, 0, none⟩) s.rows.length cap) s).toArray 35))
  generalize w.alloc (.cells (rx (.slice (some ⟨q, 0, none⟩) s.rows.length cap) s).toArray 35) = X at kX bX zX ⊢
  have d0 : X.cell? ⟨r, 0, none⟩ = some (.slice (some ⟨q, 0, none⟩) s.rows.length cap) := keep_cell kX.out c0
  have oX := own_below H2.out kX.out (Nat.le_refl _)
  obtain ⟨q2, cc, w1, hr, hq2, o2, k1⟩ := app_rows oX HO.out T.out.ok.nhi T.out.ok.nlo
  have K1 := hid_as (below_and kX.out k1)
  have bx1 : Hid (w1.heap[w.heap.size]? = some (.cells (rx (.slice (some ⟨q, 0, none⟩) s.rows.length cap) s).toArray 35 (0, 0))) := (k1.block _ (by rw [zX.out]; omega)).trans bX.out
  have c11 : w1.cell? ⟨w.heap.size, 0, none⟩ = some (.slice (some ⟨q, 0, none⟩) s.rows.length cap) := cell_row bx1.out rfl
  have f11 : w1.frozen? ⟨w.heap.size, 0, none⟩ = false := frozen_row bx1.out
  have hTr : Turn w.heap.size w1 (w1.setCell ⟨w.heap.size, 0, none⟩ (.slice (some ⟨q2, 0, none⟩) s.rows.length cc)) := (Turn.refl w.heap.size w1).set 0 _
  have KK : Below w.heap.size w (w1.setCell ⟨w.heap.size, 0, none⟩ (.slice (some ⟨q2, 0, none⟩) s.rows.length cc)) := K1.out.trans (hTr.below (Nat.le_refl _) K1.out.size)
  have FIN : Hid (Rf (w1.setCell ⟨w.heap.size, 0, none⟩ (.slice (some ⟨q2, 0, none⟩) s.rows.length cc)) w.heap.size q2 h s ∧ Below w.heap.size w (w1.setCell ⟨w.heap.size, 0, none⟩ (.slice (some ⟨q2, 0, none⟩) s.rows.length cc)) ∧ w.heap.size ≤ w.heap.size ∧ w.heap.size ≤ q2) := by
    refine ⟨⟨T.out.ok, cc, vals, ?_, ?_, fun k bs hk => ?_⟩, KK, Nat.le_refl _, by rw [zX.out] at hq2; omega⟩
    · rw [set_row bx1.out]
      rfl
    · exact o2.kept hTr (Or.inr (fun e => by
        have e3 : q2 = w.heap.size := by simpa [Value.ownBlock] using e
        rw [zX.out] at hq2
        omega))
    · obtain ⟨v, hv, hr2⟩ := H3.out k bs hk
      exact ⟨v, hv, hr2.only (S := []) (Only.ofBelow KK) (fun _ _ _ _ _ _ h => by cases h)⟩
  have HR := hid_as hr
  clear oX o2 k1 hTr KK hr
  go_wp2_with (at_builtin; refine Lib.wpList_append_run _ rfl _ _ _ _ rfl _ _ rfl rfl _ _ HR.out ?_)
  go_ret
  exact ⟨_, _, rfl, FIN.out⟩
end Go.Proofs.Ytkjbgjiddpkcpaa
