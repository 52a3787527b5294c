/- The walk of the reference's Spoil (stage 8). -/
import Derived.Test.YtkjbgjiddpkcpaaR2
import Derived.BigRegion
namespace Go.Proofs.Ytkjbgjiddpkcpaa
open Go.RowKit
open Pdu
theorem set_swap (w : World) (a b : Addr) (x y : Value) (h : a.block ≠ b.block) (j : Nat) : ((w.setCell a x).setCell b y).heap[j]? = ((w.setCell b y).setCell a x).heap[j]? := by
  by_cases h1 : j = a.block
  · rw [Below.heap_setCell _ b _ _ (by rw [h1]; exact h)]
    simp only [World.setCell, Array.getElem?_modify]
    rw [if_pos h1.symm, if_pos h1.symm, if_neg (fun e => h (h1.symm.trans e.symm))]
  · rw [Below.heap_setCell (w.setCell b y) a _ _ h1]
    by_cases h2 : j = b.block
    · simp only [World.setCell, Array.getElem?_modify]
      rw [if_pos h2.symm, if_pos h2.symm, if_neg (fun e => h1 e.symm)]
    · rw [Below.heap_setCell _ b _ _ h2, Below.heap_setCell _ b _ _ h2, Below.heap_setCell _ a _ _ h1]
theorem Rf.heaps {w u : World} {r q h : Nat} {s : SS} (t : Rf w r q h s) (k : ∀ j : Nat, u.heap[j]? = w.heap[j]?) : Rf u r q h s := t.heapq (k r) (k q) (fun v bs hr => by
  obtain ⟨p, c, cur, rfl, hc, hh, hp, ht⟩ := hr
  exact ⟨p, c, cur, rfl, hc, hh, (k p).trans hp, ht⟩)
set_option maxHeartbeats 400000 in
theorem spoilr_no {w : World} {r q h : Nat} {s : SS} (t : Rf w r q h s) (i a : Int) (x : Value) (ho : s.err i ≠ 0 ∨ a < 0 ∨ (s.sz : Int) ≤ a) : Calls Try.prog 23 #[.pointer (some ⟨r, 0, none⟩), .int .i64 i, .int .i64 a, x] w fun e w' => e = .returned (.tuple #[]) ∧ w' = w := by
  have c5 := t.cDead
  have c1 := t.cSize
  obtain ⟨cap, c0, hcap⟩ := t.cells
  rcases s.err_cases i with ⟨hd, he⟩ | ⟨hd, hi, he⟩ | ⟨hd, he, k, rfl, hk⟩
  · rw [hd] at c5
    clear t hd he ho
    go_enter Try.func23, Try.ntmps23
    go_wp2
    go_end0
    exact ⟨rfl, rfl⟩
  · rw [hd] at c5
    by_cases h0 : i < 0
    · have h1 : ¬ 0 ≤ i := by omega
      clear t hd he hi ho
      go_enter Try.func23, Try.ntmps23
      go_wp2
      go_end0
      exact ⟨rfl, rfl⟩
    · have h1 : ¬ i < (s.rows.length : Int) := by omega
      have h2 : 0 ≤ i := by omega
      clear t hd he hi ho
      go_enter Try.func23, Try.ntmps23
      go_wp2
      go_end0
      exact ⟨rfl, rfl⟩
  · rw [hd] at c5
    have h1 : (k : Int) < (s.rows.length : Int) := by omega
    have h2 : 0 ≤ (k : Int) := by omega
    have ho' : a < 0 ∨ (s.sz : Int) ≤ a := by
      rcases ho with h | h
      · exact absurd he h
      · exact h
    by_cases h0 : a < 0
    · have h3 : ¬ 0 ≤ a := by omega
      clear t hd he ho ho'
      go_enter Try.func23, Try.ntmps23
      go_wp2
      go_end0
      exact ⟨rfl, rfl⟩
    · have h3 : 0 ≤ a := by omega
      have h4 : ¬ a < (s.sz : Int) := by omega
      clear t hd he ho ho'
      go_enter Try.func23, Try.ntmps23
      go_wp2
      go_end0
      exact ⟨rfl, rfl⟩
/-- A row copied. -/
theorem app1 {X : World} {h p c n : Nat} {row : List Nat} (hr : RowIn X h (.slice (some ⟨p, 0, none⟩) n c) row) (hrn : n = row.length) (hn9 : n ≤ 4096) (h0 : 1 ≤ n) :
    ∃ p2 c2 cur w1, (Builtin.append_ #[30, 30] 30 #[.slice none 0 0, .slice (some ⟨p, 0, none⟩) n c]).run Try.prog X = .ok (.slice (some ⟨p2, 0, none⟩) n c2) w1 ∧ X.heap.size ≤ p2 ∧ n ≤ c2 ∧ w1.heap[p2]? = some (.cells cur 5 (0, 0)) ∧ cur.toList.take n = u8s row ∧ Below X.heap.size X w1 := by
  obtain ⟨i0, hi, hz0, hz1, hz2⟩ := info_parts Try.infoByte
  obtain ⟨v1, w1, hr1, own1, g1⟩ := run_append_sl (P := Try.prog) (w := X) X.heap.size 30 30 5 i0 (.int .u8 0) 1 Try.underlying30 hi hz0 hz1 hz2 rfl (.slice none 0 0) 0 [] (World.ownsRow_nil ..) _ _ hr.sl (u8s_one _) (by rw [u8s_len, ← hrn]; unfold maxLen; omega) (by rw [u8s_len, ← hrn]; omega) (Nat.le_refl _)
  have k1 : Below X.heap.size X w1 := (Below.refl _ X).grown g1 (Nat.le_refl _) (fun g hg => by simp [Value.ownBlock] at hg)
  rw [List.nil_append, u8s_len, ← hrn, Nat.zero_add] at own1
  rcases own1.2 with ⟨_, h1⟩ | ⟨g, cap, cur, rfl, hb, hg, hn, _, _, ht⟩
  · omega
  · exact ⟨g, cap, cur, w1, hr1, hb, hn, hg, by rw [Nat.mul_one] at ht; exact ht, k1⟩
set_option maxHeartbeats 1600000 in
theorem spoilr_at {w : World} {r q h k a x : Nat} {s : SS} (t : Rf w r q h s) (hh : h < w.heap.size) (hd : s.dead = false) (hk : k < s.rows.length) (ha : a < s.sz) : Calls Try.prog 23 #[.pointer (some ⟨r, 0, none⟩), .int .i64 (k : Int), .int .i64 (a : Int), .int .u8 (x : Int)] w fun e w' => e = .returned (.tuple #[]) ∧ Rf w' r q h { s with rows := s.rows.set k ((s.row k).set a (xr ((s.row k).getD a 0) x)) } ∧ Only [r, q] w w' := by
  have c5 := t.cDead
  have c1 := t.cSize
  obtain ⟨cap, c0, hcap⟩ := t.cells
  rw [hd] at c5
  obtain ⟨p, cp, ck, hcp2, hrow⟩ := t.cRow hk
  have h1 : (k : Int) < (s.rows.length : Int) := by omega
  have h2 : (a : Int) < (s.sz : Int) := by omega
  have T := hid_as t
  have HK := hid_as hk
  have hrl := (t.ok.row hk).1
  have lo := t.ok.lo
  obtain ⟨p2, c2, cur, w1, hr1, hp2, hc2, hb2, ht2, k1⟩ := app1 (X := w.drew) hrow hrl.symm t.ok.hi (by omega)
  have hne2 : p2 ≠ q := by have h3 := t.ltq; have h4 : w.heap.size ≤ p2 := hp2; omega
  have hner : p2 ≠ r := by have h3 := t.lt; have h4 : w.heap.size ≤ p2 := hp2; omega
  have T1 := hid_as ((t.same (Same.drew w)).below k1)
  have a0 : w1.cell? ⟨r, 0, none⟩ = some (.slice (some ⟨q, 0, none⟩) s.rows.length cap) := keep_cell k1 c0
  have b0 : w1.cell? ⟨q, k, none⟩ = some (.slice (some ⟨p, 0, none⟩) s.sz cp) := keep_cell k1 ck
  have bf := T1.out.freeq k
  have hx1 := xr_is ((s.row k).getD a 0) x
  obtain ⟨old, hold⟩ : ∃ old, old = (s.row k).getD a 0 := ⟨_, rfl⟩
  obtain ⟨y, hy⟩ : ∃ y, y = xr old x := ⟨_, rfl⟩
  rw [← hold, ← hy] at hx1
  rw [← hold, ← hy]
  have hrow2 : RowIn w1 h (.slice (some ⟨p2, 0, none⟩) s.sz c2) (s.row k) := ⟨p2, c2, cur, by rw [hrl], by rw [hrl]; exact hc2, by have h4 : w.heap.size ≤ p2 := hp2; omega, hb2, by rw [hrl]; exact ht2⟩
  have hold2 : w1.cell? ⟨p2, a, none⟩ = some (.int .u8 (old : Int)) := by
    have := hrow2.sl
    rcases this with ⟨e, _⟩ | ⟨b, off, cc, e, _, hl⟩
    · rw [u8s_nil e] at hrl
      simp at hrl
      omega
    · simp only [Value.slice.injEq, Option.some.injEq, Addr.mk.injEq, and_true] at e
      obtain ⟨⟨rfl, rfl⟩, _, _⟩ := e
      have := hl.u8 a (by rw [hrl]; exact ha)
      rw [Nat.zero_add] at this
      rw [this, hold]
  have kB : Below w.heap.size w (w1.setCell ⟨p2, a, none⟩ (.int .u8 (y : Int))) := by
    have h5 : Below w.heap.size w w1 := (drew_below w).trans k1
    exact h5.trans (((Turn.refl p2 w1).set a _).below hp2 h5.size)
  have hrow3 : RowIn (w1.setCell ⟨p2, a, none⟩ (.int .u8 (y : Int))) h (.slice (some ⟨p2, 0, none⟩) s.sz c2) ((s.row k).set a y) := by
    refine ⟨p2, c2, cur.setIfInBounds a (.int .u8 (y : Int)), by rw [List.length_set, hrl], by rw [List.length_set, hrl]; exact hc2, by have h4 : w.heap.size ≤ p2 := hp2; omega, Go.heap_setCell_same w1 p2 a cur 5 _ hb2, ?_⟩
    rw [List.length_set, hrl, Array.toList_setIfInBounds, List.take_set, ht2, u8s_set]
  have hrb := (t.ok.row hk).2
  have hyb : y < 256 := by rw [hy]; exact xr_lt _ _
  have T3 := hid_as ((t.below kB).put (k := k) (by rw [List.length_set, hrl]) (bytes_set hrb a hyb) hrow3)
  have T4 : Hid (Rf ((w1.setCell ⟨q, k, none⟩ (.slice (some ⟨p2, 0, none⟩) s.sz c2)).setCell ⟨p2, a, none⟩ (.int .u8 (y : Int))) r q h { s with rows := s.rows.set k ((s.row k).set a y) }) := T3.out.heaps (fun j => set_swap _ _ _ _ _ (fun e => hne2 e.symm) j)
  have U4 : Hid (Only [r, q] w ((w1.setCell ⟨q, k, none⟩ (.slice (some ⟨p2, 0, none⟩) s.sz c2)).setCell ⟨p2, a, none⟩ (.int .u8 (y : Int)))) := by
    have h5 : Only [r, q] w w1 := Only.ofBelow ((drew_below w).trans k1)
    have h6 : Only [r, q] w (w1.setCell ⟨q, k, none⟩ (.slice (some ⟨p2, 0, none⟩) s.sz c2)) := h5.trans (Only.ofTurn ((Turn.refl q w1).set k _) (by simp))
    refine ⟨h6.os, h6.tape, h6.output, by simpa using h6.size, fun j hj hm => ?_⟩
    rw [Below.heap_setCell _ _ _ _ (by show j ≠ p2; have h4 : w.heap.size ≤ p2 := hp2; omega)]
    exact h6.block j hj hm
  have x0 : (w1.setCell ⟨q, k, none⟩ (.slice (some ⟨p2, 0, none⟩) s.sz c2)).cell? ⟨r, 0, none⟩ = some (.slice (some ⟨q, 0, none⟩) s.rows.length cap) := by
    rw [World.cell?_setCell_other _ _ _ _ (fun e => t.ne (congrArg Addr.block e).symm)]
    exact a0
  have x1 : (w1.setCell ⟨q, k, none⟩ (.slice (some ⟨p2, 0, none⟩) s.sz c2)).cell? ⟨q, k, none⟩ = some (.slice (some ⟨p2, 0, none⟩) s.sz c2) := World.cell?_setCell_same _ _ _ b0
  have x2 : (w1.setCell ⟨q, k, none⟩ (.slice (some ⟨p2, 0, none⟩) s.sz c2)).cell? ⟨p2, a, none⟩ = some (.int .u8 (old : Int)) := by
    rw [World.cell?_setCell_other _ _ _ _ (fun e => hne2 (congrArg Addr.block e).symm)]
    exact hold2
  have x3 : (w1.setCell ⟨q, k, none⟩ (.slice (some ⟨p2, 0, none⟩) s.sz c2)).frozen? ⟨p2, a, none⟩ = false := by
    rw [World.frozen?_setCell]
    simp [World.frozen?, hb2]
  obtain ⟨X1, hX1⟩ : ∃ X1, X1 = w1.setCell ⟨q, k, none⟩ (.slice (some ⟨p2, 0, none⟩) s.sz c2) := ⟨_, rfl⟩
  rw [← hX1] at x0 x1 x2 x3 T4 U4
  have HX := hid_as hX1
  clear t hd hk hrow hb2 ht2 k1 hrow2 hold2 kB hrow3 hrb T3 T1 hX1 hy hold hyb lo hrl hh
  go_enter Try.func23, Try.ntmps23
  go_upto_region 1 with fail
  go_cut [] from 38 to 51 (fun wx => wx = X1)
  case first =>
    go_region_law (refine step_append_run rfl (.const (.slice none 0 0)) (.tmp 49) 30 30 rfl (.slice none 0 0) (.slice (some ⟨p, 0, none⟩) s.sz cp) (by simp [Act.eval]) (by simp [Act.eval]) (.slice (some ⟨p2, 0, none⟩) s.sz c2) w1 hr1 ?_)
    all_goals
      rw [← HX.out]
      go_wp2
      go_meet
      case rel => exact rfl
  case rest =>
    obtain rfl := hcut
    go_upto_region 2 with fail
    go_region
    go_wp2
    go_end0
    exact ⟨rfl, T4.out.same (Same.drew _), U4.out.trans ((Same.drew _).only _)⟩
end Go.Proofs.Ytkjbgjiddpkcpaa
