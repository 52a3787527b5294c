/- The walk of comeTo, where it was not yet (stage 20). -/
import Derived.Test.YtkknfolahfmghaaDoorW2
import Derived.Deep.CutRange
import Derived.Deep.CutBlock
namespace Go.Proofs.YtkknfolahfmghaaDoor
open Go.RowKit
open Fb Cod
theorem Tryd.infoState : (Tryd.prog.info? 95).map (fun i => (i.zero, i.size, i.bytes)) = some (some (.agg #[.int .i64 0, .int .i64 0]), 2, 16) := by kernel_rfl
theorem own_shapeS {w : World} {base n s : Nat} {e : TypeId} {v : Value} {vs : List Value} (h : w.ownsRow base e s v n vs) : ∃ ao c, v = .slice ao n c := by
  rcases h.2 with ⟨rfl, h0⟩ | ⟨g, cap, cur, rfl, _⟩
  · exact ⟨none, 0, by rw [h0]⟩
  · exact ⟨_, _, rfl⟩
theorem one_pair (i d : Nat) : ∀ u ∈ [Value.int .i64 (i : Int), Value.int .i64 (d : Int)], u.oneCell' = true := by
  intro u hu
  simp at hu
  rcases hu with rfl | rfl <;> rfl
theorem pair_cells (w : World) (i d : Nat) (e : TypeId) : ∀ j u, [Value.int .i64 (i : Int), Value.int .i64 (d : Int)][j]? = some u → (w.alloc (.cells #[.int .i64 (i : Int), .int .i64 (d : Int)] e)).cell? ((⟨w.heap.size, 0, none⟩ : Addr).add j) = some u := by
  intro j u hj
  match j, hj with
  | 0, hj => simp at hj; subst hj; simp [Addr.add]
  | 1, hj => simp at hj; subst hj; simp [Addr.add]
/-- What stands behind the look-up, ahead of the words: a meeting in a block of its own. -/
structure Cm (B : Nat) (w w1 : World) (g m M : Nat) (lv wv : Value) (S T : List (Nat × Nat)) (wr i d f q r : Nat) (u : Nat → Nat) : Prop where
  wy : ∃ F, MapAt w1 m F ∧ Met F S wr
  row : w1.heap[g]? = some (.cells [lv, .map (some m), wv, .int .i64 (wr : Int)].toArray 93 (0, 0))
  own : w1.ownsRow B 95 2 wv T.length (prs T)
  gB : B ≤ g
  mB : B ≤ m
  gm : g ≠ m
  wg : ∀ h, wv.ownBlock = some h → h ≠ g ∧ h ≠ m ∧ h ≠ M
  box : w1.heap[M]? = some (.cells (mrow f u).toArray 101 (0, 0))
  MB : B ≤ M
  Mg : M ≠ g
  Mm : M ≠ m
  kb : Below B w w1
  Ml : w.heap.size ≤ M
  ot : ∀ j, j < w.heap.size → j ≠ g → j ≠ m → w1.heap[j]? = w.heap[j]?
  met : ∀ F, Met F S wr → Met (upd F i (mv f (usb u q (u q ||| 2 ^ r)))) (S ++ [(i, d)]) wr
/-- The word is set. -/
theorem Cm.set {B : Nat} {w w1 : World} {g m M : Nat} {lv wv : Value} {S T : List (Nat × Nat)} {wr i d f q r : Nat} {u : Nat → Nat} (h : Cm B w w1 g m M lv wv S T wr i d f q r u) (hq5 : q < 5) (hB : B ≤ w.heap.size) (x : Nat) (hx : x = u q ||| 2 ^ r) :
    ∃ W1, w1.drew.setCell ⟨M, 1 + q, none⟩ (.int .u64 (x : Nat)) = W1 ∧ Cm B w W1 g m M lv wv S T wr i d f q r (usb u q x) := by
  subst hx
  refine ⟨_, rfl, ?_⟩
  obtain ⟨F, h1, h2⟩ := h.wy
  have t : Turn M w1 (w1.drew.setCell ⟨M, 1 + q, none⟩ (.int .u64 ((u q ||| 2 ^ r : Nat) : Int))) := ((Turn.refl M w1).drew).set (1 + q) _
  refine ⟨⟨F, h1.turn t (fun e => h.Mm e.symm), h2⟩, (t.block g (row_lt h.row) (fun e => h.Mg (by simpa using e.symm))).trans h.row, h.own.kept t ?_, h.gB, h.mB, h.gm, h.wg, ?_, h.MB, h.Mg, h.Mm, h.kb.trans (t.below h.MB (Nat.le_trans hB h.kb.size)), h.Ml, fun j a b c => (t.block j (Nat.lt_of_lt_of_le a h.kb.size) (fun e => by have := h.Ml; simp at e; omega)).trans (h.ot j a b c), ?_⟩
  · cases hb : wv.ownBlock with
    | none => exact Or.inl rfl
    | some b => exact Or.inr (fun e => (h.wg b hb).2.2 (by simpa using e))
  · rw [← mrow_set f u q _ hq5]
    exact set_row (w := w1.drew) h.box _
  · intro F hF
    have e : usb (usb u q (u q ||| 2 ^ r)) q (usb u q (u q ||| 2 ^ r) q ||| 2 ^ r) = usb u q (u q ||| 2 ^ r) := by
      funext j
      unfold usb
      by_cases hj : j = q
      · rw [if_pos hj, if_pos rfl, if_pos hj, Nat.or_assoc, Nat.or_self]
      · rw [if_neg hj, if_neg hj]
    rw [e]
    exact h.met F hF
/-- The map is turned. -/
theorem Cm.put {B : Nat} {w W1 : World} {g m M : Nat} {lv wv : Value} {S T : List (Nat × Nat)} {wr i d f q r : Nat} {u : Nat → Nat} (h : Cm B w W1 g m M lv wv S T wr i d f q r u) (hu : (u q ||| 2 ^ r) = u q) (hi : i ≤ 9000000000000000000) (hB : B ≤ w.heap.size) :
    ∃ W2, (Instr.mapUpdate 90 (.map (some m)) (.int .i64 (i : Int)) (.agg #[.int .i64 (f : Int), .int .u64 (u 0 : Nat), .int .u64 (u 1 : Nat), .int .u64 (u 2 : Nat), .int .u64 (u 3 : Nat), .int .u64 (u 4 : Nat)])).run Tryd.prog W1.drew = .ok () W2 ∧ Below B w W2 ∧ (∃ F, MapAt W2 m F ∧ Met F (S ++ [(i, d)]) wr) ∧ W2.heap[g]? = some (.cells [lv, .map (some m), wv, .int .i64 (wr : Int)].toArray 93 (0, 0)) ∧ W2.ownsRow B 95 2 wv T.length (prs T) ∧ m < W2.heap.size ∧ ∀ j, j < w.heap.size → j ≠ g → j ≠ m → W2.heap[j]? = w.heap[j]? := by
  obtain ⟨F, h1, h2⟩ := h.wy
  obtain ⟨W2, hr, hm, ht⟩ := map_put (w := W1.drew) (t := 90) h1 Tryd.underlying90 hi (mv f u)
  have t : Turn m W1 W2 := (Turn.refl m W1).drew.trans ht
  refine ⟨W2, hr, h.kb.trans (t.below h.mB (Nat.le_trans hB h.kb.size)), ⟨_, hm, ?_⟩, (t.block g (row_lt h.row) (fun e => h.gm (by simpa using e))).trans h.row, h.own.kept t ?_, hm.lt, fun j a b c => (t.block j (Nat.lt_of_lt_of_le a h.kb.size) (fun e => c (by simpa using e))).trans (h.ot j a b c)⟩
  · have := h.met F h2
    have e : usb u q (u q) = u := by
      funext j
      unfold usb
      by_cases hj : j = q
      · rw [if_pos hj, hj]
      · rw [if_neg hj]
    rw [hu, e] at this
    exact this
  · cases hb : wv.ownBlock with
    | none => exact Or.inl rfl
    | some b => exact Or.inr (fun e => (h.wg b hb).2.1 (by simpa using e))
/-- The place waits. -/
theorem came_end {B : Nat} {w W2 w3 : World} {g m : Nat} {lv wv v' : Value} {S T : List (Nat × Nat)} {wr i d : Nat} (hB : B ≤ w.heap.size) (gB : B ≤ g) (mB : B ≤ m) (gm : g ≠ m) (wg : ∀ h, wv.ownBlock = some h → h ≠ g ∧ h ≠ m)
    (kb : Below B w W2) (hF : ∃ F, MapAt W2 m F ∧ Met F S wr) (row : W2.heap[g]? = some (.cells [lv, .map (some m), wv, .int .i64 (wr : Int)].toArray 93 (0, 0))) (hm : m < W2.heap.size) (ho : ∀ j, j < w.heap.size → j ≠ g → j ≠ m → W2.heap[j]? = w.heap[j]?) (hwl : ∀ k, wv.ownBlock = some k → B ≤ k ∧ k < W2.heap.size)
    (o : Obj) (h3 : w3.ownsRow B 95 2 v' (T.length + 1) (prs T ++ [.int .i64 (i : Int), .int .i64 (d : Int)])) (hg : (W2.alloc o).grownBy w3 wv.ownBlock) (hat : v'.ownBlock = wv.ownBlock ∨ v'.ownBlock = some (W2.alloc o).heap.size) :
    w3.heap[g]? = some (.cells [lv, .map (some m), wv, .int .i64 (wr : Int)].toArray 93 (0, 0)) ∧ Wy B (w3.setCell ⟨g, 2, none⟩ v') g m lv v' S (T ++ [(i, d)]) wr ∧ Below B w (w3.setCell ⟨g, 2, none⟩ v') ∧ Oth w (w3.setCell ⟨g, 2, none⟩ v') g m wv.ownBlock := by
  obtain ⟨F, hF, hM⟩ := hF
  have gl : g < W2.heap.size := row_lt row
  have k1 : Below W2.heap.size W2 (W2.alloc o) := below_new1 W2 o
  have nb : ∀ j, j < W2.heap.size → some j ≠ wv.ownBlock → w3.heap[j]? = W2.heap[j]? := fun j hj hne => (hg.block j (by simp; omega) hne).trans (k1.block j hj)
  have ng : some g ≠ wv.ownBlock := fun e => (wg g e.symm).1 rfl
  have nm : some m ≠ wv.ownBlock := fun e => (wg m e.symm).2 rfl
  have r3 := (nb g gl ng).trans row
  have kB : Below B w w3 := (kb.trans (k1.mono (Nat.le_trans hB kb.size))).grown hg (by have := kb.size; simp; omega) (fun k hk => (hwl k hk).1)
  have nb' : ∀ h, v'.ownBlock = some h → h ≠ g ∧ h ≠ m := by
    intro h hh
    rcases hat with e | e
    · exact wg h (by rw [← e]; exact hh)
    · rw [e] at hh
      simp only [Option.some.injEq, World.size_alloc] at hh
      omega
  have t : Turn g w3 (w3.setCell ⟨g, 2, none⟩ v') := (Turn.refl g w3).set 2 _
  refine ⟨r3, ⟨set_row r3 _, ?_, ⟨F, (hF.kept (nb m hm nm)).turn t (fun e => gm e.symm), hM⟩, gB, mB, gm, nb'⟩, kB.trans (t.below gB (Nat.le_trans hB kB.size)), fun j a1 a2 a3 a4 => ?_⟩
  rotate_left
  · have hj : j < W2.heap.size := Nat.lt_of_lt_of_le a1 kb.size
    have h3 : j < w3.heap.size := by have := hg.size; simp at this; omega
    exact (t.block j h3 (fun e => a2 (by simpa using e))).trans ((nb j hj a4).trans (ho j a1 a2 a3))
  have h4 : w3.ownsRow B 95 2 v' (T ++ [(i, d)]).length (prs (T ++ [(i, d)])) := by
    rw [List.length_append, prs_app]
    exact h3
  refine h4.kept t ?_
  cases hb : v'.ownBlock with
  | none => exact Or.inl rfl
  | some b => exact Or.inr (fun e => (nb' b hb).1 (by simpa using e))
set_option maxHeartbeats 3200000 in
set_option maxRecDepth 100000 in
theorem come_k3 {B : Nat} {w : World} {g m : Nat} {lv wv : Value} {S T : List (Nat × Nat)} {wr : Nat} (i d q r : Nat) (f : Nat) (u : Nat → Nat) (h : Wy B w g m lv wv S T wr) (hl : (Instr.lookup 90 (.map (some m)) (.int .i64 (i : Int)) true).run Tryd.prog w = .ok (.tuple #[.agg #[.int .i64 (f : Int), .int .u64 (u 0 : Nat), .int .u64 (u 1 : Nat), .int .u64 (u 2 : Nat), .int .u64 (u 3 : Nat), .int .u64 (u 4 : Nat)], .bool true]) w)
    (hf : f ≠ d) (hM : Meet S wr i f u) (hq : d = q * 64 + r) (hr : r < 64) (hq5 : q < 5) (hs : (u q).testBit r = false) (hB : B ≤ w.heap.size) (hi : i ≤ 9000000000000000000) (hd : d ≤ 256) (hT : T.length ≤ 1000000000) :
    Calls Tryd.prog 44 #[.pointer (some ⟨g, 0, none⟩), .int .i64 (i : Int), .int .i64 (d : Int)] w fun e w' => e = .returned (.tuple #[]) ∧ ∃ wv', Wy B w' g m lv wv' (S ++ [(i, d)]) (T ++ [(i, d)]) (min wr i) ∧ Below B w w' ∧ Oth w w' g m wv.ownBlock := by
  have c1 := h.c1
  have hu := hM.sm q
  have e1 : (d : Int) / 64 = (q : Int) := by omega
  have e1n : d / 64 = q := by omega
  have e2 : (d : Int) % 64 = (r : Int) := by omega
  have e2n : d % 64 = r := by omega
  have e3n : r % 64 = r := by omega
  have q5 : (q : Int) < 5 := by omega
  have e4 := pow_wrap hr
  have tb := bit_no hu hr hs
  have hb : ((d : Int) != (f : Int)) = true := by rw [bne_iff_ne]; omega
  have FC : Hid (Calls Tryd.prog 58 #[.pointer (some ⟨g, 0, none⟩), .int .i64 (i : Int)] (w.alloc (.cells #[.int .i64 (f : Int), .int .u64 (u 0 : Nat), .int .u64 (u 1 : Nat), .int .u64 (u 2 : Nat), .int .u64 (u 3 : Nat), .int .u64 (u 4 : Nat)] 101)) fun e w' => e = .returned (.tuple #[]) ∧ Cm B w w' g m w.heap.size lv wv S T (min wr i) i d f q r u) := by
    have hn := h.row_ne
    refine (fail_c i (h.below (below_new1 w _))).mono ?_
    rintro e w' ⟨rfl, hw, ht⟩
    refine ⟨rfl, hw.map, hw.row, hw.own, hw.gB, hw.mB, hw.gm, fun b hb => ⟨(hw.wg b hb).1, (hw.wg b hb).2, fun e => by have := (h.own.lt b hb).2; omega⟩, ?_, hB, fun e => hn.2 e.symm, fun e => hn.1 e.symm, ((below_new1 w _).mono hB).trans (ht.below h.gB (by simp; omega)), Nat.le_refl _, fun j a b _ => (ht.block j (by simp; omega) (fun e => b (by simpa using e))).trans ((below_new1 w _).block j a), fun F hF => hF.put (Nat.le_refl _) ?_⟩
    · rw [ht.block _ (by simp) (fun e => hn.2 (by simpa using e.symm))]
      exact alloc_row w (mrow f u) 101
    · exact hM.add hd hq hr (Nat.min_le_left ..) (fun _ => Nat.min_le_right ..)
  obtain ⟨M, hMM⟩ : ∃ M, M = w.heap.size := ⟨_, rfl⟩
  have HQ := hid_as hq
  clear h hq hs hM
  go_enter Tryd.func44, Tryd.ntmps44
  go_upto_region 5 with (go_at_call 58; refine FC.out.mono ?_; rintro e w1 ⟨rfl, hc1⟩)
  have CM := hid_as hc1
  clear hc1 FC
  rw [← hMM] at CM ⊢
  clear hMM
  obtain ⟨x, hx⟩ : ∃ x, x = u q ||| 2 ^ r := ⟨_, rfl⟩
  obtain ⟨W1, hW1, C1⟩ := CM.out.set hq5 hB x hx
  obtain ⟨W2, hput, kb2, hF2, row2, own2, ml2, ot2⟩ := C1.put (by show usb u q x q ||| 2 ^ r = usb u q x q; unfold usb; rw [if_pos rfl, hx, Nat.or_assoc, Nat.or_self]) hi hB
  have cq : w1.cell? ⟨M, 1 + q, none⟩ = some (.int .u64 (u q : Nat)) := cell_row (l := mrow f u) CM.out.box (mrow_at f u q hq5)
  have cf : ∀ k, w1.frozen? ⟨M, k, none⟩ = false := fun k => frozen_row CM.out.box
  have hor := or_64 hu (pow_small hr)
  rw [← hx] at hor
  have d0 : W1.cell? ⟨M, 0, none⟩ = some (.int .i64 (f : Nat)) := cell_row (k := 0) C1.box rfl
  have d1 : W1.cell? ⟨M, 1, none⟩ = some (.int .u64 (usb u q x 0 : Nat)) := cell_row (k := 1) C1.box rfl
  have d2 : W1.cell? ⟨M, 2, none⟩ = some (.int .u64 (usb u q x 1 : Nat)) := cell_row (k := 2) C1.box rfl
  have d3 : W1.cell? ⟨M, 3, none⟩ = some (.int .u64 (usb u q x 2 : Nat)) := cell_row (k := 3) C1.box rfl
  have d4 : W1.cell? ⟨M, 4, none⟩ = some (.int .u64 (usb u q x 3 : Nat)) := cell_row (k := 4) C1.box rfl
  have d5 : W1.cell? ⟨M, 5, none⟩ = some (.int .u64 (usb u q x 4 : Nat)) := cell_row (k := 5) C1.box rfl
  have dg : W1.cell? ⟨g, 1, none⟩ = some (.map (some m)) := cell_row (k := 1) C1.row rfl
  have g2 : W2.cell? ⟨g, 2, none⟩ = some wv := cell_row (k := 2) row2 rfl
  obtain ⟨wa, wn, wc, hwv⟩ : ∃ wa wn wc, wv = .slice wa wn wc := by
    rcases own2.2 with ⟨h', _⟩ | ⟨b, cap, cur, h', _⟩
    · exact ⟨_, _, _, h'⟩
    · exact ⟨_, _, _, h'⟩
  have WE := hid_as hwv
  have OW := hid_as own2
  have R2 := hid_as (And.intro CM.out.gB (And.intro CM.out.mB (And.intro CM.out.gm (And.intro (fun h hh => And.intro (CM.out.wg h hh).1 (CM.out.wg h hh).2.1) (And.intro kb2 (And.intro hF2 (And.intro row2 (And.intro ml2 ot2))))))))
  clear C1 kb2 hF2 row2 own2 ml2 ot2 CM hx hwv
  generalize usb u q x 0 = y0 at *
  generalize usb u q x 1 = y1 at *
  generalize usb u q x 2 = y2 at *
  generalize usb u q x 3 = y3 at *
  generalize usb u q x 4 = y4 at *
  generalize 2 ^ r = pw at *
  generalize u q = uq at *
  go_region
  go_upto_region 8 with fail
  go_region
  go_upto_region 9 with fail
  obtain ⟨i0, hi0, hz0, hz1, hz2⟩ := info_parts Tryd.infoState
  go_wp2_with (at_builtin; go_must (refine wpList_append_own_at _ rfl _ _ 91 rfl B 95 i0 (.agg #[.int .i64 0, .int .i64 0]) 2 16 Tryd.underlying91 hi0 hz0 hz1 hz2 rfl (by decide) _ T.length _ rfl (OW.out.alloc _) _ 1 1 [.int .i64 (i : Int), .int .i64 (d : Int)] rfl rfl (pair_cells _ _ _ _) (one_pair _ _) (by unfold maxLen; omega) (by omega) (by have := R2.out.2.2.2.2.1.size; simp; omega) ?_); intro v' w3 hown hgrow _ hat; obtain ⟨va, vc, hv⟩ := own_shapeS hown; subst hv; have E := came_end (w := w) (i := i) (d := d) hB R2.out.1 R2.out.2.1 R2.out.2.2.1 R2.out.2.2.2.1 R2.out.2.2.2.2.1 R2.out.2.2.2.2.2.1 R2.out.2.2.2.2.2.2.1 R2.out.2.2.2.2.2.2.2.1 R2.out.2.2.2.2.2.2.2.2 OW.out.lt _ hown hgrow hat; have g2' := cell_row (k := 2) E.1 rfl; have gf' := fun k => frozen_row (k := k) E.1; have EN := hid_as E.2; clear E hown hgrow hat)
  go_wp2
  go_end0
  exact ⟨rfl, _, EN.out⟩

set_option maxHeartbeats 3200000 in
set_option maxRecDepth 100000 in
theorem come_k4 {B : Nat} {w : World} {g m : Nat} {lv wv : Value} {S T : List (Nat × Nat)} {wr : Nat} (i d q r : Nat) (h : Wy B w g m lv wv S T wr) (hl : (Instr.lookup 90 (.map (some m)) (.int .i64 (i : Int)) true).run Tryd.prog w = .ok (.tuple #[.agg #[.int .i64 0, .int .u64 0, .int .u64 0, .int .u64 0, .int .u64 0, .int .u64 0], .bool false]) w)
    (hM : ∀ e, (i, e) ∉ S) (hq : d = q * 64 + r) (hr : r < 64) (hq5 : q < 5) (hB : B ≤ w.heap.size) (hi : i ≤ 9000000000000000000) (hd : d ≤ 256) (hT : T.length ≤ 1000000000) :
    Calls Tryd.prog 44 #[.pointer (some ⟨g, 0, none⟩), .int .i64 (i : Int), .int .i64 (d : Int)] w fun e w' => e = .returned (.tuple #[]) ∧ ∃ wv', Wy B w' g m lv wv' (S ++ [(i, d)]) (T ++ [(i, d)]) wr ∧ Below B w w' ∧ Oth w w' g m wv.ownBlock := by
  have c1 := h.c1
  have e1 : (d : Int) / 64 = (q : Int) := by omega
  have e1n : d / 64 = q := by omega
  have e2 : (d : Int) % 64 = (r : Int) := by omega
  have e2n : d % 64 = r := by omega
  have e3n : r % 64 = r := by omega
  have q5 : (q : Int) < 5 := by omega
  have e4 := pow_wrap hr
  obtain ⟨u, hu0⟩ : ∃ u : Nat → Nat, u = fun _ => 0 := ⟨_, rfl⟩
  have hu : u q < 18446744073709551616 := by rw [hu0]; exact (by decide : (0 : Nat) < 18446744073709551616)
  have tb := bit_no hu hr (by rw [hu0]; exact Nat.zero_testBit r)
  have hb : ((d : Int) != (d : Int)) = false := by simp
  obtain ⟨w1, hw1⟩ : ∃ w1, (w.alloc (.cells #[.int .i64 0, .int .u64 0, .int .u64 0, .int .u64 0, .int .u64 0, .int .u64 0] 101)).setCell ⟨w.heap.size, 0, none⟩ (.int .i64 (d : Int)) = w1 := ⟨_, rfl⟩
  have CM : Hid (Cm B w w1 g m w.heap.size lv wv S T wr i d d q r u) := by
    have hn := h.row_ne
    have a0 : (w.alloc (.cells #[.int .i64 0, .int .u64 0, .int .u64 0, .int .u64 0, .int .u64 0, .int .u64 0] 101)).heap[w.heap.size]? = some (.cells (mrow 0 u).toArray 101 (0, 0)) := by rw [hu0]; exact alloc_row w (mrow 0 (fun _ => 0)) 101
    have k1 := below_new1 w (.cells #[.int .i64 0, .int .u64 0, .int .u64 0, .int .u64 0, .int .u64 0, .int .u64 0] 101)
    have t : Turn w.heap.size (w.alloc (.cells #[.int .i64 0, .int .u64 0, .int .u64 0, .int .u64 0, .int .u64 0, .int .u64 0] 101)) w1 := by rw [← hw1]; exact (Turn.refl _ _).set 0 _
    have hw := h.below (k1.trans (t.below (Nat.le_refl _) k1.size))
    refine ⟨hw.map, hw.row, hw.own, hw.gB, hw.mB, hw.gm, fun b hb => ⟨(hw.wg b hb).1, (hw.wg b hb).2, fun e => by have := (h.own.lt b hb).2; omega⟩, ?_, hB, fun e => hn.2 e.symm, fun e => hn.1 e.symm, (k1.mono hB).trans (t.below hB (Nat.le_trans hB k1.size)), Nat.le_refl _, fun j a _ _ => (t.block j (by simp; omega) (fun e => by simp at e; omega)).trans (k1.block j a), fun F hF => hF.put (Nat.le_refl _) ?_⟩
    · rw [← hw1]
      exact set_row a0 _
    · rw [hu0]
      exact Meet.new hM hd hq hr
  obtain ⟨M, hMM⟩ : ∃ M, M = w.heap.size := ⟨_, rfl⟩
  have HQ := hid_as hq
  clear h hq hM hu0
  have z0 : w1.cell? ⟨w.heap.size, 0, none⟩ = some (.int .i64 (d : Int)) := cell_row (k := 0) CM.out.box rfl
  go_enter Tryd.func44, Tryd.ntmps44
  go_upto_region 5 with fail
  rw [← hMM] at CM ⊢
  clear hMM hw1
  obtain ⟨x, hx⟩ : ∃ x, x = u q ||| 2 ^ r := ⟨_, rfl⟩
  obtain ⟨W1, hW1, C1⟩ := CM.out.set hq5 hB x hx
  obtain ⟨W2, hput, kb2, hF2, row2, own2, ml2, ot2⟩ := C1.put (by show usb u q x q ||| 2 ^ r = usb u q x q; unfold usb; rw [if_pos rfl, hx, Nat.or_assoc, Nat.or_self]) hi hB
  have cq : w1.cell? ⟨M, 1 + q, none⟩ = some (.int .u64 (u q : Nat)) := cell_row (l := mrow d u) CM.out.box (mrow_at d u q hq5)
  have cf : ∀ k, w1.frozen? ⟨M, k, none⟩ = false := fun k => frozen_row CM.out.box
  have hor := or_64 hu (pow_small hr)
  rw [← hx] at hor
  have d0 : W1.cell? ⟨M, 0, none⟩ = some (.int .i64 (d : Nat)) := cell_row (k := 0) C1.box rfl
  have d1 : W1.cell? ⟨M, 1, none⟩ = some (.int .u64 (usb u q x 0 : Nat)) := cell_row (k := 1) C1.box rfl
  have d2 : W1.cell? ⟨M, 2, none⟩ = some (.int .u64 (usb u q x 1 : Nat)) := cell_row (k := 2) C1.box rfl
  have d3 : W1.cell? ⟨M, 3, none⟩ = some (.int .u64 (usb u q x 2 : Nat)) := cell_row (k := 3) C1.box rfl
  have d4 : W1.cell? ⟨M, 4, none⟩ = some (.int .u64 (usb u q x 3 : Nat)) := cell_row (k := 4) C1.box rfl
  have d5 : W1.cell? ⟨M, 5, none⟩ = some (.int .u64 (usb u q x 4 : Nat)) := cell_row (k := 5) C1.box rfl
  have dg : W1.cell? ⟨g, 1, none⟩ = some (.map (some m)) := cell_row (k := 1) C1.row rfl
  have g2 : W2.cell? ⟨g, 2, none⟩ = some wv := cell_row (k := 2) row2 rfl
  obtain ⟨wa, wn, wc, hwv⟩ : ∃ wa wn wc, wv = .slice wa wn wc := by
    rcases own2.2 with ⟨h', _⟩ | ⟨b, cap, cur, h', _⟩
    · exact ⟨_, _, _, h'⟩
    · exact ⟨_, _, _, h'⟩
  have WE := hid_as hwv
  have OW := hid_as own2
  have R2 := hid_as (And.intro CM.out.gB (And.intro CM.out.mB (And.intro CM.out.gm (And.intro (fun h hh => And.intro (CM.out.wg h hh).1 (CM.out.wg h hh).2.1) (And.intro kb2 (And.intro hF2 (And.intro row2 (And.intro ml2 ot2))))))))
  clear C1 kb2 hF2 row2 own2 ml2 ot2 CM hx hwv
  generalize usb u q x 0 = y0 at *
  generalize usb u q x 1 = y1 at *
  generalize usb u q x 2 = y2 at *
  generalize usb u q x 3 = y3 at *
  generalize usb u q x 4 = y4 at *
  generalize 2 ^ r = pw at *
  generalize u q = uq at *
  go_region
  go_upto_region 8 with fail
  go_region
  go_upto_region 9 with fail
  obtain ⟨i0, hi0, hz0, hz1, hz2⟩ := info_parts Tryd.infoState
  go_wp2_with (at_builtin; go_must (refine wpList_append_own_at _ rfl _ _ 91 rfl B 95 i0 (.agg #[.int .i64 0, .int .i64 0]) 2 16 Tryd.underlying91 hi0 hz0 hz1 hz2 rfl (by decide) _ T.length _ rfl (OW.out.alloc _) _ 1 1 [.int .i64 (i : Int), .int .i64 (d : Int)] rfl rfl (pair_cells _ _ _ _) (one_pair _ _) (by unfold maxLen; omega) (by omega) (by have := R2.out.2.2.2.2.1.size; simp; omega) ?_); intro v' w3 hown hgrow _ hat; obtain ⟨va, vc, hv⟩ := own_shapeS hown; subst hv; have E := came_end (w := w) (i := i) (d := d) hB R2.out.1 R2.out.2.1 R2.out.2.2.1 R2.out.2.2.2.1 R2.out.2.2.2.2.1 R2.out.2.2.2.2.2.1 R2.out.2.2.2.2.2.2.1 R2.out.2.2.2.2.2.2.2.1 R2.out.2.2.2.2.2.2.2.2 OW.out.lt _ hown hgrow hat; have g2' := cell_row (k := 2) E.1 rfl; have gf' := fun k => frozen_row (k := k) E.1; have EN := hid_as E.2; clear E hown hgrow hat)
  go_wp2
  go_end0
  exact ⟨rfl, _, EN.out⟩

/-- What coming to a place does. -/
structure Came (q : Nat × Nat) (S T : List (Nat × Nat)) (wr : Nat) (S' T' : List (Nat × Nat)) (wr' : Nat) : Prop where
  old : q ∈ S → S' = S ∧ T' = T
  new : q ∉ S → S' = S ++ [q] ∧ T' = T ++ [q]
  wr : wr' = wr ∨ (wr' = min wr q.1 ∧ ∃ e, (q.1, e) ∈ S ∧ e ≠ q.2)
theorem zero_meet (w : World) : (zeroValue 101).run Tryd.prog w = .ok (.agg #[.int .i64 0, .int .u64 0, .int .u64 0, .int .u64 0, .int .u64 0, .int .u64 0]) w := by kernel_rfl
theorem come_c {B : Nat} {w : World} {g m : Nat} {lv wv : Value} {S T : List (Nat × Nat)} {wr : Nat} (i d : Nat) (h : Wy B w g m lv wv S T wr) (hB : B ≤ w.heap.size) (hi : i ≤ 9000000000000000000) (hd : d ≤ 256) (hT : T.length ≤ 1000000000) :
    Calls Tryd.prog 44 #[.pointer (some ⟨g, 0, none⟩), .int .i64 (i : Int), .int .i64 (d : Int)] w fun e w' => e = .returned (.tuple #[]) ∧ ∃ wv' S' T' wr', Wy B w' g m lv wv' S' T' wr' ∧ Came (i, d) S T wr S' T' wr' ∧ Below B w w' ∧ Oth w w' g m wv.ownBlock := by
  obtain ⟨F, hF, hM⟩ := h.map
  have look := map_look (w := w) (t := 90) hF Tryd.underlying90 (zero_meet w) hi
  have hq : d = (d / 64) * 64 + d % 64 := by omega
  have hr : d % 64 < 64 := Nat.mod_lt _ (by decide)
  have hq5 : d / 64 < 5 := by omega
  rcases hM i with ⟨h0, hn⟩ | ⟨f, u, h1, hm⟩
  · rw [h0] at look
    refine (come_k4 i d (d / 64) (d % 64) h look hn hq hr hq5 hB hi hd hT).mono ?_
    rintro e w' ⟨rfl, wv', hw, hb⟩
    exact ⟨rfl, wv', _, _, _, hw, ⟨fun k => absurd k (hn d), fun _ => ⟨rfl, rfl⟩, Or.inl rfl⟩, hb⟩
  · rw [h1] at look
    cases hs : (u (d / 64)).testBit (d % 64) with
    | true =>
      have hin := (hm.bit d hd).1 hs
      by_cases hf : f = d
      · refine (come_k1 i d (d / 64) (d % 64) f u h look hf (hm.sm _) hq hr hq5 hs).mono ?_
        rintro e w' ⟨rfl, hb⟩
        exact ⟨rfl, wv, _, _, _, h.below hb, ⟨fun _ => ⟨rfl, rfl⟩, fun k => absurd hin k, Or.inl rfl⟩, hb.mono hB, Oth.below hb⟩
      · refine (come_k2 i d (d / 64) (d % 64) f u h look hf (hm.sm _) hq hr hq5 hs hB).mono ?_
        rintro e w' ⟨rfl, hw, hb⟩
        exact ⟨rfl, wv, _, _, _, hw, ⟨fun _ => ⟨rfl, rfl⟩, fun k => absurd hin k, Or.inr ⟨rfl, f, hm.fm, hf⟩⟩, hb⟩
    | false =>
      have hin : (i, d) ∉ S := fun k => by rw [(hm.bit d hd).2 k] at hs; cases hs
      have hf : f ≠ d := fun e => hin (e ▸ hm.fm)
      refine (come_k3 i d (d / 64) (d % 64) f u h look hf hm hq hr hq5 hs hB hi hd hT).mono ?_
      rintro e w' ⟨rfl, wv', hw, hb⟩
      exact ⟨rfl, wv', _, _, _, hw, ⟨fun k => absurd k hin, fun _ => ⟨rfl, rfl⟩, Or.inr ⟨rfl, f, hm.fm, hf⟩⟩, hb⟩
end Go.Proofs.YtkknfolahfmghaaDoor
