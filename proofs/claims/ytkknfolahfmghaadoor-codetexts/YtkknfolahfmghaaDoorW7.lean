/- The walks of depths, Verify, Depths (stage 20). -/
import Derived.Test.YtkknfolahfmghaaDoorW6
import Derived.Test.YtkknfolahfmghaaDoorP1
namespace Go.Proofs.YtkknfolahfmghaaDoor
open Go.RowKit
open Fb Cod
abbrev RowI (w : World) (g : Nat) (l : List Int) : Prop := w.heap[g]? = some (.cells (i64s l).toArray 3 (0, 0))
theorem Tryd.infoInt : (Tryd.prog.info? 3).map (fun i => (i.zero, i.size, i.bytes)) = some (some (.int .i64 0), 1, 8) := by kernel_rfl
theorem mk_int (W : World) (n : Nat) (hn : n ≤ 1000000) : ∃ W', (Instr.makeSlice 22 (.int .i64 (n : Int)) (.int .i64 (n : Int))).run Tryd.prog W = .ok (.slice (some ⟨W.heap.size, 0, none⟩) n n) W' ∧ RowI W' W.heap.size (List.replicate n 0) ∧ Below W.heap.size W W' ∧ W'.heap.size = W.heap.size + 1 := by
  obtain ⟨i0, hi0, hz0, hz1, hz2⟩ := info_parts Tryd.infoInt
  have h := run_make (P := Tryd.prog) W 22 3 i0 (.int .i64 0) Tryd.underlying22 hi0 hz0 .i64 .i64 n n (by omega) (by omega) (by rw [hz2]; omega) (by omega)
  rw [hz1] at h
  simp only [Int.toNat_natCast, Nat.mul_one] at h
  refine ⟨_, h, ?_, below_new (Below.refl _ W) _, World.size_alloc ..⟩
  have e : madeCells (Value.cells (.int .i64 0)) n = (i64s (List.replicate n 0)).toArray := by
    apply Array.ext'
    rw [show Value.cells (.int .i64 0) = #[.int .i64 0] from rfl, toList_madeCells_one]
    simp [i64s]
  have r := heap_alloc_new W (.cells (i64s (List.replicate n 0)).toArray 3)
  rw [← e] at r
  rw [e] at r ⊢
  exact r
namespace Cod
/-- The first depth that a map tells of a place; -1, if it tells none. -/
def dpt (F : Nat → Option Value) (j : Nat) : Int := match F j with
  | some (Value.agg cs) => (match cs[0]? with
    | some (Value.int _ a) => a
    | _ => -1)
  | _ => -1
def dps (F : Nat → Option Value) (n : Nat) : List Int := (List.range n).map (dpt F)
theorem dps_len (F : Nat → Option Value) (n : Nat) : (dps F n).length = n := by simp [dps]
theorem dps_at (F : Nat → Option Value) (n j : Nat) (h : j < n) : (dps F n)[j]? = some (dpt F j) := by simp [dps, List.getElem?_range h]
theorem dps_getD (F : Nat → Option Value) (n j : Nat) (h : j < n) : (dps F n).getD j 0 = dpt F j := by rw [List.getD_eq_getElem?_getD, dps_at F n j h]; rfl
end Cod
theorem dpt_mv {F : Nat → Option Value} {j f : Nat} {u : Nat → Nat} (h : F j = some (mv f u)) : dpt F j = (f : Int) := by unfold dpt; rw [h]; rfl
theorem dpt_no {F : Nat → Option Value} {j : Nat} (h : F j = none) : dpt F j = -1 := by unfold dpt; rw [h]
theorem dps_ok {F : Nat → Option Value} {S : List (Nat × Nat)} {L : List Ins} (hM : Met F S L.length) (hI : Inv L S [] nox L.length) : Dps L (dps F L.length) := by
  refine ⟨dps_len _ _, fun i d hi hr => ?_, fun i hi hn => ?_⟩
  · rw [dps_at F _ i hi]
    rcases hM i with ⟨_, h⟩ | ⟨f, u, h1, h2⟩
    · exact absurd ((hI.all _).2 hr) (h d)
    · rw [dpt_mv h1]
      by_cases e : d = f
      · rw [e]
      · have := h2.two d ((hI.all _).2 hr) e
        omega
  · rw [dps_at F _ i hi]
    rcases hM i with ⟨h, _⟩ | ⟨f, u, h1, h2⟩
    · rw [dpt_no h]
    · exact absurd ((hI.all _).1 h2.fm) (hn f)
/-- While the depths are written. -/
structure Dq (B : Nat) (w wr : World) (g m h : Nat) (la : Option Addr) (n lc : Nat) (wv : Value) (F : Nat → Option Value) (k : Nat) : Prop where
  row : wr.heap[g]? = some (.cells [.slice la n lc, .map (some m), wv, .int .i64 (n : Int)].toArray 93 (0, 0))
  map : MapAt wr m F
  ds : RowI wr h (part (dps F n) k)
  hg : h ≠ g
  hm : h ≠ m
  hB : w.heap.size ≤ h
  kb : Below w.heap.size w wr
theorem Dq.next {B : Nat} {w wr u : World} {g m h : Nat} {la : Option Addr} {n lc : Nat} {wv : Value} {F : Nat → Option Value} {k : Nat} (q : Dq B w wr g m h la n lc wv F k) (t : Turn h wr u) (r : RowI u h (part (dps F n) (k + 1))) : Dq B w u g m h la n lc wv F (k + 1) :=
  ⟨(t.block g (row_lt q.row) (fun e => q.hg (by simpa using e.symm))).trans q.row, q.map.turn t (fun e => q.hm e.symm), r, q.hg, q.hm, q.hB, q.kb.trans (t.below q.hB q.kb.size)⟩
set_option maxHeartbeats 1600000 in
set_option maxRecDepth 100000 in
theorem depths_c {B : Nat} {w : World} {g m : Nat} {la : Option Addr} {n lc : Nat} {wv : Value} {L : List Ins} {S : List (Nat × Nat)} (h : Wy B w g m (.slice la n lc) wv S [] n) (hI : Inv L S [] nox n) (hn : n = L.length) (n9 : n ≤ 1000000) :
    Calls Tryd.prog 25 #[.pointer (some ⟨g, 0, none⟩)] w fun e w' => ∃ ds, e = .returned (.slice (some ⟨w.heap.size, 0, none⟩) n n) ∧ RowI w' w.heap.size ds ∧ Dps L ds ∧ Below w.heap.size w w' := by
  obtain ⟨F, hF, hM⟩ := h.map
  obtain ⟨w1, hrun, hrow, hB, hsz⟩ := mk_int w n n9
  have c0 := h.c0
  have Q0 : Hid (Dq B w w1 g m w.heap.size la n lc wv F 0) := by
    refine ⟨(hB.block g h.glt).trans h.row, hF.below hB, ?_, fun e => by have := h.glt; omega, fun e => by have := hF.lt; omega, Nat.le_refl _, hB⟩
    rw [part_zero, dps_len]
    exact hrow
  have DO : Hid (Dps L (dps F n)) := by
    subst hn
    exact dps_ok hM hI
  have MM := hid_as hM
  have HI : Hid (∀ j, (∃ f u, F j = some (mv f u)) ∨ F j = none) := fun j => by
    rcases hM j with ⟨h, _⟩ | ⟨f, u, h1, _⟩
    · exact Or.inr h
    · exact Or.inl ⟨f, u, h1⟩
  generalize hh : w.heap.size = hb at *
  have HH := hid_as hh
  clear hh
  have HN := hid_as hn
  clear h hI hM hrow hB hsz hF hn
  go_enter Tryd.func25, Tryd.ntmps25
  go_wp2
  go_loopw [15] (fun i wr => ∃ k : Nat, k ≤ n ∧ i = .int .i64 k ∧ Dq B w wr g m hb la n lc wv F k) (fun i _ => n - (intOf i).toNat)
  case atStart => exact ⟨0, by omega, rfl, Q0.out⟩
  case round =>
    obtain ⟨k, hk, rfl, hq⟩ := hrel
    have Q := hid_as hq
    clear hq Q0
    by_cases hkn : k < n
    · have hk2 : (k : Int) < (n : Int) := by omega
      have kl : k < (dps F n).length := by rw [dps_len]; exact hkn
      have hkv : ∃ z, (i64s (part (dps F n) k))[k]? = some (.int .i64 z) := ⟨_, i64s_at _ k (by rw [part_len]; exact kl)⟩
      obtain ⟨z, hz⟩ := hkv
      have ck : wr.cell? ⟨hb, k, none⟩ = some (.int .i64 z) := cell_row Q.out.ds hz
      have fk : wr.frozen? ⟨hb, k, none⟩ = false := frozen_row Q.out.ds
      have c1 : wr.cell? ⟨g, 1, none⟩ = some (.map (some m)) := cell_row (k := 1) Q.out.row rfl
      obtain ⟨W1, hW1⟩ : ∃ W1, wr.setCell ⟨hb, k, none⟩ (.int .i64 (-1)) = W1 := ⟨_, rfl⟩
      have t1 : Turn hb wr W1 := by rw [← hW1]; exact (Turn.refl hb wr).set k _
      have r1 : RowI W1 hb ((part (dps F n) k).set k (-1)) := by
        rw [← hW1]
        show _ = _
        rw [i64s_set]
        exact set_row Q.out.ds _
      have c1' : W1.cell? ⟨g, 1, none⟩ = some (.map (some m)) := (World.cell?_of_block (w := wr) (a := ⟨g, 1, none⟩) (t1.block g (row_lt Q.out.row) (fun e => Q.out.hg (by simpa using e.symm)))).trans c1
      have lk := map_look (w := W1) (t := 90) (Q.out.map.turn t1 (fun e => Q.out.hm e.symm)) Tryd.underlying90 (zero_meet W1) (k := k) (by omega)
      have gd := dps_getD F n k hkn
      rcases HI.out k with ⟨f, u, hf⟩ | hf
      · rw [hf] at lk
        rw [dpt_mv hf] at gd
        have hl : (Instr.lookup 90 (.map (some m)) (.int .i64 (k : Int)) true).run Tryd.prog W1 = .ok (.tuple #[.agg #[.int .i64 (f : Int), .int .u64 (u 0 : Nat), .int .u64 (u 1 : Nat), .int .u64 (u 2 : Nat), .int .u64 (u 3 : Nat), .int .u64 (u 4 : Nat)], .bool true]) W1 := lk
        have k2 := below_new1 W1 (.cells #[.int .i64 (f : Int), .int .u64 (u 0 : Nat), .int .u64 (u 1 : Nat), .int .u64 (u 2 : Nat), .int .u64 (u 3 : Nat), .int .u64 (u 4 : Nat)] 101)
        have ck2 := keep_cell k2 (cell_row (k := k) r1 (i64s_at _ k (by rw [List.length_set, part_len]; exact kl)))
        have fk2 : (W1.alloc (.cells #[.int .i64 (f : Int), .int .u64 (u 0 : Nat), .int .u64 (u 1 : Nat), .int .u64 (u 2 : Nat), .int .u64 (u 3 : Nat), .int .u64 (u 4 : Nat)] 101)).frozen? ⟨hb, k, none⟩ = false := frozen_row ((k2.block hb (row_lt r1)).trans r1)
        have NX : Hid (Dq B w ((W1.alloc (.cells #[.int .i64 (f : Int), .int .u64 (u 0 : Nat), .int .u64 (u 1 : Nat), .int .u64 (u 2 : Nat), .int .u64 (u 3 : Nat), .int .u64 (u 4 : Nat)] 101)).setCell ⟨hb, k, none⟩ (.int .i64 (f : Int))) g m hb la n lc wv F (k + 1)) := by
          refine Q.out.next (t1.trans ((Turn.ofBelow k2).trans ((Turn.refl hb _).set k _))) ?_
          have r2 : RowI (W1.alloc (.cells #[.int .i64 (f : Int), .int .u64 (u 0 : Nat), .int .u64 (u 1 : Nat), .int .u64 (u 2 : Nat), .int .u64 (u 3 : Nat), .int .u64 (u 4 : Nat)] 101)) hb ((part (dps F n) k).set k (-1)) := (k2.block hb (row_lt r1)).trans r1
          have r3 := set_row (k := k) r2 (.int .i64 (f : Int))
          rw [← i64s_set, List.set_set, ← gd, part_next _ k kl] at r3
          rw [gd] at r3
          exact r3
        clear lk gd hf t1 r1 k2 hz kl Q
        go_wp2
        go_roundw
        case rel => exact ⟨k + 1, by omega, by go_num, NX.out⟩
        case measure => simp [intOf]; omega
      · rw [hf] at lk
        rw [dpt_no hf] at gd
        have hl : (Instr.lookup 90 (.map (some m)) (.int .i64 (k : Int)) true).run Tryd.prog W1 = .ok (.tuple #[.agg #[.int .i64 0, .int .u64 0, .int .u64 0, .int .u64 0, .int .u64 0, .int .u64 0], .bool false]) W1 := lk
        have NX : Hid (Dq B w (W1.alloc (.cells #[.int .i64 0, .int .u64 0, .int .u64 0, .int .u64 0, .int .u64 0, .int .u64 0] 101)) g m hb la n lc wv F (k + 1)) := by
          refine Q.out.next (t1.alloc _) ?_
          have e : (part (dps F n) k).set k (-1) = part (dps F n) (k + 1) := by rw [← gd]; exact part_next _ k kl
          rw [← e]
          exact ((below_new1 W1 _).block hb (row_lt r1)).trans r1
        clear lk gd hf t1 r1 hz kl Q
        go_wp2
        go_roundw
        case rel => exact ⟨k + 1, by omega, by go_num, NX.out⟩
        case measure => simp [intOf]; omega
    · obtain rfl : k = n := by omega
      go_wp2
      go_ret
      refine ⟨dps F k, rfl, ?_, DO.out, by have := Q.out.kb; rw [HH.out] at this; exact this⟩
      have := Q.out.ds
      rwa [part_all _ _ (by rw [dps_len]; exact Nat.le_refl _)] at this
theorem Err.mono {w w1 : World} {r : Option Nat} {v : Value} {w' : World} (h : Err w1 r v w') (k : w.heap.size ≤ w1.heap.size) : Err w r v w' := by
  cases r with
  | none => exact h
  | some a =>
    obtain ⟨g, h1, h2, h3⟩ := h
    exact ⟨g, h1, Nat.le_trans k h2, h3⟩
theorem two_inj {a b c d : Value} (h : Ending.returned (.tuple #[a, b]) = .returned (.tuple #[c, d])) : a = c ∧ b = d := by
  simpa using h
/-- What goAllWays hands back has two parts. -/
theorem all_shape {w : World} {la : Option Addr} {n lc : Nat} {K : List Int} {L : List Ins} {e : Ending} {w' : World} (h : AllW w la n lc K L e w') : ∃ p v, e = .returned (.tuple #[p, v]) ∧ ((∃ k, Ver K L (some k) ∧ p = .pointer none ∧ Err w (some k) v w') ∨ (Ver K L none ∧ v = .nilIface ∧ ∃ g m wv S, p = .pointer (some ⟨g, 0, none⟩) ∧ Wy w.heap.size w' g m (.slice la n lc) wv S [] n ∧ Inv L S [] nox n)) := by
  rcases h with ⟨k, v, hV, rfl, hE⟩ | ⟨hV, _, g, m, wv, S, rfl, hw, hi⟩
  · exact ⟨_, _, rfl, Or.inl ⟨k, hV, rfl, hE⟩⟩
  · exact ⟨_, _, rfl, Or.inr ⟨hV, rfl, g, m, wv, S, rfl, hw, hi⟩⟩
/-- An error, or none, of this answer. -/
theorem verify_c {w : World} {va : Option Addr} {kn kc : Nat} {la : Option Addr} {n lc : Nat} {K : List Int} {L : List Ins} (h : Cd w va kn kc la n lc K L) (hT : Tabs w) :
    Calls Tryd.prog 13 #[.agg #[.slice va kn kc, .slice la n lc]] w fun e w' => (∃ r v, Ver K L r ∧ e = .returned v ∧ Err w r v w') ∧ Below w.heap.size w w' := by
  have K1 := below_new1 w (.cells #[.slice va kn kc, .slice la n lc] 25)
  have GA := hid_as (goAll_c (h.below K1) (hT.below K1))
  have KB := hid_as K1
  clear K1
  clear h hT
  go_enter Tryd.func13, Tryd.ntmps13
  go_wp2_with (go_at_call 24; refine GA.out.mono ?_; rintro e w2 ⟨hA, b2⟩; obtain ⟨p, v, rfl, hq⟩ := all_shape hA; clear hA)
  go_ret
  refine ⟨?_, below_and KB.out b2⟩
  rcases hq with ⟨k, hV, _, hE⟩ | ⟨hV, rfl, _⟩
  · exact ⟨_, _, hV, rfl, hE.mono KB.out.size⟩
  · exact ⟨_, _, hV, rfl, rfl⟩
set_option maxHeartbeats 800000 in
theorem Depths_c {w : World} {va : Option Addr} {kn kc : Nat} {la : Option Addr} {n lc : Nat} {K : List Int} {L : List Ins} (h : Cd w va kn kc la n lc K L) (hT : Tabs w) :
    Calls Tryd.prog 14 #[.agg #[.slice va kn kc, .slice la n lc]] w fun e w' => ((∃ k v, Ver K L (some k) ∧ e = .returned (.tuple #[.slice none 0 0, v]) ∧ Err w (some k) v w') ∨ (Ver K L none ∧ ∃ g ds, e = .returned (.tuple #[.slice (some ⟨g, 0, none⟩) n n, .nilIface]) ∧ RowI w' g ds ∧ w.heap.size ≤ g ∧ Dps L ds)) ∧ Below w.heap.size w w' := by
  have K1 := below_new1 w (.cells #[.slice va kn kc, .slice la n lc] 25)
  have GA := hid_as (goAll_c (h.below K1) (hT.below K1))
  have KB := hid_as K1
  clear K1
  have NL := hid_as h.nl
  have n9 := h.n9
  clear h hT
  go_enter Tryd.func14, Tryd.ntmps14
  go_upto_region 2 with (go_at_call 24; refine GA.out.mono ?_; rintro e w2 ⟨hA, b2⟩; obtain ⟨p, v, rfl, hq⟩ := all_shape hA; clear hA)
  rcases hq with ⟨k, hV, rfl, g, rfl, hg, q0, q1⟩ | ⟨hV, rfl, g, m, wv, S, rfl, hw, hi⟩
  · have HV := hid_as hV
    clear hV
    go_wp2
    go_ret2
    exact ⟨Or.inl ⟨_, _, HV.out, rfl, g, rfl, Nat.le_trans KB.out.size hg, q0, q1⟩, below_and KB.out b2⟩
  · have HV := hid_as hV
    have DC := hid_as (depths_c hw hi NL.out n9)
    clear hV hw hi
    have B2 := hid_as (below_and KB.out b2)
    clear b2
    go_wp2_with (go_at_call 25; refine DC.out.mono ?_; rintro e w3 ⟨ds, rfl, hr, hd, b3⟩)
    go_ret2
    exact ⟨Or.inr ⟨HV.out, _, ds, rfl, hr, B2.out.size, hd⟩, below_and B2.out b3⟩
end Go.Proofs.YtkknfolahfmghaaDoor
