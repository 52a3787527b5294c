/- The law of latches and edges (stage 17). -/
import Derived.Test.YtbpnaenineinmaaP1
import Derived.Test.YtbpnaenineinmaaFF6
import Derived.Test.YtbpnaenineinmaaFF7
import Derived.Test.YtbpnaenineinmaaFF8
import Derived.Test.YtbpnaenineinmaaFF9
import Derived.Deep.CutRange
import Derived.Deep.CutBlock
namespace Go.Proofs.Ytbpnaenineinmaa
open Go.RowKit
open Fb
/-- What is kept lies in block g. -/
abbrev Kr (w : World) (g : Nat) (a b c : Int) : Prop := w.heap[g]? = some (.cells #[.int .i64 a, .int .i64 b, .int .i64 c] 23 (0, 0))
theorem Kr.cells {w : World} {g : Nat} {a b c : Int} (h : Kr w g a b c) : w.cell? ⟨g, 0, none⟩ = some (.int .i64 a) ∧ w.cell? ⟨g, 1, none⟩ = some (.int .i64 b) ∧ w.cell? ⟨g, 2, none⟩ = some (.int .i64 c) ∧ ∀ j, w.frozen? ⟨g, j, none⟩ = false :=
  ⟨cell_row (l := [.int .i64 a, .int .i64 b, .int .i64 c]) h rfl, cell_row (l := [.int .i64 a, .int .i64 b, .int .i64 c]) h rfl, cell_row (l := [.int .i64 a, .int .i64 b, .int .i64 c]) h rfl, fun _ => frozen_row (l := [.int .i64 a, .int .i64 b, .int .i64 c]) h⟩
theorem Kr.lt {w : World} {g : Nat} {a b c : Int} (h : Kr w g a b c) : g < w.heap.size := (Array.getElem?_eq_some_iff.1 h).1
theorem Kr.only {w u : World} {g : Nat} {a b c : Int} {S : List Nat} (h : Kr w g a b c) (k : Only S w u) (hs : g ∉ S) : Kr u g a b c := (k.block g h.lt hs).trans h
/-- The world behind a keep's store. -/
def st3 (W : World) (g : Nat) (a b c : Int) : World := ((W.setCell ⟨g, 0, none⟩ (.int .i64 a)).setCell ⟨g, 1, none⟩ (.int .i64 b)).setCell ⟨g, 2, none⟩ (.int .i64 c)
theorem st3_turn (W : World) (g : Nat) (a b c : Int) : Turn g W (st3 W g a b c) := (((Turn.refl g W).set 0 _).set 1 _).set 2 _
theorem Kr.st3 {W : World} {g : Nat} {a b c : Int} (h : Kr W g a b c) (x y z : Int) : Kr (st3 W g x y z) g x y z := by
  unfold Ytbpnaenineinmaa.st3
  show _ = _
  rw [set_row (set_row (set_row (l := [.int .i64 a, .int .i64 b, .int .i64 c]) h _) _) _]
  rfl
/-- A block's outputs: none yet, or a row that lies behind block K. -/
def Ov (w : World) (K : Nat) (v : Value) (l : List Int) : Prop := (v = .slice none 0 0 ∧ l = []) ∨ ∃ b, v = .slice (some ⟨b, 0, none⟩) l.length l.length ∧ K < b ∧ Row64 w b l
theorem Ov.only {w u : World} {K : Nat} {v : Value} {l : List Int} {S : List Nat} (h : Ov w K v l) (k : Only S w u) (hs : ∀ j ∈ S, j ≤ K) : Ov u K v l := by
  rcases h with h | ⟨b, h1, h2, h3⟩
  · exact Or.inl h
  · exact Or.inr ⟨b, h1, h2, (k.block b (row_lt h3) (fun e => by have := hs b e; omega)).trans h3⟩
theorem Ov.sl {w : World} {K : Nat} {v : Value} {l : List Int} (h : Ov w K v l) : Sl w v (i64s l) := by
  rcases h with ⟨rfl, rfl⟩ | ⟨b, rfl, _, h⟩
  · exact Sl.nil w
  · exact row_sl h rfl
theorem Ov.shape {w : World} {K : Nat} {v : Value} {l : List Int} (h : Ov w K v l) : ∃ ao, v = .slice ao l.length l.length := by
  rcases h with ⟨rfl, rfl⟩ | ⟨b, rfl, _⟩
  · exact ⟨_, rfl⟩
  · exact ⟨_, rfl⟩
theorem Ov.first {w : World} {K b : Nat} {x : Int} (h : Ov w K (.slice (some ⟨b, 0, none⟩) 1 1) [x]) : w.cell? ⟨b, 0, none⟩ = some (.int .i64 x) := by
  rcases h with ⟨h, _⟩ | ⟨g, h, _, r⟩
  · cases h
  · cases h
    exact cell_row (k := 0) r rfl
/-- Four lives. -/
structure Lv (w wr : World) (kb : Nat) (v1 v2 v3 v4 : Value) (l1 l2 l3 l4 : List Int) (c d : Int) : Prop where
  k1 : Kr wr kb 0 0 0
  k2 : Kr wr (kb + 1) 0 0 0
  k3 : Kr wr (kb + 2) c 0 0
  k4 : Kr wr (kb + 3) d 0 0
  o1 : Ov wr (kb + 3) v1 l1
  o2 : Ov wr (kb + 3) v2 l2
  o3 : Ov wr (kb + 3) v3 l3
  o4 : Ov wr (kb + 3) v4 l4
  kw : w.heap.size ≤ kb
  bl : Below w.heap.size w wr
theorem Lv.below {w wr u : World} {kb : Nat} {v1 v2 v3 v4 : Value} {l1 l2 l3 l4 : List Int} {c d : Int} (h : Lv w wr kb v1 v2 v3 v4 l1 l2 l3 l4 c d) (k : Below wr.heap.size wr u) : Lv w u kb v1 v2 v3 v4 l1 l2 l3 l4 c d :=
  ⟨h.k1.only (Only.ofBelow (S := []) k) (by simp), h.k2.only (Only.ofBelow (S := []) k) (by simp), h.k3.only (Only.ofBelow (S := []) k) (by simp), h.k4.only (Only.ofBelow (S := []) k) (by simp), h.o1.only (Only.ofBelow (S := []) k) (by simp), h.o2.only (Only.ofBelow (S := []) k) (by simp), h.o3.only (Only.ofBelow (S := []) k) (by simp), h.o4.only (Only.ofBelow (S := []) k) (by simp), h.kw, h.bl.trans (k.mono h.bl.size)⟩
theorem Lv.s1 {w wr W : World} {kb b : Nat} {v1 v2 v3 v4 : Value} {l1 l2 l3 l4 l : List Int} {c d : Int} (h : Lv w wr kb v1 v2 v3 v4 l1 l2 l3 l4 c d) (k : Below wr.heap.size wr W) (hb : wr.heap.size ≤ b) (r : Row64 W b l) : Lv w (st3 W kb 0 0 0) kb (.slice (some ⟨b, 0, none⟩) l.length l.length) v2 v3 v4 l l2 l3 l4 c d := by
  have O : Only [kb] wr (st3 W kb 0 0 0) := (Only.ofBelow k).trans (Only.ofTurn (st3_turn W kb 0 0 0) (by simp))
  exact ⟨(h.k1.only (Only.ofBelow (S := []) k) (by simp)).st3 0 0 0, h.k2.only O (by simp), h.k3.only O (by simp), h.k4.only O (by simp), Or.inr ⟨b, rfl, by have := h.k4.lt; omega, ((st3_turn W kb 0 0 0).block b (row_lt r) (fun e => by have := h.k4.lt; simp at e; omega)).trans r⟩, h.o2.only O (by simp), h.o3.only O (by simp), h.o4.only O (by simp), h.kw, h.bl.trans (O.below (by have := h.kw; simp; omega) h.bl.size)⟩
theorem Lv.s2 {w wr W : World} {kb b : Nat} {v1 v2 v3 v4 : Value} {l1 l2 l3 l4 l : List Int} {c d : Int} (h : Lv w wr kb v1 v2 v3 v4 l1 l2 l3 l4 c d) (k : Below wr.heap.size wr W) (hb : wr.heap.size ≤ b) (r : Row64 W b l) : Lv w (st3 W (kb + 1) 0 0 0) kb v1 (.slice (some ⟨b, 0, none⟩) l.length l.length) v3 v4 l1 l l3 l4 c d := by
  have O : Only [(kb + 1)] wr (st3 W (kb + 1) 0 0 0) := (Only.ofBelow k).trans (Only.ofTurn (st3_turn W (kb + 1) 0 0 0) (by simp))
  exact ⟨h.k1.only O (by simp), (h.k2.only (Only.ofBelow (S := []) k) (by simp)).st3 0 0 0, h.k3.only O (by simp), h.k4.only O (by simp), h.o1.only O (by simp), Or.inr ⟨b, rfl, by have := h.k4.lt; omega, ((st3_turn W (kb + 1) 0 0 0).block b (row_lt r) (fun e => by have := h.k4.lt; simp at e; omega)).trans r⟩, h.o3.only O (by simp), h.o4.only O (by simp), h.kw, h.bl.trans (O.below (by have := h.kw; simp; omega) h.bl.size)⟩
theorem Lv.s3 {w wr W : World} {kb b : Nat} {v1 v2 v3 v4 : Value} {l1 l2 l3 l4 l : List Int} {c d x : Int} (h : Lv w wr kb v1 v2 v3 v4 l1 l2 l3 l4 c d) (k : Below wr.heap.size wr W) (hb : wr.heap.size ≤ b) (r : Row64 W b l) : Lv w (st3 W (kb + 2) x 0 0) kb v1 v2 (.slice (some ⟨b, 0, none⟩) l.length l.length) v4 l1 l2 l l4 x d := by
  have O : Only [(kb + 2)] wr (st3 W (kb + 2) x 0 0) := (Only.ofBelow k).trans (Only.ofTurn (st3_turn W (kb + 2) x 0 0) (by simp))
  exact ⟨h.k1.only O (by simp), h.k2.only O (by simp), (h.k3.only (Only.ofBelow (S := []) k) (by simp)).st3 x 0 0, h.k4.only O (by simp), h.o1.only O (by simp), h.o2.only O (by simp), Or.inr ⟨b, rfl, by have := h.k4.lt; omega, ((st3_turn W (kb + 2) x 0 0).block b (row_lt r) (fun e => by have := h.k4.lt; simp at e; omega)).trans r⟩, h.o4.only O (by simp), h.kw, h.bl.trans (O.below (by have := h.kw; simp; omega) h.bl.size)⟩
theorem Lv.s4 {w wr W : World} {kb b : Nat} {v1 v2 v3 v4 : Value} {l1 l2 l3 l4 l : List Int} {c d x : Int} (h : Lv w wr kb v1 v2 v3 v4 l1 l2 l3 l4 c d) (k : Below wr.heap.size wr W) (hb : wr.heap.size ≤ b) (r : Row64 W b l) : Lv w (st3 W (kb + 3) x 0 0) kb v1 v2 v3 (.slice (some ⟨b, 0, none⟩) l.length l.length) l1 l2 l3 l c x := by
  have O : Only [(kb + 3)] wr (st3 W (kb + 3) x 0 0) := (Only.ofBelow k).trans (Only.ofTurn (st3_turn W (kb + 3) x 0 0) (by simp))
  exact ⟨h.k1.only O (by simp), h.k2.only O (by simp), h.k3.only O (by simp), (h.k4.only (Only.ofBelow (S := []) k) (by simp)).st3 x 0 0, h.o1.only O (by simp), h.o2.only O (by simp), h.o3.only O (by simp), Or.inr ⟨b, rfl, by have := h.k4.lt; omega, ((st3_turn W (kb + 3) x 0 0).block b (row_lt r) (fun e => by have := h.k4.lt; simp at e; omega)).trans r⟩, h.kw, h.bl.trans (O.below (by have := h.kw; simp; omega) h.bl.size)⟩
/-- The inputs' row lies behind all. -/
theorem in_st {wr W : World} {g ib : Nat} {l : List Int} {x : Int} (h : Row64 wr ib l) (k : Below wr.heap.size wr W) (hg : g < ib) : Row64 (st3 W g x 0 0) ib l :=
  ((st3_turn W g x 0 0).block ib (Nat.lt_of_lt_of_le (row_lt h) k.size) (fun e => by simp at e; omega)).trans ((k.block _ (row_lt h)).trans h)
theorem four_new (w : World) (o0 o1 o2 o3 : Obj) : ((((w.alloc o0).alloc o1).alloc o2).alloc o3).heap[w.heap.size]? = some o0 ∧ ((((w.alloc o0).alloc o1).alloc o2).alloc o3).heap[w.heap.size + 1]? = some o1 ∧ ((((w.alloc o0).alloc o1).alloc o2).alloc o3).heap[w.heap.size + 2]? = some o2 ∧ ((((w.alloc o0).alloc o1).alloc o2).alloc o3).heap[w.heap.size + 3]? = some o3 := by
  have a := two_new w o0 o1
  have b := two_new ((w.alloc o0).alloc o1) o2 o3
  rw [a.2.2] at b
  have k : Below ((w.alloc o0).alloc o1).heap.size ((w.alloc o0).alloc o1) ((((w.alloc o0).alloc o1).alloc o2).alloc o3) := below_new (below_new (Below.refl _ _) _) _
  rw [a.2.2] at k
  exact ⟨(k.block _ (by omega)).trans a.1, (k.block _ (by omega)).trans a.2.1, b.1, b.2.1⟩
def inl (f0 f1 : Bool) (k : Nat) : List Int := [if 0 < k then b01 f0 else 0, if 1 < k then b01 f1 else 0]
theorem tr_b (b : Bool) : tr (b01 b) = b := by cases b <;> rfl
theorem tr_wb (b : Bool) : tr (w32 (b01 b)) = b := by cases b <;> rfl
theorem sr_is {x y s : Bool} {l : List Int} (h : tr (l.getD 0 0) = s) : (⟨[b01 (x || s && !y)], 0, 0, 0⟩ : Rs) = stp 8 [b01 x, b01 y] l 0 0 0 0 := by
  simp only [stp, List.getD_cons_zero, List.getD_cons_succ, tr_b, h]
  rfl
theorem rs_is {x y s : Bool} {l : List Int} (h : tr (l.getD 0 0) = s) : (⟨[b01 (!y && (x || s))], 0, 0, 0⟩ : Rs) = stp 9 [b01 x, b01 y] l 0 0 0 0 := by
  simp only [stp, List.getD_cons_zero, List.getD_cons_succ, tr_b, h]
  rfl
theorem up_is {x was : Bool} {l : List Int} : (⟨[b01 (x && !was)], b01 x, 0, 0⟩ : Rs) = stp 6 [b01 x] l (b01 was) 0 0 0 := by
  simp only [stp, List.getD_cons_zero, tr_b, tr_wb]
  rfl
theorem dn_is {x was : Bool} {l : List Int} : (⟨[b01 (!x && was)], b01 x, 0, 0⟩ : Rs) = stp 7 [b01 x] l (b01 was) 0 0 0 := by
  simp only [stp, List.getD_cons_zero, tr_b, tr_wb]
  rfl
theorem cut1 {w : World} {b : Nat} {x y : Int} (r : Row64 w b [x, y]) : Sl w (.slice (some ⟨b, 0, none⟩) 1 2) (i64s [x]) := by
  refine Or.inr ⟨b, 0, 2, rfl, by simp [i64s], fun k u hk => ?_⟩
  match k, hk with
  | 0, hk => exact cell_row (k := 0) r hk
set_option maxRecDepth 100000 in
set_option maxHeartbeats 8000000 in
theorem latches_w {w : World} {la : Option Addr} {n lc : Nat} {f : Nat → Nat → Bool} (hL : Bl w la 2 n f) (hn9 : n ≤ 9223372036854775807) :
    Calls Try.prog 7 #[.slice la n lc] w fun e w' => e = .returned (.bool true) ∧ Below w.heap.size w w' := by
  have L := hid_as hL
  have KN := hid_as (known_c w)
  clear hL
  by_cases h80 : n ≤ 100
  · have h80' : ¬ (100 : Int) < n := by omega
    go_enter Try.func7, Try.ntmps7
    go_wp2_with fail
    refine KN.out.mono ?_
    rintro e w4 ⟨rfl, k1⟩
    have K4 := hid_as k1
    clear KN k1
    have L0 : Hid (Lv w ((((w4.alloc (.cells #[.int .i64 0, .int .i64 0, .int .i64 0] 23)).alloc (.cells #[.int .i64 0, .int .i64 0, .int .i64 0] 23)).alloc (.cells #[.int .i64 0, .int .i64 0, .int .i64 0] 23)).alloc (.cells #[.int .i64 0, .int .i64 0, .int .i64 0] 23)) w4.heap.size (.slice none 0 0) (.slice none 0 0) (.slice none 0 0) (.slice none 0 0) [] [] [] [] 0 0) :=
      ⟨(four_new w4 _ _ _ _).1, (four_new w4 _ _ _ _).2.1, (four_new w4 _ _ _ _).2.2.1, (four_new w4 _ _ _ _).2.2.2, Or.inl ⟨rfl, rfl⟩, Or.inl ⟨rfl, rfl⟩, Or.inl ⟨rfl, rfl⟩, Or.inl ⟨rfl, rfl⟩, K4.out.size, below_new (below_new (below_new (below_new K4.out _) _) _) _⟩
    go_upto_region 7 with fail
    generalize ((((w4.alloc (.cells #[.int .i64 0, .int .i64 0, .int .i64 0] 23)).alloc (.cells #[.int .i64 0, .int .i64 0, .int .i64 0] 23)).alloc (.cells #[.int .i64 0, .int .i64 0, .int .i64 0] 23)).alloc (.cells #[.int .i64 0, .int .i64 0, .int .i64 0] 23)) = w5 at *
    generalize w4.heap.size = kb at *
    go_wp2
    go_loopw [3, 4, 5, 6, 11, 12, 13, 14] (fun v1 v2 v3 v4 sv rv wv i wr => ∃ (j : Nat) (l1 l2 l3 l4 : List Int) (s r was : Bool), j ≤ n ∧ i = .int .i64 j ∧ sv = .bool s ∧ rv = .bool r ∧ wv = .bool was ∧ tr (l1.getD 0 0) = s ∧ tr (l2.getD 0 0) = r ∧ Lv w wr kb v1 v2 v3 v4 l1 l2 l3 l4 (b01 was) (b01 was) ∧ l1.length ≤ 1 ∧ l2.length ≤ 1 ∧ l3.length ≤ 1 ∧ l4.length ≤ 1) (fun _ _ _ _ _ _ _ i _ => n - (intOf i).toNat)
    case atStart => exact ⟨0, [], [], [], [], false, false, false, by omega, rfl, rfl, rfl, rfl, rfl, rfl, L0.out, by decide, by decide, by decide, by decide⟩
    case round =>
      obtain ⟨j, l1, l2, l3, l4, s, r, was, hj, rfl, rfl, rfl, rfl, hs, hr, hE, hl1, hl2, hl3, hl4⟩ := hrel
      have EV := hid_as hE
      have HS := hid_as hs
      have HR := hid_as hr
      obtain ⟨a1, rfl⟩ := hE.o1.shape
      obtain ⟨a2, rfl⟩ := hE.o2.shape
      obtain ⟨a3, rfl⟩ := hE.o3.shape
      obtain ⟨a4, rfl⟩ := hE.o4.shape
      clear hE L0 hs hr
      by_cases hjn : j < n
      · have hjn' : (j : Int) < (n : Int) := by omega
        obtain ⟨lb, lo, rfl, hcell⟩ := L.out (by omega)
        have C := hid_as (fun U (k : Below w.heap.size w U) => (⟨by have := (k.cell (p := ⟨lb, lo + j * 2 + 0, none⟩) (lt_of_cell (hcell j 0 hjn (by omega)))).trans (hcell j 0 hjn (by omega)); simpa using this, (k.cell (p := ⟨lb, lo + j * 2 + 1, none⟩) (lt_of_cell (hcell j 1 hjn (by omega)))).trans (hcell j 1 hjn (by omega))⟩ : U.cell? ⟨lb, lo + j * 2, none⟩ = some (.bool (f j 0)) ∧ U.cell? ⟨lb, lo + j * 2 + 1, none⟩ = some (.bool (f j 1))))
        generalize f j 0 = x at *
        generalize f j 1 = y at *
        clear hcell
        have R0 : Hid (Row64 (wr.alloc (.cells #[.int .i64 0, .int .i64 0] 2)) wr.heap.size (inl x y 0)) := row_new wr (inl x y 0)
        have B0 : Hid (Below wr.heap.size wr (wr.alloc (.cells #[.int .i64 0, .int .i64 0] 2))) := below_new (Below.refl _ _) _
        go_upto_region 12 with fail
        generalize (wr.alloc (.cells #[.int .i64 0, .int .i64 0] 2)) = W0 at *
        obtain ⟨ib, hib⟩ : ∃ ib, ib = wr.heap.size := ⟨_, rfl⟩
        rw [← hib] at R0 B0 ⊢
        have HIB := hid_as hib
        clear hib
        go_wp2
        go_loopw [16] (fun kv wr2 => ∃ kk : Nat, kk ≤ 2 ∧ kv = .int .i64 kk ∧ Row64 wr2 ib (inl x y kk) ∧ Turn ib W0 wr2) (fun kv _ => 2 - (intOf kv).toNat)
        case atStart => exact ⟨0, by omega, rfl, R0.out, Turn.refl _ _⟩
        case round =>
          obtain ⟨kk, hkk, rfl, hR, hT⟩ := hrel
          have R := hid_as hR
          have T := hid_as hT
          have LW := hid_as (EV.out.below (by rw [← HIB.out]; exact B0.out.trans (hT.below (Nat.le_refl _) (by rw [HIB.out]; exact B0.out.size))))
          have hbi : Hid (kb + 3 < ib) := by rw [HIB.out]; exact EV.out.k4.lt
          obtain ⟨q0, q1⟩ := C.out _ LW.out.bl
          clear hR hT
          have hcc : kk = 0 ∨ kk = 1 ∨ kk = 2 := by omega
          rcases hcc with rfl | rfl | rfl
          · have hz := cell_row (k := 0) R.out rfl
            have hf := frozen_row (k := 0) R.out
            clear C
            cases x
            · go_wp2
              go_roundw
              case rel => exact ⟨1, by omega, rfl, R.out, T.out⟩
              case measure => simp [intOf]
            · go_wp2
              go_roundw
              case rel => exact ⟨1, by omega, rfl, row_set (j := 0) R.out 1, T.out.set 0 _⟩
              case measure => simp [intOf]
          · have hz := cell_row (k := 1) R.out rfl
            have hf := frozen_row (k := 1) R.out
            clear C
            cases y
            · go_wp2
              go_roundw
              case rel => exact ⟨2, by omega, rfl, R.out, T.out⟩
              case measure => simp [intOf]
            · go_wp2
              go_roundw
              case rel => exact ⟨2, by omega, rfl, row_set (j := 1) R.out 1, T.out.set 1 _⟩
              case measure => simp [intOf]
          · have RI : Hid (Row64 wr ib [b01 x, b01 y]) := R.out
            clear R T q0 q1
            rename World => V0
            have X := hid_as (fun U (k : Same V0 U) => step_8 (w := U) (r := ⟨[b01 (x || s && !y)], 0, 0, 0⟩) 0 0 0 0 ((row_sl RI.out (n := 2) rfl).same k) rfl (by decide) (LW.out.o1.sl.same k) rfl (by omega) (sr_is HS.out))
            unfold nm nml tx at X
            have kc := LW.out.k1.cells
            obtain ⟨p0, p1, p2, _⟩ := kc
            go_wp2_with fail
            refine (X.out _ (Same.refl _)).mono ?_
            rintro e w7 ⟨b1, rfl, hb5, r5, k5⟩
            have N := hid_as (LW.out.s1 k5 hb5 r5)
            have RN := hid_as (in_st (x := 0) (g := kb) RI.out k5 (by have := hbi.out; omega))
            obtain ⟨d0, d1, d2, dz⟩ := (LW.out.below k5).k1.cells
            clear X k5 r5 hb5 p0 p1 p2 LW RI
            go_upto_region 18 with fail
            have ew : ((w7.setCell ⟨kb, 0, none⟩ (.int .i64 0)).setCell ⟨kb, 1, none⟩ (.int .i64 0)).setCell ⟨kb, 2, none⟩ (.int .i64 0) = st3 w7 kb 0 0 0 := rfl
            rw [ew]
            obtain ⟨V1, hV⟩ : ∃ V, V = st3 w7 kb 0 0 0 := ⟨_, rfl⟩
            rw [← hV] at N RN ⊢
            have LW := N
            have RI := RN
            clear N RN hV ew d0 d1 d2 dz
            have X := hid_as (fun U (k : Same V1 U) => step_9 (w := U) (r := ⟨[b01 (!y && (x || r))], 0, 0, 0⟩) 0 0 0 0 ((row_sl RI.out (n := 2) rfl).same k) rfl (by decide) (LW.out.o2.sl.same k) rfl (by omega) (rs_is HR.out))
            unfold nm nml tx at X
            have kc := LW.out.k2.cells
            obtain ⟨p0, p1, p2, _⟩ := kc
            go_wp2_with fail
            refine (X.out _ (Same.refl _)).mono ?_
            rintro e w7 ⟨b2, rfl, hb5, r5, k5⟩
            have N := hid_as (LW.out.s2 k5 hb5 r5)
            have RN := hid_as (in_st (x := 0) (g := (kb + 1)) RI.out k5 (by have := hbi.out; omega))
            obtain ⟨d0, d1, d2, dz⟩ := (LW.out.below k5).k2.cells
            clear X k5 r5 hb5 p0 p1 p2 LW RI
            go_upto_region 19 with fail
            have ew : ((w7.setCell ⟨kb + 1, 0, none⟩ (.int .i64 0)).setCell ⟨kb + 1, 1, none⟩ (.int .i64 0)).setCell ⟨kb + 1, 2, none⟩ (.int .i64 0) = st3 w7 (kb + 1) 0 0 0 := rfl
            rw [ew]
            obtain ⟨V2, hV⟩ : ∃ V, V = st3 w7 (kb + 1) 0 0 0 := ⟨_, rfl⟩
            rw [← hV] at N RN ⊢
            have LW := N
            have RI := RN
            clear N RN hV ew d0 d1 d2 dz
            have X := hid_as (fun U (k : Same V2 U) => step_6 (w := U) (r := ⟨[b01 (x && !was)], b01 x, 0, 0⟩) (b01 was) 0 0 0 ((cut1 RI.out).same k) rfl (by decide) (LW.out.o3.sl.same k) rfl (by omega) (up_is))
            unfold nm nml tx at X
            have kc := LW.out.k3.cells
            obtain ⟨p0, p1, p2, _⟩ := kc
            go_cut [5] from 58 to 65 (fun v wx => ∃ b3, v = .slice (some ⟨b3, 0, none⟩) 1 1 ∧ Lv w wx kb (.slice (some ⟨b1, 0, none⟩) 1 1) (.slice (some ⟨b2, 0, none⟩) 1 1) (.slice (some ⟨b3, 0, none⟩) 1 1) (.slice a4 l4.length l4.length) [b01 (x || s && !y)] [b01 (!y && (x || r))] [b01 (x && !was)] l4 (b01 x) (b01 was) ∧ Row64 wx ib [b01 x, b01 y])
            case first =>
              go_region_with (go_at_call 10; (with_reducible refine (X.out _ (Same.drew _)).mono ?_); rintro e w7 ⟨b3, rfl, hb5, r5, k5⟩; have k6 := (Same.drew V2).below.trans (k5.mono (Nat.le_refl _)); obtain ⟨d0, d1, d2, dz⟩ := (LW.out.below k6).k3.cells)
              all_goals
                go_wp2
                go_meet
                exact ⟨b3, rfl, LW.out.s3 k6 hb5 r5, in_st (g := (kb + 2)) RI.out k6 (by have := hbi.out; omega)⟩
            case rest =>
            obtain ⟨b3, rfl, hLV, hRI⟩ := hcut
            clear LW RI X p0 p1 p2
            have LW := hid_as hLV
            have RI := hid_as hRI
            clear hLV hRI
            rename World => V3
            go_upto_region 20 with fail
            have X := hid_as (fun U (k : Same V3 U) => step_7 (w := U) (r := ⟨[b01 (!x && was)], b01 x, 0, 0⟩) (b01 was) 0 0 0 ((cut1 RI.out).same k) rfl (by decide) (LW.out.o4.sl.same k) rfl (by omega) (dn_is))
            unfold nm nml tx at X
            have kc := LW.out.k4.cells
            obtain ⟨p0, p1, p2, _⟩ := kc
            go_cut [6] from 66 to 73 (fun v wx => ∃ b4, v = .slice (some ⟨b4, 0, none⟩) 1 1 ∧ Lv w wx kb (.slice (some ⟨b1, 0, none⟩) 1 1) (.slice (some ⟨b2, 0, none⟩) 1 1) (.slice (some ⟨b3, 0, none⟩) 1 1) (.slice (some ⟨b4, 0, none⟩) 1 1) [b01 (x || s && !y)] [b01 (!y && (x || r))] [b01 (x && !was)] [b01 (!x && was)] (b01 x) (b01 x) ∧ Row64 wx ib [b01 x, b01 y])
            case first =>
              go_region_with (go_at_call 10; (with_reducible refine (X.out _ (Same.drew _)).mono ?_); rintro e w7 ⟨b4, rfl, hb5, r5, k5⟩; have k6 := (Same.drew V3).below.trans (k5.mono (Nat.le_refl _)); obtain ⟨d0, d1, d2, dz⟩ := (LW.out.below k6).k4.cells)
              all_goals
                go_wp2
                go_meet
                exact ⟨b4, rfl, LW.out.s4 k6 hb5 r5, in_st (g := (kb + 3)) RI.out k6 (by have := hbi.out; omega)⟩
            case rest =>
            obtain ⟨b4, rfl, hLV, hRI⟩ := hcut
            clear LW RI X p0 p1 p2
            have LW := hid_as hLV
            have RI := hid_as hRI
            clear hLV hRI
            rename World => V4
            go_upto_region 21 with fail
            obtain ⟨q0, q1⟩ := C.out _ LW.out.bl
            go_cut [17, 18] from 74 to 83 (fun a b wx => a = .bool x ∧ b = .bool y ∧ Same V4 wx)
            case first =>
              clear C
              go_quiet (fail)
              go_wp2
              go_meet
              exact ⟨rfl, rfl, Same.drewN _ _⟩
            case rest =>
            obtain ⟨rfl, rfl, hS⟩ := hcut
            have LZ := hid_as (LW.out.below hS.below)
            clear LW RI hS q0 q1 C
            rename World => V5
            go_upto_region 22 with fail
            obtain ⟨s2, hs2⟩ : ∃ s2, s2 = (x || s && !y) := ⟨_, rfl⟩
            obtain ⟨r2, hr2⟩ : ∃ r2, r2 = (!y && (x || r)) := ⟨_, rfl⟩
            rw [← hs2, ← hr2] at LZ
            go_cut [11, 12] from 84 to 99 (fun a b wx => a = .bool s2 ∧ b = .bool r2 ∧ wx = V5)
            case first =>
              subst hs2
              subst hr2
              clear LZ
              cases x <;> cases y <;> cases s <;> cases r
              all_goals
                go_wp2
                go_meet
                exact ⟨rfl, rfl, rfl⟩
            case rest =>
            obtain ⟨rfl, rfl, hw⟩ := hcut
            subst hw
            clear hs2 hr2 HS HR
            have e1 := LZ.out.o1.first
            have e2 := LZ.out.o2.first
            have e3 := LZ.out.o3.first
            have e4 := LZ.out.o4.first
            have h1 : (b01 s2 == 1) = s2 := by cases s2 <;> rfl
            have h2 : (b01 r2 == 1) = r2 := by cases r2 <;> rfl
            have h3 : (b01 (x && !was) == 1) = (x && !was) := by cases x <;> cases was <;> rfl
            have h4 : (b01 (!x && was) == 1) = (!x && was) := by cases x <;> cases was <;> rfl
            have NX : Hid (tr ([b01 s2].getD 0 0) = s2 ∧ tr ([b01 r2].getD 0 0) = r2) := ⟨tr_b s2, tr_b r2⟩
            have LY : Hid (∃ l1 l2 l3 l4, tr (l1.getD 0 0) = s2 ∧ tr (l2.getD 0 0) = r2 ∧ Lv w wc kb (.slice (some ⟨b1, 0, none⟩) 1 1) (.slice (some ⟨b2, 0, none⟩) 1 1) (.slice (some ⟨b3, 0, none⟩) 1 1) (.slice (some ⟨b4, 0, none⟩) 1 1) l1 l2 l3 l4 (b01 x) (b01 x) ∧ l1.length ≤ 1 ∧ l2.length ≤ 1 ∧ l3.length ≤ 1 ∧ l4.length ≤ 1) := ⟨_, _, _, _, NX.out.1, NX.out.2, LZ.out, Nat.le_refl _, Nat.le_refl _, Nat.le_refl _, Nat.le_refl _⟩
            clear NX LZ
            generalize b01 s2 = y1 at *
            generalize b01 r2 = y2 at *
            generalize b01 (x && !was) = y3 at *
            generalize b01 (!x && was) = y4 at *
            cases x <;> cases was
            all_goals
              go_wp2
              go_roundw
              case rel =>
                obtain ⟨m1, m2, m3, m4, t1, t2, t3, t4, t5, t6, t7⟩ := LY.out
                exact ⟨j + 1, m1, m2, m3, m4, s2, r2, _, by omega, by go_num, rfl, rfl, rfl, t1, t2, t3, t4, t5, t6, t7⟩
              case measure => simp [intOf]; omega
      · obtain rfl : j = n := by omega
        have B := hid_as EV.out.bl
        go_wp2
        go_ret
        exact ⟨rfl, B.out⟩
  · have h80' : (100 : Int) < n := by omega
    go_enter Try.func7, Try.ntmps7
    go_wp2_with fail
    refine KN.out.mono ?_
    rintro e w1 ⟨rfl, k1⟩
    go_wp2
    go_ret
    exact ⟨rfl, k1⟩
end Go.Proofs.Ytbpnaenineinmaa
