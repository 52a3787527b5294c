/- Values in memory: rows, slices, what has turned (stage 11). -/
import Derived.Test.YtlokdkpfeckdoaaDoorProg
import Derived.WalkKit
import Derived.WalkSpells
import Derived.WalkLawsBesides
import Derived.Laws.NewBlocks
import Derived.Laws.AppendOwnNone
import Derived.OwnWalk
import Derived.BigQuiet
import Derived.Deep.QuietTactic
import Derived.Deep.RegionLaw
import Derived.Laws.BytesArg
import Derived.Lib.AppendZeros
import Derived.Deep.OwnRows
import Derived.Deep.RegionHeld3
import Derived.Deep.Cut
import Derived.Deep.RegionWith
import Derived.Deep.MidRow
namespace Go.Proofs.YtlokdkpfeckdoaaDoor
open Go.RowKit
def u16s (bs : List Nat) : List Value := bs.map fun (x : Nat) => Value.int .u16 (x : Int)
theorem u16s_len (bs : List Nat) : (u16s bs).length = bs.length := by simp [u16s]
theorem u16s_app (a b : List Nat) : u16s (a ++ b) = u16s a ++ u16s b := by simp [u16s]
theorem u16s_at (bs : List Nat) (k : Nat) (h : k < bs.length) : (u16s bs)[k]? = some (.int .u16 (bs.getD k 0 : Nat)) := by simp [u16s, List.getD_eq_getElem?_getD, List.getElem?_eq_getElem h]
theorem u16s_one (bs : List Nat) : ∀ u ∈ u16s bs, u.oneCell' = true := by
  intro u hu
  simp only [u16s, List.mem_map] at hu
  obtain ⟨x, _, rfl⟩ := hu
  rfl
theorem u16s_set (l : List Nat) (i x : Nat) : u16s (l.set i x) = (u16s l).set i (.int .u16 (x : Int)) := by simp [u16s, List.map_set]
/-- The values vs lie in block b from off on. -/
def Lies (w : World) (b off : Nat) (vs : List Value) : Prop := ∀ k u, vs[k]? = some u → w.cell? ⟨b, off + k, none⟩ = some u
/-- A slice value of these values, in this world. -/
def Sl (w : World) (v : Value) (vs : List Value) : Prop := (vs = [] ∧ ∃ ao cap, v = .slice ao 0 cap ∧ (ao = none → cap = 0)) ∨ ∃ b off cap, v = .slice (some ⟨b, off, none⟩) vs.length cap ∧ vs.length ≤ cap ∧ Lies w b off vs
theorem lt_of_cell {w : World} {a : Addr} {v : Value} (h : w.cell? a = some v) : a.block < w.heap.size := World.block_lt_of_cell? w a h
theorem Lies.below {w u : World} {b off : Nat} {vs : List Value} (h : Lies w b off vs) (k : Below w.heap.size w u) : Lies u b off vs := fun i x hx => (k.cell (p := ⟨b, off + i, none⟩) (lt_of_cell (h i x hx))).trans (h i x hx)
theorem Lies.kept {w u : World} {b off : Nat} {vs : List Value} (h : Lies w b off vs) (k : u.heap[b]? = w.heap[b]?) : Lies u b off vs := fun i x hx => (World.cell?_of_block (w := w) (a := ⟨b, off + i, none⟩) k).trans (h i x hx)
theorem Sl.below {w u : World} {v : Value} {vs : List Value} (h : Sl w v vs) (k : Below w.heap.size w u) : Sl u v vs := by
  rcases h with h | ⟨b, off, cap, rfl, hcap, hc⟩
  · exact Or.inl h
  · exact Or.inr ⟨b, off, cap, rfl, hcap, hc.below k⟩
theorem Sl.shape {w : World} {v : Value} {vs : List Value} (h : Sl w v vs) : ∃ ao c, v = .slice ao vs.length c := by
  rcases h with ⟨rfl, ao, cap, rfl, _⟩ | ⟨b, off, cap, rfl, _⟩
  · exact ⟨ao, cap, rfl⟩
  · exact ⟨_, _, rfl⟩
theorem Sl.nil (w : World) : Sl w (.slice none 0 0) [] := Or.inl ⟨rfl, none, 0, rfl, fun _ => rfl⟩
theorem own_sl {w : World} {base n : Nat} {e : TypeId} {v : Value} {vs : List Value} (h : w.ownsRow base e 1 v n vs) : Sl w v vs := by
  have hl : vs.length = n := by simpa using h.1
  rcases h.2 with ⟨rfl, h0⟩ | ⟨g, cap, cur, rfl, hb, hg, hn, hm, hs, ht⟩
  · have : vs = [] := List.length_eq_zero_iff.1 (by omega)
    subst this
    exact Sl.nil w
  · refine Or.inr ⟨g, 0, cap, by rw [hl], by omega, fun j u hj => ?_⟩
    have hlt : j < n := by have := (List.getElem?_eq_some_iff.1 hj).1; omega
    rw [Nat.zero_add, h.cellAt j (by omega), hj]
theorem own_below {w u : World} {base n B : Nat} {e : TypeId} {v : Value} {vs : List Value} (h : w.ownsRow base e 1 v n vs) (k : Below B w u) (hB : w.heap.size ≤ B) : u.ownsRow base e 1 v n vs := by
  refine ⟨h.1, ?_⟩
  rcases h.2 with h' | ⟨g, cap, cur, rfl, hb, hg, r⟩
  · exact Or.inl h'
  · have hlt : g < w.heap.size := (h.lt g rfl).2
    exact Or.inr ⟨g, cap, cur, rfl, hb, (k.block g (by omega)).trans hg, r⟩
theorem own_base {w : World} {base base' n : Nat} {e : TypeId} {v : Value} {vs : List Value} (h : w.ownsRow base e 1 v n vs) (hb : base' ≤ base) : w.ownsRow base' e 1 v n vs := by
  refine ⟨h.1, ?_⟩
  rcases h.2 with h' | ⟨g, cap, cur, rfl, hb', r⟩
  · exact Or.inl h'
  · exact Or.inr ⟨g, cap, cur, rfl, by omega, r⟩
theorem Lies.news {w : World} {b off : Nat} {vs : List Value} (hc : Lies w b off vs) : ∀ j u, vs[j]? = some u → w.cell? ((⟨b, off, none⟩ : Addr).add j) = some u := by
  intro j u hj
  have hplain : (⟨b, off, none⟩ : Addr).add j = ⟨b, off + j, none⟩ := by unfold Addr.add; split <;> simp_all
  rw [hplain]
  exact hc j u hj
theorem Lies.u16 {w : World} {b off : Nat} {bs : List Nat} (hc : Lies w b off (u16s bs)) (k : Nat) (h : k < bs.length) : w.cell? ⟨b, off + k, none⟩ = some (.int .u16 (bs.getD k 0 : Nat)) := hc k _ (u16s_at bs k h)
theorem below_new {a w : World} (h : Below a.heap.size a w) (o : Obj) : Below a.heap.size a (w.alloc o) := h.alloc h.size o
theorem int_is {k : IntKind} {a b : Int} (h : a = b) : Value.int k a = .int k b := by rw [h]
theorem hid_as {p : Prop} (h : p) : Hid p := h
theorem below_and {a b c : World} (h : Below a.heap.size a b) (k : Below b.heap.size b c) : Below a.heap.size a c := h.trans (k.mono h.size)
theorem one_cell (w : World) (e : TypeId) (x : Value) : ∀ j u, [x][j]? = some u → (w.alloc (.cells #[x] e)).cell? ((⟨w.heap.size, 0, none⟩ : Addr).add j) = some u := by
  intro j u hj
  match j, hj with
  | 0, hj => simp at hj; subst hj; simp [Addr.add]
theorem one_int (k : IntKind) (x : Int) : ∀ u ∈ [Value.int k x], u.oneCell' = true := by
  intro u hu
  simp at hu
  subst hu
  rfl
theorem cell_row {w : World} {g k : Nat} {l : List Value} {t : TypeId} {v : Value} (h : w.heap[g]? = some (.cells l.toArray t (0, 0))) (hv : l[k]? = some v) : w.cell? ⟨g, k, none⟩ = some v := by
  simp [World.cell?, h, hv]
theorem frozen_row {w : World} {g k : Nat} {l : List Value} {t : TypeId} (h : w.heap[g]? = some (.cells l.toArray t (0, 0))) : w.frozen? ⟨g, k, none⟩ = false := by
  simp [World.frozen?, h]
theorem set_row {w : World} {g k : Nat} {l : List Value} {t : TypeId} (h : w.heap[g]? = some (.cells l.toArray t (0, 0))) (v : Value) : (w.setCell ⟨g, k, none⟩ v).heap[g]? = some (.cells (l.set k v).toArray t (0, 0)) := by
  rw [setCell_eq_setRow w g k _ t (0, 0) v h, setRow_heap w g _ _ t _ h]
  simp
/-- All blocks that there were, but g, are as they were. -/
abbrev Turn (g : Nat) (w w' : World) : Prop := w.grownBy w' (some g)
theorem Turn.refl (g : Nat) (w : World) : Turn g w w := ⟨rfl, rfl, rfl, Nat.le_refl _, fun _ _ _ => rfl⟩
theorem Turn.trans {g : Nat} {a b c : World} (h : Turn g a b) (k : Turn g b c) : Turn g a c :=
  ⟨k.os.trans h.os, k.tape.trans h.tape, k.output.trans h.output, Nat.le_trans h.size k.size, fun j hj hne => (k.block j (Nat.lt_of_lt_of_le hj h.size) hne).trans (h.block j hj hne)⟩
theorem Turn.ofBelow {g : Nat} {w w' : World} (h : Below w.heap.size w w') : Turn g w w' := ⟨h.os, h.tape, h.output, h.size, fun j hj _ => h.block j hj⟩
theorem Turn.set {g : Nat} {w w' : World} (h : Turn g w w') (k : Nat) (v : Value) : Turn g w (w'.setCell ⟨g, k, none⟩ v) := by
  refine ⟨h.os, h.tape, h.output, by simpa using h.size, fun j hj hne => ?_⟩
  rw [Below.heap_setCell _ _ _ _ (fun e => hne (congrArg some e))]
  exact h.block j hj hne
theorem Turn.alloc {g : Nat} {w w' : World} (h : Turn g w w') (o : Obj) : Turn g w (w'.alloc o) := h.trans (Turn.ofBelow (below_new (Below.refl _ w') o))
theorem Turn.drew {g : Nat} {w w' : World} (h : Turn g w w') : Turn g w w'.drew := ⟨h.os, h.tape, h.output, h.size, h.block⟩
theorem Turn.drewN {g : Nat} {w w' : World} (h : Turn g w w') (d : Nat) : Turn g w (w'.drewN d) := ⟨h.os, h.tape, h.output, h.size, h.block⟩
theorem Turn.below {g B : Nat} {w w' : World} (h : Turn g w w') (hB : B ≤ g) (hs : B ≤ w.heap.size) : Below B w w' := ⟨h.os, h.tape, h.output, h.size, fun j hj => h.block j (by omega) (fun e => by simp at e; omega)⟩
/-- The same world but for what was drawn. -/
structure Same (w w' : World) : Prop where
  os : w'.os = w.os
  tape : w'.tape = w.tape
  output : w'.output = w.output
  heap : w'.heap = w.heap
theorem Same.refl (w : World) : Same w w := ⟨rfl, rfl, rfl, rfl⟩
theorem Same.drewN (w : World) (d : Nat) : Same w (w.drewN d) := ⟨rfl, rfl, rfl, rfl⟩
theorem Same.drew (w : World) : Same w w.drew := ⟨rfl, rfl, rfl, rfl⟩
theorem Same.trans {a b c : World} (h : Same a b) (k : Same b c) : Same a c := ⟨k.os.trans h.os, k.tape.trans h.tape, k.output.trans h.output, k.heap.trans h.heap⟩
theorem Same.below {w w' : World} (h : Same w w') : Below w.heap.size w w' := ⟨h.os, h.tape, h.output, by rw [h.heap]; exact Nat.le_refl _, fun j _ => by rw [h.heap]⟩
theorem take_same {α : Type} {xs ys : List α} {k : Nat} {d : α} (hx : k < xs.length) (hy : k < ys.length) (h : xs.take k = ys.take k) (e : xs.getD k d = ys.getD k d) : xs.take (k + 1) = ys.take (k + 1) := by
  rw [List.take_add_one, List.take_add_one, h]
  simp only [List.getD_eq_getElem?_getD, List.getElem?_eq_getElem hx, List.getElem?_eq_getElem hy, Option.getD_some] at e ⊢
  rw [e]
set_option maxHeartbeats 1600000 in
theorem hregs_at (b off b' off' n cap cap' : Nat) (xs ys : List Nat) (w : World) (hx : n = xs.length) (hy : n = ys.length) (hm : n ≤ 9223372036854775807) (lx : Lies w b off (u16s xs)) (ly : Lies w b' off' (u16s ys)) :
    Calls Tryd.prog 22 #[.slice (some ⟨b, off, none⟩) n cap, .slice (some ⟨b', off', none⟩) n cap'] w fun e w' => e = .returned (.bool (decide (xs = ys))) ∧ ∃ m, w' = w.drewN m := by
  have HX : Hid (n = xs.length) := hx
  have HY : Hid (n = ys.length) := hy
  have LX : Hid (Lies w b off (u16s xs)) := lx
  have LY : Hid (Lies w b' off' (u16s ys)) := ly
  clear hx hy lx ly
  go_enter Tryd.func22, Tryd.ntmps22
  go_wp2
  go_loopw [5] (fun i wr => ∃ k : Nat, k ≤ n ∧ i = .int .i64 k ∧ xs.take k = ys.take k ∧ ∃ d, wr = w.drewN d) (fun i _ => n - (intOf i).toNat)
  case atStart => exact ⟨0, by omega, rfl, by simp, 0, rfl⟩
  case round =>
    obtain ⟨k, hk, rfl, HT, d, rfl⟩ := hrel
    have HT : Hid (xs.take k = ys.take k) := HT
    by_cases hkn : k < n
    · obtain ⟨x, ex⟩ : ∃ x, x = xs.getD k 0 := ⟨_, rfl⟩
      obtain ⟨y, ey⟩ : ∃ y, y = ys.getD k 0 := ⟨_, rfl⟩
      have hcx : w.cell? ⟨b, off + k, none⟩ = some (.int .u16 x) := by rw [ex]; exact LX.out.u16 k (by rw [← (show n = _ from HX)]; exact hkn)
      have hcy : w.cell? ⟨b', off' + k, none⟩ = some (.int .u16 y) := by rw [ey]; exact LY.out.u16 k (by rw [← (show n = _ from HY)]; exact hkn)
      have EX : Hid (x = xs.getD k 0) := ex
      have EY : Hid (y = ys.getD k 0) := ey
      clear ex ey
      by_cases hxy : x = y
      · subst hxy
        go_wp2
        go_quiet (fail)
        go_wp2
        go_roundw
        case rel => exact ⟨k + 1, by omega, by go_num, take_same (by rw [← (show n = _ from HX)]; exact hkn) (by rw [← (show n = _ from HY)]; exact hkn) HT (EX.out.symm.trans EY.out), _, rfl⟩
        case measure => simp [intOf]; omega
      · have hne : ((x : Int) == (y : Int)) = false := by rw [beq_eq_false_iff_ne]; omega
        have hd : ¬ xs = ys := fun h => by rw [h] at EX; exact hxy (EX.out.trans EY.out.symm)
        go_wp2
        go_quiet (fail)
        go_wp2
        go_ret
        rw [decide_eq_false hd]
        exact ⟨rfl, d + nq, by simp⟩
    · obtain rfl : k = n := by omega
      go_wp2
      go_ret
      have h1 : xs = ys := by
        have := HT.out
        rw [List.take_of_length_le (Nat.le_of_eq HX.out.symm), List.take_of_length_le (Nat.le_of_eq HY.out.symm)] at this
        exact this
      rw [decide_eq_true h1]
      exact ⟨rfl, _, rfl⟩
set_option maxHeartbeats 1600000 in
theorem hregs_none (ao bo : Option Addr) (cap cap' : Nat) (w : World) : Calls Tryd.prog 22 #[.slice ao 0 cap, .slice bo 0 cap'] w fun e w' => e = .returned (.bool true) ∧ w' = w := by
  go_enter Tryd.func22, Tryd.ntmps22
  go_wp2
  go_loop [5] (fun i => i = .int .i64 0) (fun _ => 0)
  case atStart => rfl
  case round =>
    obtain rfl := hrel
    go_wp2
    go_ret
    exact ⟨rfl, rfl⟩
set_option maxHeartbeats 1600000 in
theorem hregs_other (ao bo : Option Addr) (n n' cap cap' : Nat) (w : World) (h : n ≠ n') : Calls Tryd.prog 22 #[.slice ao n cap, .slice bo n' cap'] w fun e w' => e = .returned (.bool false) ∧ w' = w := by
  have h' : ((n : Int) == (n' : Int)) = false := by rw [beq_eq_false_iff_ne]; omega
  go_enter Tryd.func22, Tryd.ntmps22
  go_wp2
  go_ret
  exact ⟨rfl, rfl⟩
theorem hregs_c {v u : Value} {xs ys : List Nat} {w : World} (h : Sl w v (u16s xs)) (k : Sl w u (u16s ys)) (hm : xs.length ≤ 1000000) : Calls Tryd.prog 22 #[v, u] w fun e w' => e = .returned (.bool (decide (xs = ys))) ∧ ∃ m, w' = w.drewN m := by
  by_cases hl : xs.length = ys.length
  · rcases h with ⟨h, ao, cap, rfl, _⟩ | ⟨b, off, cap, rfl, _, hc⟩
    · have hx : xs = [] := List.length_eq_zero_iff.1 (by rw [← u16s_len, h]; rfl)
      subst hx
      have hy : ys = [] := List.length_eq_zero_iff.1 hl.symm
      subst hy
      obtain ⟨bo, cap', rfl⟩ := k.shape
      refine (hregs_none ao bo cap cap' w).mono ?_
      rintro e w' ⟨rfl, rfl⟩
      exact ⟨rfl, 0, rfl⟩
    · rcases k with ⟨k, bo, cap', rfl, _⟩ | ⟨b', off', cap', rfl, _, hc'⟩
      · have hy : ys = [] := List.length_eq_zero_iff.1 (by rw [← u16s_len, k]; rfl)
        subst hy
        have hx : xs = [] := List.length_eq_zero_iff.1 hl
        subst hx
        refine (hregs_none _ bo cap cap' w).mono ?_
        rintro e w' ⟨rfl, rfl⟩
        exact ⟨rfl, 0, rfl⟩
      · rw [u16s_len, u16s_len, ← hl]
        exact hregs_at b off b' off' xs.length cap cap' xs ys w rfl hl (by omega) hc hc'
  · obtain ⟨ao, cap, rfl⟩ := h.shape
    obtain ⟨bo, cap', rfl⟩ := k.shape
    rw [u16s_len, u16s_len]
    refine (hregs_other ao bo _ _ cap cap' w hl).mono ?_
    rintro e w' ⟨rfl, rfl⟩
    rw [decide_eq_false (fun h => hl (by rw [h]))]
    exact ⟨rfl, 0, rfl⟩
end Go.Proofs.YtlokdkpfeckdoaaDoor
