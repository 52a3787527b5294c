/- Values in memory: rows, slices, what has turned (stage 20). -/
import Derived.Test.YtkknfolahfmghaaDoorProg
import Derived.WalkKit
import Derived.WalkSpells
import Derived.WalkLawsBesides
import Derived.Laws.NewBlocks
import Derived.Laws.AppendOwnNone
import Derived.OwnWalk
import Derived.BigQuiet
import Derived.Deep.QuietTactic
import Derived.Deep.RegionLaw
import Derived.Laws.BytesArg
import Derived.Lib.AppendZeros
import Derived.Deep.OwnRows
import Derived.Deep.RegionHeld3
import Derived.Deep.Cut
import Derived.Deep.RegionWith
namespace Go.Proofs.YtkknfolahfmghaaDoor
open Go.RowKit
def bls (bs : List Bool) : List Value := bs.map Value.bool
theorem bls_len (bs : List Bool) : (bls bs).length = bs.length := by simp [bls]
theorem bls_at (bs : List Bool) (k : Nat) (h : k < bs.length) : (bls bs)[k]? = some (.bool (bs.getD k false)) := by simp [bls, List.getD_eq_getElem?_getD, List.getElem?_eq_getElem h]
/-- The values vs lie in block b from off on. -/
def Lies (w : World) (b off : Nat) (vs : List Value) : Prop := ∀ k u, vs[k]? = some u → w.cell? ⟨b, off + k, none⟩ = some u
/-- A slice value of these values, in this world. -/
def Sl (w : World) (v : Value) (vs : List Value) : Prop := (vs = [] ∧ ∃ ao cap, v = .slice ao 0 cap ∧ (ao = none → cap = 0)) ∨ ∃ b off cap, v = .slice (some ⟨b, off, none⟩) vs.length cap ∧ vs.length ≤ cap ∧ Lies w b off vs
theorem lt_of_cell {w : World} {a : Addr} {v : Value} (h : w.cell? a = some v) : a.block < w.heap.size := World.block_lt_of_cell? w a h
theorem Lies.below {w u : World} {b off : Nat} {vs : List Value} (h : Lies w b off vs) (k : Below w.heap.size w u) : Lies u b off vs := fun i x hx => (k.cell (p := ⟨b, off + i, none⟩) (lt_of_cell (h i x hx))).trans (h i x hx)
theorem Lies.kept {w u : World} {b off : Nat} {vs : List Value} (h : Lies w b off vs) (k : u.heap[b]? = w.heap[b]?) : Lies u b off vs := fun i x hx => (World.cell?_of_block (w := w) (a := ⟨b, off + i, none⟩) k).trans (h i x hx)
theorem Sl.below {w u : World} {v : Value} {vs : List Value} (h : Sl w v vs) (k : Below w.heap.size w u) : Sl u v vs := by
  rcases h with h | ⟨b, off, cap, rfl, hcap, hc⟩
  · exact Or.inl h
  · exact Or.inr ⟨b, off, cap, rfl, hcap, hc.below k⟩
theorem Sl.shape {w : World} {v : Value} {vs : List Value} (h : Sl w v vs) : ∃ ao c, v = .slice ao vs.length c := by
  rcases h with ⟨rfl, ao, cap, rfl, _⟩ | ⟨b, off, cap, rfl, _⟩
  · exact ⟨ao, cap, rfl⟩
  · exact ⟨_, _, rfl⟩
theorem Sl.nil (w : World) : Sl w (.slice none 0 0) [] := Or.inl ⟨rfl, none, 0, rfl, fun _ => rfl⟩
theorem own_sl {w : World} {base n : Nat} {e : TypeId} {v : Value} {vs : List Value} (h : w.ownsRow base e 1 v n vs) : Sl w v vs := by
  have hl : vs.length = n := by simpa using h.1
  rcases h.2 with ⟨rfl, h0⟩ | ⟨g, cap, cur, rfl, hb, hg, hn, hm, hs, ht⟩
  · have : vs = [] := List.length_eq_zero_iff.1 (by omega)
    subst this
    exact Sl.nil w
  · refine Or.inr ⟨g, 0, cap, by rw [hl], by omega, fun j u hj => ?_⟩
    have hlt : j < n := by have := (List.getElem?_eq_some_iff.1 hj).1; omega
    rw [Nat.zero_add, h.cellAt j (by omega), hj]
theorem own_below {w u : World} {base n B : Nat} {e : TypeId} {v : Value} {vs : List Value} (h : w.ownsRow base e 1 v n vs) (k : Below B w u) (hB : w.heap.size ≤ B) : u.ownsRow base e 1 v n vs := by
  refine ⟨h.1, ?_⟩
  rcases h.2 with h' | ⟨g, cap, cur, rfl, hb, hg, r⟩
  · exact Or.inl h'
  · have hlt : g < w.heap.size := (h.lt g rfl).2
    exact Or.inr ⟨g, cap, cur, rfl, hb, (k.block g (by omega)).trans hg, r⟩
theorem own_base {w : World} {base base' n : Nat} {e : TypeId} {v : Value} {vs : List Value} (h : w.ownsRow base e 1 v n vs) (hb : base' ≤ base) : w.ownsRow base' e 1 v n vs := by
  refine ⟨h.1, ?_⟩
  rcases h.2 with h' | ⟨g, cap, cur, rfl, hb', r⟩
  · exact Or.inl h'
  · exact Or.inr ⟨g, cap, cur, rfl, by omega, r⟩
theorem Lies.news {w : World} {b off : Nat} {vs : List Value} (hc : Lies w b off vs) : ∀ j u, vs[j]? = some u → w.cell? ((⟨b, off, none⟩ : Addr).add j) = some u := by
  intro j u hj
  have hplain : (⟨b, off, none⟩ : Addr).add j = ⟨b, off + j, none⟩ := by unfold Addr.add; split <;> simp_all
  rw [hplain]
  exact hc j u hj
theorem Lies.drop {w : World} {b off : Nat} {vs : List Value} (hc : Lies w b off vs) (k : Nat) : Lies w b (off + k) (vs.drop k) := by
  intro j u hj
  rw [List.getElem?_drop] at hj
  rw [Nat.add_assoc]
  exact hc _ u hj
theorem Lies.bl {w : World} {b off : Nat} {bs : List Bool} (hc : Lies w b off (bls bs)) (k : Nat) (h : k < bs.length) : w.cell? ⟨b, off + k, none⟩ = some (.bool (bs.getD k false)) := hc k _ (bls_at bs k h)
theorem below_new {a w : World} (h : Below a.heap.size a w) (o : Obj) : Below a.heap.size a (w.alloc o) := h.alloc h.size o
theorem int_is {k : IntKind} {a b : Int} (h : a = b) : Value.int k a = .int k b := by rw [h]
theorem hid_as {p : Prop} (h : p) : Hid p := h
theorem below_and {a b c : World} (h : Below a.heap.size a b) (k : Below b.heap.size b c) : Below a.heap.size a c := h.trans (k.mono h.size)
theorem Sl.heap {w W : World} {v : Value} {vs : List Value} (h : Sl w v vs) (hW : W.heap = w.heap) : Sl W v vs := by
  rcases h with h | ⟨b, off, cap, rfl, hcap, hc⟩
  · exact Or.inl h
  · exact Or.inr ⟨b, off, cap, rfl, hcap, hc.kept (by rw [hW])⟩
theorem Sl.drewN {w : World} {v : Value} {vs : List Value} (h : Sl w v vs) (d : Nat) : Sl (w.drewN d) v vs := h
theorem one_cell (w : World) (e : TypeId) (x : Value) : ∀ j u, [x][j]? = some u → (w.alloc (.cells #[x] e)).cell? ((⟨w.heap.size, 0, none⟩ : Addr).add j) = some u := by
  intro j u hj
  match j, hj with
  | 0, hj => simp at hj; subst hj; simp [Addr.add]
theorem one_int (k : IntKind) (x : Int) : ∀ u ∈ [Value.int k x], u.oneCell' = true := by
  intro u hu
  simp at hu
  subst hu
  rfl
theorem cell_row {w : World} {g k : Nat} {l : List Value} {t : TypeId} {v : Value} (h : w.heap[g]? = some (.cells l.toArray t (0, 0))) (hv : l[k]? = some v) : w.cell? ⟨g, k, none⟩ = some v := by
  simp [World.cell?, h, hv]
theorem frozen_row {w : World} {g k : Nat} {l : List Value} {t : TypeId} (h : w.heap[g]? = some (.cells l.toArray t (0, 0))) : w.frozen? ⟨g, k, none⟩ = false := by
  simp [World.frozen?, h]
theorem set_row {w : World} {g k : Nat} {l : List Value} {t : TypeId} (h : w.heap[g]? = some (.cells l.toArray t (0, 0))) (v : Value) : (w.setCell ⟨g, k, none⟩ v).heap[g]? = some (.cells (l.set k v).toArray t (0, 0)) := by
  rw [setCell_eq_setRow w g k _ t (0, 0) v h, setRow_heap w g _ _ t _ h]
  simp
/-- All blocks that there were, but g, are as they were. -/
abbrev Turn (g : Nat) (w w' : World) : Prop := w.grownBy w' (some g)
theorem Turn.refl (g : Nat) (w : World) : Turn g w w := ⟨rfl, rfl, rfl, Nat.le_refl _, fun _ _ _ => rfl⟩
theorem Turn.trans {g : Nat} {a b c : World} (h : Turn g a b) (k : Turn g b c) : Turn g a c :=
  ⟨k.os.trans h.os, k.tape.trans h.tape, k.output.trans h.output, Nat.le_trans h.size k.size, fun j hj hne => (k.block j (Nat.lt_of_lt_of_le hj h.size) hne).trans (h.block j hj hne)⟩
theorem Turn.ofBelow {g : Nat} {w w' : World} (h : Below w.heap.size w w') : Turn g w w' := ⟨h.os, h.tape, h.output, h.size, fun j hj _ => h.block j hj⟩
theorem Turn.set {g : Nat} {w w' : World} (h : Turn g w w') (k : Nat) (v : Value) : Turn g w (w'.setCell ⟨g, k, none⟩ v) := by
  refine ⟨h.os, h.tape, h.output, by simpa using h.size, fun j hj hne => ?_⟩
  rw [Below.heap_setCell _ _ _ _ (fun e => hne (congrArg some e))]
  exact h.block j hj hne
theorem Turn.alloc {g : Nat} {w w' : World} (h : Turn g w w') (o : Obj) : Turn g w (w'.alloc o) := h.trans (Turn.ofBelow (below_new (Below.refl _ w') o))
theorem Turn.drew {g : Nat} {w w' : World} (h : Turn g w w') : Turn g w w'.drew := ⟨h.os, h.tape, h.output, h.size, h.block⟩
theorem Turn.drewN {g : Nat} {w w' : World} (h : Turn g w w') (d : Nat) : Turn g w (w'.drewN d) := ⟨h.os, h.tape, h.output, h.size, h.block⟩
theorem Turn.below {g B : Nat} {w w' : World} (h : Turn g w w') (hB : B ≤ g) (hs : B ≤ w.heap.size) : Below B w w' := ⟨h.os, h.tape, h.output, h.size, fun j hj => h.block j (by omega) (fun e => by simp at e; omega)⟩
/-- The same world but for what was drawn. -/
structure Same (w w' : World) : Prop where
  os : w'.os = w.os
  tape : w'.tape = w.tape
  output : w'.output = w.output
  heap : w'.heap = w.heap
theorem Same.refl (w : World) : Same w w := ⟨rfl, rfl, rfl, rfl⟩
theorem Same.drewN (w : World) (d : Nat) : Same w (w.drewN d) := ⟨rfl, rfl, rfl, rfl⟩
theorem Same.drew (w : World) : Same w w.drew := ⟨rfl, rfl, rfl, rfl⟩
theorem Same.trans {a b c : World} (h : Same a b) (k : Same b c) : Same a c := ⟨k.os.trans h.os, k.tape.trans h.tape, k.output.trans h.output, k.heap.trans h.heap⟩
theorem Same.below {w w' : World} (h : Same w w') : Below w.heap.size w w' := ⟨h.os, h.tape, h.output, by rw [h.heap]; exact Nat.le_refl _, fun j _ => by rw [h.heap]⟩
/-- Only these blocks, of those that there were, may have turned. -/
structure Only (S : List Nat) (w w' : World) : Prop where
  os : w'.os = w.os
  tape : w'.tape = w.tape
  output : w'.output = w.output
  size : w.heap.size ≤ w'.heap.size
  block : ∀ j, j < w.heap.size → j ∉ S → w'.heap[j]? = w.heap[j]?
theorem Only.refl (S : List Nat) (w : World) : Only S w w := ⟨rfl, rfl, rfl, Nat.le_refl _, fun _ _ _ => rfl⟩
theorem Only.trans {S : List Nat} {a b c : World} (h : Only S a b) (k : Only S b c) : Only S a c :=
  ⟨k.os.trans h.os, k.tape.trans h.tape, k.output.trans h.output, Nat.le_trans h.size k.size, fun j hj hne => (k.block j (Nat.lt_of_lt_of_le hj h.size) hne).trans (h.block j hj hne)⟩
theorem Only.ofBelow {S : List Nat} {w w' : World} (h : Below w.heap.size w w') : Only S w w' := ⟨h.os, h.tape, h.output, h.size, fun j hj _ => h.block j hj⟩
theorem Only.ofTurn {S : List Nat} {g : Nat} {w w' : World} (h : Turn g w w') (hg : g ∈ S) : Only S w w' := ⟨h.os, h.tape, h.output, h.size, fun j hj hne => h.block j hj (fun e => by
  have e' : j = g := by simpa using e
  exact hne (e' ▸ hg))⟩
theorem Only.below {S : List Nat} {B : Nat} {w w' : World} (h : Only S w w') (hS : ∀ j ∈ S, B ≤ j) (hB : B ≤ w.heap.size) : Below B w w' := ⟨h.os, h.tape, h.output, h.size, fun j hj => h.block j (by omega) (fun e => by have := hS j e; omega)⟩
theorem Only.none {w w' : World} (h : Only [] w w') : Below w.heap.size w w' := h.below (fun j hj => by cases hj) (Nat.le_refl _)
theorem Only.mono {S T : List Nat} {w w' : World} (h : Only S w w') (k : ∀ j ∈ S, j ∈ T) : Only T w w' := ⟨h.os, h.tape, h.output, h.size, fun j hj hne => h.block j hj (fun e => hne (k j e))⟩
theorem Same.only {w w' : World} (h : Same w w') (S : List Nat) : Only S w w' := Only.ofBelow h.below
theorem Sl.same {w u : World} {v : Value} {vs : List Value} (t : Sl w v vs) (k : Same w u) : Sl u v vs := t.heap k.heap
def i64s (l : List Int) : List Value := l.map fun x => Value.int .i64 x
theorem i64s_len (l : List Int) : (i64s l).length = l.length := by simp [i64s]
theorem i64s_at (l : List Int) (k : Nat) (h : k < l.length) : (i64s l)[k]? = some (.int .i64 (l.getD k 0)) := by simp [i64s, List.getD_eq_getElem?_getD, List.getElem?_eq_getElem h]
theorem sl64_at {w : World} {ao : Option Addr} {n c k : Nat} {l : List Int} (h : Sl w (.slice ao n c) (i64s l)) (hk : k < l.length) : ∃ b off, ao = some ⟨b, off, none⟩ ∧ w.cell? ⟨b, off + k, none⟩ = some (.int .i64 (l.getD k 0)) := by
  rcases h with ⟨h0, _⟩ | ⟨b, off, cap, e, _, hl⟩
  · have := congrArg List.length h0
    rw [i64s_len] at this
    simp at this
    simp [this] at hk
  · simp only [Value.slice.injEq] at e
    exact ⟨b, off, e.1, hl k _ (i64s_at l k hk)⟩
theorem take_eq_succ {a b : List Int} {k : Nat} (h : a.take k = b.take k) (ha : k < a.length) (hb : k < b.length) (e : a.getD k 0 = b.getD k 0) : a.take (k + 1) = b.take (k + 1) := by
  rw [List.getD_eq_getElem?_getD, List.getD_eq_getElem?_getD, List.getElem?_eq_getElem ha, List.getElem?_eq_getElem hb] at e
  rw [List.take_add_one, List.take_add_one, h, List.getElem?_eq_getElem ha, List.getElem?_eq_getElem hb]
  simp only [Option.getD_some] at e
  rw [e]
set_option maxHeartbeats 800000 in
theorem nums_at {w : World} {a b : List Int} {ao bo : Option Addr} {n m c d : Nat} (ha : Sl w (.slice ao n c) (i64s a)) (hb : Sl w (.slice bo m d) (i64s b)) (hn : n = a.length) (hm : m = b.length) (h9 : n ≤ 1000000) :
    Calls Tryd.prog 15 #[.slice ao n c, .slice bo m d] w fun e w' => e = .returned (.bool (decide (a = b))) ∧ Same w w' := by
  have HA := hid_as ha
  have HB := hid_as hb
  have HN := hid_as hn
  have HM := hid_as hm
  clear ha hb hn hm
  by_cases hnm : n = m
  · subst hnm
    go_enter Tryd.func15, Tryd.ntmps15
    go_wp2
    go_loopw [5] (fun i wr => ∃ k : Nat, k ≤ n ∧ i = .int .i64 k ∧ a.take k = b.take k ∧ Same w wr) (fun i _ => n - (intOf i).toNat)
    case atStart => exact ⟨0, by omega, rfl, rfl, Same.refl _⟩
    case round =>
      obtain ⟨k, hk, rfl, ht, hS⟩ := hrel
      have HT := hid_as ht
      have KS := hid_as hS
      clear ht hS
      by_cases hkn : k < n
      · have hk2 : (k : Int) < (n : Int) := by omega
        obtain ⟨b1, f1, rfl, c1⟩ := sl64_at (HA.out.same KS.out) (k := k) (by rw [← HN.out]; exact hkn)
        obtain ⟨b2, f2, rfl, c2⟩ := sl64_at (HB.out.same KS.out) (k := k) (by rw [← HM.out]; exact hkn)
        obtain ⟨x, hx⟩ : ∃ x, x = a.getD k 0 := ⟨_, rfl⟩
        obtain ⟨y, hy⟩ : ∃ y, y = b.getD k 0 := ⟨_, rfl⟩
        rw [← hx] at c1
        rw [← hy] at c2
        have HX := hid_as hx
        have HY := hid_as hy
        clear hx hy
        by_cases he : x = y
        · have TE := hid_as (take_eq_succ HT.out (by rw [← HN.out]; exact hkn) (by rw [← HM.out]; exact hkn) (by rw [← HX.out, ← HY.out]; exact he))
          subst he
          go_upto_region 6 with fail
          go_quiet (fail)
          go_wp2
          go_roundw
          case rel => exact ⟨k + 1, by omega, by go_num, TE.out, KS.out.trans (Same.drewN _ _)⟩
          case measure => simp [intOf]; omega
        · have NE : Hid (decide (a = b) = false) := decide_eq_false (fun e => he (by rw [HX.out, HY.out, e]))
          have hb1 : (x == y) = false := by rw [beq_eq_false_iff_ne]; exact he
          have hb2 : (x != y) = true := by rw [bne_iff_ne]; exact he
          go_upto_region 6 with fail
          go_quiet (fail)
          go_wp2
          go_ret
          exact ⟨congrArg (fun t => Ending.returned (Value.bool t)) NE.out.symm, KS.out.trans (Same.drewN _ _)⟩
      · obtain rfl : k = n := by omega
        have EQ : Hid (decide (a = b) = true) := decide_eq_true (by
          have := HT.out
          rw [List.take_of_length_le (by rw [← HN.out]; exact Nat.le_refl _), List.take_of_length_le (by rw [← HM.out]; exact Nat.le_refl _)] at this
          exact this)
        go_wp2
        go_ret
        exact ⟨congrArg (fun t => Ending.returned (Value.bool t)) EQ.out.symm, KS.out⟩
  · have NE : Hid (decide (a = b) = false) := decide_eq_false (fun e => hnm (by rw [HN.out, HM.out, e]))
    have hb1 : ((n : Int) == (m : Int)) = false := by rw [beq_eq_false_iff_ne]; omega
    have hb2 : ((n : Int) != (m : Int)) = true := by rw [bne_iff_ne]; omega
    clear HA HB
    go_enter Tryd.func15, Tryd.ntmps15
    go_wp2
    go_ret
    exact ⟨congrArg (fun t => Ending.returned (Value.bool t)) NE.out.symm, Same.refl _⟩
theorem nums_c {w : World} {a b : List Int} {va vb : Value} (ha : Sl w va (i64s a)) (hb : Sl w vb (i64s b)) (h9 : a.length ≤ 1000000) :
    Calls Tryd.prog 15 #[va, vb] w fun e w' => e = .returned (.bool (decide (a = b))) ∧ Same w w' := by
  obtain ⟨ao, c, rfl⟩ := ha.shape
  obtain ⟨bo, d, rfl⟩ := hb.shape
  have e1 := i64s_len a
  have e2 := i64s_len b
  rw [e1] at ha ⊢
  rw [e2] at hb ⊢
  exact nums_at ha hb rfl rfl h9
theorem info_parts {P : Program} {t : TypeId} {z : Value} {n b : Nat} (h : (P.info? t).map (fun i => (i.zero, i.size, i.bytes)) = some (some z, n, b)) : ∃ i, P.info? t = some i ∧ i.zero = some z ∧ i.size = n ∧ i.bytes = b := by
  cases hq : P.info? t with
  | none => rw [hq] at h; cases h
  | some i => rw [hq] at h; simp at h; exact ⟨i, rfl, h.1, h.2.1, h.2.2⟩
theorem run_append_sl {P : Program} {w : World} (base : Nat) (t ty e : TypeId) (i : TypeInfo) (z : Value) (bytes : Nat) (ht : P.underlying t = some (.slice e)) (hi : P.info? e = some i) (hz : i.zero = some z)
    (hsize : i.size = 1) (hby : i.bytes = bytes) (hzs : z.cells.size = 1) (v : Value) (n : Nat) (xs : List Value) (hown : w.ownsRow base e 1 v n xs)
    (x : Value) (news : List Value) (hx : Sl w x news) (h1 : ∀ u ∈ news, u.oneCell' = true) (h63 : n + news.length ≤ maxLen) (hbytes : (n + news.length) * bytes ≤ 140737488355328) (hbase : base ≤ w.heap.size) :
    ∃ v' w', (Builtin.append_ #[t, t] ty #[v, x]).run P w = .ok v' w' ∧ w'.ownsRow base e 1 v' (n + news.length) (xs ++ news) ∧ w.grownBy w' v.ownBlock := by
  rcases hx with ⟨rfl, ao, cap, rfl, h0⟩ | ⟨b, off, cap, rfl, hcap, hc⟩
  · match ao, h0 with
    | none, h0 =>
      rw [h0 rfl]
      refine ⟨v, w, run_append_owned_none (P := P) (w := w) base t ty e i 1 ht hi v n xs hown, ?_, ⟨rfl, rfl, rfl, Nat.le_refl _, fun _ _ _ => rfl⟩⟩
      rw [List.length_nil, Nat.add_zero, List.append_nil]
      exact hown
    | some a, _ =>
      obtain ⟨v', w', hr, h2, h3, _⟩ := run_append_own (P := P) w base t ty e i z 1 bytes ht hi hz hsize hby hzs (by decide) v n xs hown a 0 cap [] rfl (fun j u hj => by simp at hj) (fun u hu => by simp at hu) (by simpa using h63) (by simpa using hbytes) hbase
      exact ⟨v', w', hr, h2, h3⟩
  · obtain ⟨v', w', hr, h2, h3, _⟩ := run_append_own (P := P) w base t ty e i z 1 bytes ht hi hz hsize hby hzs (by decide) v n xs hown ⟨b, off, none⟩ news.length cap news (by rw [Nat.mul_one]) hc.news h1 h63 hbytes hbase
    exact ⟨v', w', hr, h2, h3⟩
theorem one_nums (l : List Int) : ∀ u ∈ i64s l, u.oneCell' = true := by
  intro u hu
  simp only [i64s, List.mem_map] at hu
  obtain ⟨x, _, rfl⟩ := hu
  rfl
theorem own_shape {w : World} {base n : Nat} {e : TypeId} {v : Value} {vs : List Value} (h : w.ownsRow base e 1 v n vs) : ∃ ao c, v = .slice ao n c := by
  rcases h.2 with ⟨rfl, h0⟩ | ⟨g, cap, cur, rfl, _⟩
  · exact ⟨none, 0, by rw [h0]⟩
  · exact ⟨_, _, rfl⟩
theorem own_at {w : World} {base n s : Nat} {e : TypeId} {v : Value} {vs : List Value} (h : w.ownsRow base e s v n vs) (h0 : 0 < n) : ∃ g c, v = .slice (some ⟨g, 0, none⟩) n c := by
  rcases h.2 with ⟨_, h'⟩ | ⟨g, cap, cur, e, _⟩
  · omega
  · exact ⟨g, cap, e⟩
theorem take_snocL {α : Type} (l : List α) (k : Nat) (h : k < l.length) : l.take (k + 1) = l.take k ++ [l[k]'h] := by
  rw [List.take_add_one, List.getElem?_eq_getElem h]; rfl
theorem lies_new (w : World) (vs : List Value) (e : TypeId) : Lies (w.alloc (.cells vs.toArray e)) w.heap.size 0 vs := by
  intro k u hk
  rw [Nat.zero_add]
  exact cell_row (l := vs) (t := e) (heap_alloc_new w _) hk
theorem one_str (x : ByteArray) : ∀ u ∈ [Value.string x], u.oneCell' = true := by
  intro u hu
  simp at hu
  subst hu
  rfl
theorem one_cell1 (w : World) (o : Obj) (e : TypeId) (x : Value) : ∀ j u, [x][j]? = some u → ((w.alloc o).alloc (.cells #[x] e)).cell? ((⟨w.heap.size + 1, 0, none⟩ : Addr).add j) = some u := by
  have := one_cell (w.alloc o) e x
  simpa using this
theorem below_new1 (w : World) (o : Obj) : Below w.heap.size w (w.alloc o) := below_new (Below.refl _ w) o
end Go.Proofs.YtkknfolahfmghaaDoor
