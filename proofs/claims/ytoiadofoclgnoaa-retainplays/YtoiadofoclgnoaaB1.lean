/- Bytes and words in plain mathematics, and in memory (stage 9). -/
import Derived.Test.YtoiadofoclgnoaaProg
import Derived.WalkKit
import Derived.WalkSpells
import Derived.WalkLawsBesides
import Derived.Laws.NewBlocks
import Derived.Laws.AppendOwnNone
import Derived.OwnWalk
import Derived.BigQuiet
import Derived.Deep.QuietTactic
import Derived.Deep.RegionLaw
import Derived.Laws.BytesArg
import Derived.Lib.AppendZeros
import Derived.Deep.OwnRows
import Derived.Deep.RegionHeld3
import Derived.Deep.Cut
import Derived.Deep.RegionWith
namespace Go.Proofs.Ytoiadofoclgnoaa
namespace Pdu
/-- A number of two bytes, the higher one first. -/
def wd (x : Nat) : List Nat := [x / 256, x % 256]
def wds (l : List Nat) : List Nat := l.flatMap wd
def wordAt (b : List Nat) (i : Nat) : Nat := 256 * b.getD i 0 + b.getD (i + 1) 0
def Bytes (bs : List Nat) : Prop := ∀ x ∈ bs, x < 256
def Words (l : List Nat) : Prop := ∀ x ∈ l, x < 65536
theorem Bytes.at {bs : List Nat} (h : Bytes bs) (k : Nat) : bs.getD k 0 < 256 := by
  by_cases hk : k < bs.length
  · rw [List.getD_eq_getElem?_getD, List.getElem?_eq_getElem hk]
    exact h _ (List.getElem_mem hk)
  · rw [List.getD_eq_getElem?_getD, List.getElem?_eq_none (by omega)]
    decide
theorem Words.at {bs : List Nat} (h : Words bs) (k : Nat) : bs.getD k 0 < 65536 := by
  by_cases hk : k < bs.length
  · rw [List.getD_eq_getElem?_getD, List.getElem?_eq_getElem hk]
    exact h _ (List.getElem_mem hk)
  · rw [List.getD_eq_getElem?_getD, List.getElem?_eq_none (by omega)]
    decide
theorem Bytes.nil : Bytes [] := fun _ h => by simp at h
theorem Bytes.app {a b : List Nat} (ha : Bytes a) (hb : Bytes b) : Bytes (a ++ b) := fun x hx => (List.mem_append.1 hx).elim (ha x) (hb x)
theorem Bytes.cons {a : Nat} {b : List Nat} (ha : a < 256) (hb : Bytes b) : Bytes (a :: b) := fun x hx => by
  rcases List.mem_cons.1 hx with rfl | hx
  · exact ha
  · exact hb x hx
theorem Bytes.take {bs : List Nat} (h : Bytes bs) (k : Nat) : Bytes (bs.take k) := fun x hx => h x (List.mem_of_mem_take hx)
theorem Bytes.drop {bs : List Nat} (h : Bytes bs) (k : Nat) : Bytes (bs.drop k) := fun x hx => h x (List.mem_of_mem_drop hx)
theorem wd_bytes {x : Nat} (h : x < 65536) : Bytes (wd x) := by
  intro y hy
  simp only [wd, List.mem_cons, List.not_mem_nil, or_false] at hy
  omega
theorem wds_bytes {l : List Nat} (h : Words l) : Bytes (wds l) := by
  intro y hy
  simp only [wds, List.mem_flatMap] at hy
  obtain ⟨x, hx, hy⟩ := hy
  exact wd_bytes (h x hx) y hy
theorem wds_length (l : List Nat) : (wds l).length = 2 * l.length := by
  induction l with
  | nil => rfl
  | cons a l ih => simp only [wds, List.flatMap_cons, List.length_append, List.length_cons] at *; rw [ih]; simp only [wd, List.length_cons, List.length_nil]; omega
theorem wds_cons (a : Nat) (l : List Nat) : wds (a :: l) = wd a ++ wds l := by simp [wds]
theorem wds_app (a b : List Nat) : wds (a ++ b) = wds a ++ wds b := by simp [wds]
theorem wds_one (a : Nat) : wds [a] = wd a := by simp [wds]
theorem wds_two (a b : Nat) : wds [a, b] = wd a ++ wd b := by simp [wds]
theorem wds_three (a b c : Nat) : wds [a, b, c] = wd a ++ (wd b ++ wd c) := by simp [wds]
theorem wds_take_succ (l : List Nat) (k : Nat) (h : k < l.length) : wds (l.take (k + 1)) = wds (l.take k) ++ wd (l.getD k 0) := by
  rw [List.take_add_one, List.getElem?_eq_getElem h, wds_app, List.getD_eq_getElem?_getD, List.getElem?_eq_getElem h]
  simp [wds]
theorem wordAt_lt {b : List Nat} (h : Bytes b) (i : Nat) : wordAt b i < 65536 := by
  have h1 := h.at i
  have h2 := h.at (i + 1)
  unfold wordAt
  omega
theorem wd_length (x : Nat) : (wd x).length = 2 := rfl
end Pdu
open Go.RowKit
open Pdu
def u8s (bs : List Nat) : List Value := bs.map fun (x : Nat) => Value.int .u8 (x : Int)
def u16s (bs : List Nat) : List Value := bs.map fun (x : Nat) => Value.int .u16 (x : Int)
def bls (bs : List Bool) : List Value := bs.map Value.bool
theorem u8s_len (bs : List Nat) : (u8s bs).length = bs.length := by simp [u8s]
theorem u16s_len (bs : List Nat) : (u16s bs).length = bs.length := by simp [u16s]
theorem bls_len (bs : List Bool) : (bls bs).length = bs.length := by simp [bls]
theorem u8s_app (a b : List Nat) : u8s (a ++ b) = u8s a ++ u8s b := by simp [u8s]
theorem u16s_app (a b : List Nat) : u16s (a ++ b) = u16s a ++ u16s b := by simp [u16s]
theorem bls_app (a b : List Bool) : bls (a ++ b) = bls a ++ bls b := by simp [bls]
theorem u8s_at (bs : List Nat) (k : Nat) (h : k < bs.length) : (u8s bs)[k]? = some (.int .u8 (bs.getD k 0 : Nat)) := by simp [u8s, List.getD_eq_getElem?_getD, List.getElem?_eq_getElem h]
theorem u16s_at (bs : List Nat) (k : Nat) (h : k < bs.length) : (u16s bs)[k]? = some (.int .u16 (bs.getD k 0 : Nat)) := by simp [u16s, List.getD_eq_getElem?_getD, List.getElem?_eq_getElem h]
theorem bls_at (bs : List Bool) (k : Nat) (h : k < bs.length) : (bls bs)[k]? = some (.bool (bs.getD k false)) := by simp [bls, List.getD_eq_getElem?_getD, List.getElem?_eq_getElem h]
theorem u8s_one (bs : List Nat) : ∀ u ∈ u8s bs, u.oneCell' = true := by
  intro u hu
  simp only [u8s, List.mem_map] at hu
  obtain ⟨x, _, rfl⟩ := hu
  rfl
theorem u16s_one (bs : List Nat) : ∀ u ∈ u16s bs, u.oneCell' = true := by
  intro u hu
  simp only [u16s, List.mem_map] at hu
  obtain ⟨x, _, rfl⟩ := hu
  rfl
theorem bls_one (bs : List Bool) : ∀ u ∈ bls bs, u.oneCell' = true := by
  intro u hu
  simp only [bls, List.mem_map] at hu
  obtain ⟨x, _, rfl⟩ := hu
  rfl
theorem u8s_set (l : List Nat) (i x : Nat) : u8s (l.set i x) = (u8s l).set i (.int .u8 (x : Int)) := by simp [u8s, List.map_set]
theorem u16s_set (l : List Nat) (i x : Nat) : u16s (l.set i x) = (u16s l).set i (.int .u16 (x : Int)) := by simp [u16s, List.map_set]
theorem bls_set (l : List Bool) (i : Nat) (x : Bool) : bls (l.set i x) = (bls l).set i (.bool x) := by simp [bls, List.map_set]
/-- The values vs lie in block b from off on. -/
def Lies (w : World) (b off : Nat) (vs : List Value) : Prop := ∀ k u, vs[k]? = some u → w.cell? ⟨b, off + k, none⟩ = some u
/-- A slice value of these values, in this world. -/
def Sl (w : World) (v : Value) (vs : List Value) : Prop := (vs = [] ∧ ∃ ao cap, v = .slice ao 0 cap ∧ (ao = none → cap = 0)) ∨ ∃ b off cap, v = .slice (some ⟨b, off, none⟩) vs.length cap ∧ vs.length ≤ cap ∧ Lies w b off vs
theorem lt_of_cell {w : World} {a : Addr} {v : Value} (h : w.cell? a = some v) : a.block < w.heap.size := World.block_lt_of_cell? w a h
theorem Lies.below {w u : World} {b off : Nat} {vs : List Value} (h : Lies w b off vs) (k : Below w.heap.size w u) : Lies u b off vs := fun i x hx => (k.cell (p := ⟨b, off + i, none⟩) (lt_of_cell (h i x hx))).trans (h i x hx)
theorem Lies.kept {w u : World} {b off : Nat} {vs : List Value} (h : Lies w b off vs) (k : u.heap[b]? = w.heap[b]?) : Lies u b off vs := fun i x hx => (World.cell?_of_block (w := w) (a := ⟨b, off + i, none⟩) k).trans (h i x hx)
theorem Sl.below {w u : World} {v : Value} {vs : List Value} (h : Sl w v vs) (k : Below w.heap.size w u) : Sl u v vs := by
  rcases h with h | ⟨b, off, cap, rfl, hcap, hc⟩
  · exact Or.inl h
  · exact Or.inr ⟨b, off, cap, rfl, hcap, hc.below k⟩
theorem Sl.shape {w : World} {v : Value} {vs : List Value} (h : Sl w v vs) : ∃ ao c, v = .slice ao vs.length c := by
  rcases h with ⟨rfl, ao, cap, rfl, _⟩ | ⟨b, off, cap, rfl, _⟩
  · exact ⟨ao, cap, rfl⟩
  · exact ⟨_, _, rfl⟩
theorem Sl.nil (w : World) : Sl w (.slice none 0 0) [] := Or.inl ⟨rfl, none, 0, rfl, fun _ => rfl⟩
theorem own_sl {w : World} {base n : Nat} {e : TypeId} {v : Value} {vs : List Value} (h : w.ownsRow base e 1 v n vs) : Sl w v vs := by
  have hl : vs.length = n := by simpa using h.1
  rcases h.2 with ⟨rfl, h0⟩ | ⟨g, cap, cur, rfl, hb, hg, hn, hm, hs, ht⟩
  · have : vs = [] := List.length_eq_zero_iff.1 (by omega)
    subst this
    exact Sl.nil w
  · refine Or.inr ⟨g, 0, cap, by rw [hl], by omega, fun j u hj => ?_⟩
    have hlt : j < n := by have := (List.getElem?_eq_some_iff.1 hj).1; omega
    rw [Nat.zero_add, h.cellAt j (by omega), hj]
theorem own_below {w u : World} {base n B : Nat} {e : TypeId} {v : Value} {vs : List Value} (h : w.ownsRow base e 1 v n vs) (k : Below B w u) (hB : w.heap.size ≤ B) : u.ownsRow base e 1 v n vs := by
  refine ⟨h.1, ?_⟩
  rcases h.2 with h' | ⟨g, cap, cur, rfl, hb, hg, r⟩
  · exact Or.inl h'
  · have hlt : g < w.heap.size := (h.lt g rfl).2
    exact Or.inr ⟨g, cap, cur, rfl, hb, (k.block g (by omega)).trans hg, r⟩
theorem own_base {w : World} {base base' n : Nat} {e : TypeId} {v : Value} {vs : List Value} (h : w.ownsRow base e 1 v n vs) (hb : base' ≤ base) : w.ownsRow base' e 1 v n vs := by
  refine ⟨h.1, ?_⟩
  rcases h.2 with h' | ⟨g, cap, cur, rfl, hb', r⟩
  · exact Or.inl h'
  · exact Or.inr ⟨g, cap, cur, rfl, by omega, r⟩
theorem Lies.news {w : World} {b off : Nat} {vs : List Value} (hc : Lies w b off vs) : ∀ j u, vs[j]? = some u → w.cell? ((⟨b, off, none⟩ : Addr).add j) = some u := by
  intro j u hj
  have hplain : (⟨b, off, none⟩ : Addr).add j = ⟨b, off + j, none⟩ := by unfold Addr.add; split <;> simp_all
  rw [hplain]
  exact hc j u hj
theorem Lies.drop {w : World} {b off : Nat} {vs : List Value} (hc : Lies w b off vs) (k : Nat) : Lies w b (off + k) (vs.drop k) := by
  intro j u hj
  rw [List.getElem?_drop] at hj
  rw [Nat.add_assoc]
  exact hc _ u hj
theorem Lies.u8 {w : World} {b off : Nat} {bs : List Nat} (hc : Lies w b off (u8s bs)) (k : Nat) (h : k < bs.length) : w.cell? ⟨b, off + k, none⟩ = some (.int .u8 (bs.getD k 0 : Nat)) := hc k _ (u8s_at bs k h)
theorem Lies.u16 {w : World} {b off : Nat} {bs : List Nat} (hc : Lies w b off (u16s bs)) (k : Nat) (h : k < bs.length) : w.cell? ⟨b, off + k, none⟩ = some (.int .u16 (bs.getD k 0 : Nat)) := hc k _ (u16s_at bs k h)
theorem Lies.bl {w : World} {b off : Nat} {bs : List Bool} (hc : Lies w b off (bls bs)) (k : Nat) (h : k < bs.length) : w.cell? ⟨b, off + k, none⟩ = some (.bool (bs.getD k false)) := hc k _ (bls_at bs k h)
theorem below_new {a w : World} (h : Below a.heap.size a w) (o : Obj) : Below a.heap.size a (w.alloc o) := h.alloc h.size o
theorem int_is {k : IntKind} {a b : Int} (h : a = b) : Value.int k a = .int k b := by rw [h]
theorem Try.infoByte : (Try.prog.info? 5).map (fun i => (i.zero, i.size, i.bytes)) = some (some (.int .u8 0), 1, 1) := by kernel_rfl
theorem Try.infoBool : (Try.prog.info? 4).map (fun i => (i.zero, i.size, i.bytes)) = some (some (.bool false), 1, 1) := by kernel_rfl
theorem hid_as {p : Prop} (h : p) : Hid p := h
theorem below_and {a b c : World} (h : Below a.heap.size a b) (k : Below b.heap.size b c) : Below a.heap.size a c := h.trans (k.mono h.size)
theorem or_16 {x y : Nat} (hx : x < 256) (hy : y < 256) : bits .or .u16 ((x : Int) * 256) (y : Int) = ((256 * x + y : Nat) : Int) := by
  rw [show (x : Int) * 256 = ((256 * x : Nat) : Int) by omega]
  show IntKind.u16.wrap ((BitVec.ofInt 16 ((256 * x : Nat) : Int) ||| BitVec.ofInt 16 (y : Int)).toNat : Int) = _
  have h : (BitVec.ofInt 16 ((256 * x : Nat) : Int) ||| BitVec.ofInt 16 (y : Int)).toNat = 256 * x + y := by
    rw [BitVec.toNat_or, BitVec.ofInt_natCast, BitVec.toNat_ofNat, BitVec.ofInt_natCast, BitVec.toNat_ofNat, Nat.mod_eq_of_lt (by omega), Nat.mod_eq_of_lt (by omega)]
    have := Nat.two_pow_add_eq_or_of_lt (i := 8) (b := y) (by omega) x
    simpa using this.symm
  rw [h, IntKind.wrap_u16]
  omega
/-- append to a row of the call's own, as one step of a region that draws. -/
theorem step_append_own {P : Program} {ops : Array Oper} {o : Oper} {a : Act} {w : World} {K : Act → World → Prop} {Q : Exit → Act → World → Prop} {E : Prop}
    (hg : o.guard = none) (s x : Operand) (t : TypeId) (ho : o.op = .call { callee := .builtin .append, args := #[s, x], argTypes := #[t, t] })
    (base : Nat) (e : TypeId) (i : TypeInfo) (z : Value) (size bytes : Nat) (ht : P.underlying t = some (.slice e)) (hi : P.info? e = some i) (hz : i.zero = some z)
    (hsize : i.size = size) (hby : i.bytes = bytes) (hzs : z.cells.size = size) (hsz : 0 < size)
    (v : Value) (n : Nat) (xs : List Value) (hs : a.eval s = v) (hown : w.ownsRow base e size v n xs)
    (ad : Addr) (m c : Nat) (news : List Value) (hx : a.eval x = .slice (some ad) m c) (hl : news.length = m * size) (hnews : ∀ j u, news[j]? = some u → w.cell? (ad.add j) = some u) (h1 : ∀ u ∈ news, u.oneCell' = true)
    (h63 : n + m ≤ maxLen) (hbytes : (n + m) * bytes ≤ 140737488355328) (hbase : base ≤ w.heap.size)
    (h : ∀ v' w', w'.ownsRow base e size v' (n + m) (xs ++ news) → w.grownBy w' v.ownBlock → (v' = .slice none 0 0 ↔ v = .slice none 0 0 ∧ m = 0) → K (a.put o.dst v') w') :
    if Region.wanted o (yielded ops a.tmps) = true then Oper.wp P o a w K Q else E := by
  rw [if_pos (by simp [Region.wanted, hg])]
  exact wp_append_own w s x t ho base e i z size bytes ht hi hz hsize hby hzs hsz v n xs hs hown ad m c news hx hl hnews h1 h63 hbytes hbase h
theorem wd_u8s (x : Nat) : u8s (wd x) = [.int .u8 ((x : Int) / 256), .int .u8 ((x : Int) % 256)] := by simp [u8s, wd]
theorem two_cells (w : World) (e : TypeId) (x y : Value) : ∀ j u, [x, y][j]? = some u → (w.alloc (.cells #[x, y] e)).cell? ((⟨w.heap.size, 0, none⟩ : Addr).add j) = some u := by
  intro j u hj
  match j, hj with
  | 0, hj => simp at hj; subst hj; simp [Addr.add]
  | 1, hj => simp at hj; subst hj; simp [Addr.add]
theorem two_one (k : IntKind) (x y : Int) : ∀ u ∈ [Value.int k x, Value.int k y], u.oneCell' = true := by
  intro u hu
  simp at hu
  rcases hu with rfl | rfl <;> rfl
theorem own_grow {w w1 : World} {base n : Nat} {v : Value} {xs : List Value} {o : Obj} (h : w.ownsRow base 5 1 v n xs) (hbase : base ≤ w.heap.size) (hg : (w.alloc o).grownBy w1 v.ownBlock) : Below base w w1 :=
  ((Below.refl base w).alloc hbase o).grown hg (by simp; omega) (fun g hg' => (h.lt g hg').1)
/-- A slice that lies below base. -/
def Old (base : Nat) (v : Value) (vs : List Value) : Prop := vs ≠ [] → ∀ a n c, v = .slice (some a) n c → a.block < base
theorem Sl.old {w : World} {v : Value} {vs : List Value} (h : Sl w v vs) {base : Nat} (hb : w.heap.size ≤ base) : Old base v vs := by
  intro hne a n c hv
  rcases h with ⟨h, _⟩ | ⟨b, off, cap, rfl, _, hc⟩
  · exact absurd h hne
  · simp only [Value.slice.injEq, Option.some.injEq] at hv
    have h0 : 0 < vs.length := List.length_pos_iff.2 hne
    have := lt_of_cell (hc 0 _ (List.getElem?_eq_getElem h0))
    rw [← hv.1]
    exact Nat.lt_of_lt_of_le this hb
theorem Sl.keep {base : Nat} {w u : World} {v : Value} {vs : List Value} (h : Sl w v vs) (ho : Old base v vs) (k : Below base w u) : Sl u v vs := by
  rcases h with h | ⟨b, off, cap, rfl, hcap, hc⟩
  · exact Or.inl h
  · by_cases hne : vs = []
    · subst hne
      exact Or.inl ⟨rfl, some ⟨b, off, none⟩, cap, rfl, fun h => by simp at h⟩
    · exact Or.inr ⟨b, off, cap, rfl, hcap, hc.kept (k.block b (ho hne _ _ _ rfl))⟩
theorem lit_own (w : World) (x : Nat) : (w.alloc (.cells #[.int .u8 x] 5)).ownsRow w.heap.size 5 1 (.slice (some ⟨w.heap.size, 0, none⟩) 1 1) 1 (u8s [x]) :=
  World.ownsRow_lit w #[.int .u8 (x : Int)] 1 (Nat.le_refl _) (by unfold maxLen; omega) rfl
theorem words_one {x : Nat} (h : x < 65536) : Words [x] := by intro y hy; simp at hy; omega
theorem words_three {x y z : Nat} (h : x < 65536) (h2 : y < 65536) (h3 : z < 65536) : Words [x, y, z] := by intro t ht; simp at ht; omega
/-- A slice cut at k. -/
def cutA (b off cap k : Nat) : Addr := if cap = k then ⟨b, off, none⟩ else ⟨b, off + k, none⟩
def cutV (b off n cap k : Nat) : Value := .slice (some (cutA b off cap k)) (n - k) (cap - k)
theorem cut_sl {w : World} {b off n cap k : Nat} {vs : List Value} (hn : n = vs.length) (hcap : n ≤ cap) (hk : k ≤ n) (h : Lies w b off vs) : Sl w (cutV b off n cap k) (vs.drop k) := by
  unfold cutV cutA
  by_cases hc : cap = k
  · have : vs.drop k = [] := List.drop_eq_nil_of_le (by omega)
    rw [this, show n - k = 0 by omega]
    exact Or.inl ⟨rfl, _, _, rfl, fun h => by simp at h⟩
  · rw [if_neg hc]
    exact Or.inr ⟨b, off + k, cap - k, by rw [List.length_drop, hn], by rw [List.length_drop]; omega, h.drop k⟩
theorem Sl.heap {w W : World} {v : Value} {vs : List Value} (h : Sl w v vs) (hW : W.heap = w.heap) : Sl W v vs := by
  rcases h with h | ⟨b, off, cap, rfl, hcap, hc⟩
  · exact Or.inl h
  · exact Or.inr ⟨b, off, cap, rfl, hcap, hc.kept (by rw [hW])⟩
theorem Sl.drewN {w : World} {v : Value} {vs : List Value} (h : Sl w v vs) (d : Nat) : Sl (w.drewN d) v vs := h
theorem Sl.undrew {w : World} {v : Value} {vs : List Value} {d : Nat} (h : Sl (w.drewN d) v vs) : Sl w v vs := h
theorem u8s_drop (bs : List Nat) (k : Nat) : u8s (bs.drop k) = (u8s bs).drop k := by simp [u8s]
end Go.Proofs.Ytoiadofoclgnoaa
