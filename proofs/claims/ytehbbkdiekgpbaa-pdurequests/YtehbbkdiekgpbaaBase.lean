/- Slices in memory: bytes, words, bits; what of them stays. -/
import Derived.Test.YtehbbkdiekgpbaaProg
import Derived.Test.YtehbbkdiekgpbaaPlain2
import Derived.WalkKit
import Derived.WalkSpells
import Derived.WalkLawsBesides
import Derived.Laws.NewBlocks
import Derived.Laws.AppendOwnNone
import Derived.OwnWalk
namespace Go.Proofs.Ytehbbkdiekgpbaa
open Go.RowKit
open Pdu
def u8s (bs : List Nat) : List Value := bs.map fun (x : Nat) => Value.int .u8 (x : Int)
def u16s (bs : List Nat) : List Value := bs.map fun (x : Nat) => Value.int .u16 (x : Int)
def bls (bs : List Bool) : List Value := bs.map Value.bool
theorem u8s_len (bs : List Nat) : (u8s bs).length = bs.length := by simp [u8s]
theorem u16s_len (bs : List Nat) : (u16s bs).length = bs.length := by simp [u16s]
theorem bls_len (bs : List Bool) : (bls bs).length = bs.length := by simp [bls]
theorem u8s_app (a b : List Nat) : u8s (a ++ b) = u8s a ++ u8s b := by simp [u8s]
theorem u16s_app (a b : List Nat) : u16s (a ++ b) = u16s a ++ u16s b := by simp [u16s]
theorem bls_app (a b : List Bool) : bls (a ++ b) = bls a ++ bls b := by simp [bls]
theorem u8s_at (bs : List Nat) (k : Nat) (h : k < bs.length) : (u8s bs)[k]? = some (.int .u8 (bs.getD k 0 : Nat)) := by simp [u8s, List.getD_eq_getElem?_getD, List.getElem?_eq_getElem h]
theorem u16s_at (bs : List Nat) (k : Nat) (h : k < bs.length) : (u16s bs)[k]? = some (.int .u16 (bs.getD k 0 : Nat)) := by simp [u16s, List.getD_eq_getElem?_getD, List.getElem?_eq_getElem h]
theorem bls_at (bs : List Bool) (k : Nat) (h : k < bs.length) : (bls bs)[k]? = some (.bool (bs.getD k false)) := by simp [bls, List.getD_eq_getElem?_getD, List.getElem?_eq_getElem h]
theorem u8s_one (bs : List Nat) : ∀ u ∈ u8s bs, u.oneCell' = true := by
  intro u hu
  simp only [u8s, List.mem_map] at hu
  obtain ⟨x, _, rfl⟩ := hu
  rfl
theorem u16s_one (bs : List Nat) : ∀ u ∈ u16s bs, u.oneCell' = true := by
  intro u hu
  simp only [u16s, List.mem_map] at hu
  obtain ⟨x, _, rfl⟩ := hu
  rfl
theorem bls_one (bs : List Bool) : ∀ u ∈ bls bs, u.oneCell' = true := by
  intro u hu
  simp only [bls, List.mem_map] at hu
  obtain ⟨x, _, rfl⟩ := hu
  rfl
theorem u8s_set (l : List Nat) (i x : Nat) : u8s (l.set i x) = (u8s l).set i (.int .u8 (x : Int)) := by simp [u8s, List.map_set]
theorem u16s_set (l : List Nat) (i x : Nat) : u16s (l.set i x) = (u16s l).set i (.int .u16 (x : Int)) := by simp [u16s, List.map_set]
theorem bls_set (l : List Bool) (i : Nat) (x : Bool) : bls (l.set i x) = (bls l).set i (.bool x) := by simp [bls, List.map_set]
/-- The values vs lie in block b from off on. -/
def Lies (w : World) (b off : Nat) (vs : List Value) : Prop := ∀ k u, vs[k]? = some u → w.cell? ⟨b, off + k, none⟩ = some u
/-- A slice value of these values, in this world. -/
def Sl (w : World) (v : Value) (vs : List Value) : Prop := (vs = [] ∧ ∃ ao cap, v = .slice ao 0 cap ∧ (ao = none → cap = 0)) ∨ ∃ b off cap, v = .slice (some ⟨b, off, none⟩) vs.length cap ∧ vs.length ≤ cap ∧ Lies w b off vs
theorem lt_of_cell {w : World} {a : Addr} {v : Value} (h : w.cell? a = some v) : a.block < w.heap.size := World.block_lt_of_cell? w a h
theorem Lies.below {w u : World} {b off : Nat} {vs : List Value} (h : Lies w b off vs) (k : Below w.heap.size w u) : Lies u b off vs := fun i x hx => (k.cell (p := ⟨b, off + i, none⟩) (lt_of_cell (h i x hx))).trans (h i x hx)
theorem Lies.kept {w u : World} {b off : Nat} {vs : List Value} (h : Lies w b off vs) (k : u.heap[b]? = w.heap[b]?) : Lies u b off vs := fun i x hx => (World.cell?_of_block (w := w) (a := ⟨b, off + i, none⟩) k).trans (h i x hx)
theorem Sl.below {w u : World} {v : Value} {vs : List Value} (h : Sl w v vs) (k : Below w.heap.size w u) : Sl u v vs := by
  rcases h with h | ⟨b, off, cap, rfl, hcap, hc⟩
  · exact Or.inl h
  · exact Or.inr ⟨b, off, cap, rfl, hcap, hc.below k⟩
theorem Sl.shape {w : World} {v : Value} {vs : List Value} (h : Sl w v vs) : ∃ ao c, v = .slice ao vs.length c := by
  rcases h with ⟨rfl, ao, cap, rfl, _⟩ | ⟨b, off, cap, rfl, _⟩
  · exact ⟨ao, cap, rfl⟩
  · exact ⟨_, _, rfl⟩
theorem Sl.nil (w : World) : Sl w (.slice none 0 0) [] := Or.inl ⟨rfl, none, 0, rfl, fun _ => rfl⟩
theorem own_sl {w : World} {base n : Nat} {e : TypeId} {v : Value} {vs : List Value} (h : w.ownsRow base e 1 v n vs) : Sl w v vs := by
  have hl : vs.length = n := by simpa using h.1
  rcases h.2 with ⟨rfl, h0⟩ | ⟨g, cap, cur, rfl, hb, hg, hn, hm, hs, ht⟩
  · have : vs = [] := List.length_eq_zero_iff.1 (by omega)
    subst this
    exact Sl.nil w
  · refine Or.inr ⟨g, 0, cap, by rw [hl], by omega, fun j u hj => ?_⟩
    have hlt : j < n := by have := (List.getElem?_eq_some_iff.1 hj).1; omega
    rw [Nat.zero_add, h.cellAt j (by omega), hj]
theorem own_below {w u : World} {base n B : Nat} {e : TypeId} {v : Value} {vs : List Value} (h : w.ownsRow base e 1 v n vs) (k : Below B w u) (hB : w.heap.size ≤ B) : u.ownsRow base e 1 v n vs := by
  refine ⟨h.1, ?_⟩
  rcases h.2 with h' | ⟨g, cap, cur, rfl, hb, hg, r⟩
  · exact Or.inl h'
  · have hlt : g < w.heap.size := (h.lt g rfl).2
    exact Or.inr ⟨g, cap, cur, rfl, hb, (k.block g (by omega)).trans hg, r⟩
theorem own_base {w : World} {base base' n : Nat} {e : TypeId} {v : Value} {vs : List Value} (h : w.ownsRow base e 1 v n vs) (hb : base' ≤ base) : w.ownsRow base' e 1 v n vs := by
  refine ⟨h.1, ?_⟩
  rcases h.2 with h' | ⟨g, cap, cur, rfl, hb', r⟩
  · exact Or.inl h'
  · exact Or.inr ⟨g, cap, cur, rfl, by omega, r⟩
theorem Lies.news {w : World} {b off : Nat} {vs : List Value} (hc : Lies w b off vs) : ∀ j u, vs[j]? = some u → w.cell? ((⟨b, off, none⟩ : Addr).add j) = some u := by
  intro j u hj
  have hplain : (⟨b, off, none⟩ : Addr).add j = ⟨b, off + j, none⟩ := by unfold Addr.add; split <;> simp_all
  rw [hplain]
  exact hc j u hj
theorem Lies.drop {w : World} {b off : Nat} {vs : List Value} (hc : Lies w b off vs) (k : Nat) : Lies w b (off + k) (vs.drop k) := by
  intro j u hj
  rw [List.getElem?_drop] at hj
  rw [Nat.add_assoc]
  exact hc _ u hj
theorem Lies.u8 {w : World} {b off : Nat} {bs : List Nat} (hc : Lies w b off (u8s bs)) (k : Nat) (h : k < bs.length) : w.cell? ⟨b, off + k, none⟩ = some (.int .u8 (bs.getD k 0 : Nat)) := hc k _ (u8s_at bs k h)
theorem Lies.u16 {w : World} {b off : Nat} {bs : List Nat} (hc : Lies w b off (u16s bs)) (k : Nat) (h : k < bs.length) : w.cell? ⟨b, off + k, none⟩ = some (.int .u16 (bs.getD k 0 : Nat)) := hc k _ (u16s_at bs k h)
theorem Lies.bl {w : World} {b off : Nat} {bs : List Bool} (hc : Lies w b off (bls bs)) (k : Nat) (h : k < bs.length) : w.cell? ⟨b, off + k, none⟩ = some (.bool (bs.getD k false)) := hc k _ (bls_at bs k h)
theorem below_new {a w : World} (h : Below a.heap.size a w) (o : Obj) : Below a.heap.size a (w.alloc o) := h.alloc h.size o
theorem int_is {k : IntKind} {a b : Int} (h : a = b) : Value.int k a = .int k b := by rw [h]
theorem Try.infoByte : (Try.prog.info? 5).map (fun i => (i.zero, i.size, i.bytes)) = some (some (.int .u8 0), 1, 1) := by kernel_rfl
theorem Try.infoBool : (Try.prog.info? 4).map (fun i => (i.zero, i.size, i.bytes)) = some (some (.bool false), 1, 1) := by kernel_rfl
theorem Try.infoWord : (Try.prog.info? 22).map (fun i => (i.zero, i.size, i.bytes)) = some (some (.int .u16 0), 1, 2) := by kernel_rfl
end Go.Proofs.Ytehbbkdiekgpbaa
