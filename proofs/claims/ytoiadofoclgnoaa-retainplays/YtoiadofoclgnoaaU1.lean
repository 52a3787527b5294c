/- What may have turned; copy into a block; Spoil (stage 9). -/
import Derived.Test.YtoiadofoclgnoaaB2
import Derived.Laws.CopyOwn
import Derived.Deep.AppendSrc
import Derived.Deep.DeepAppendWide
import Derived.Deep.CutRange
import Derived.Laws.OwnMore
import Derived.Deep.CutBlock
namespace Go.Proofs.Ytoiadofoclgnoaa
open Go.RowKit
open Pdu
theorem cell_row {w : World} {g k : Nat} {l : List Value} {t : TypeId} {v : Value} (h : w.heap[g]? = some (.cells l.toArray t (0, 0))) (hv : l[k]? = some v) : w.cell? ⟨g, k, none⟩ = some v := by
  simp [World.cell?, h, hv]
theorem frozen_row {w : World} {g k : Nat} {l : List Value} {t : TypeId} (h : w.heap[g]? = some (.cells l.toArray t (0, 0))) : w.frozen? ⟨g, k, none⟩ = false := by
  simp [World.frozen?, h]
theorem set_row {w : World} {g k : Nat} {l : List Value} {t : TypeId} (h : w.heap[g]? = some (.cells l.toArray t (0, 0))) (v : Value) : (w.setCell ⟨g, k, none⟩ v).heap[g]? = some (.cells (l.set k v).toArray t (0, 0)) := by
  rw [setCell_eq_setRow w g k _ t (0, 0) v h, setRow_heap w g _ _ t _ h]
  simp
/-- All blocks that there were, but g, are as they were. -/
abbrev Turn (g : Nat) (w w' : World) : Prop := w.grownBy w' (some g)
theorem Turn.refl (g : Nat) (w : World) : Turn g w w := ⟨rfl, rfl, rfl, Nat.le_refl _, fun _ _ _ => rfl⟩
theorem Turn.trans {g : Nat} {a b c : World} (h : Turn g a b) (k : Turn g b c) : Turn g a c :=
  ⟨k.os.trans h.os, k.tape.trans h.tape, k.output.trans h.output, Nat.le_trans h.size k.size, fun j hj hne => (k.block j (Nat.lt_of_lt_of_le hj h.size) hne).trans (h.block j hj hne)⟩
theorem Turn.ofBelow {g : Nat} {w w' : World} (h : Below w.heap.size w w') : Turn g w w' := ⟨h.os, h.tape, h.output, h.size, fun j hj _ => h.block j hj⟩
theorem Turn.set {g : Nat} {w w' : World} (h : Turn g w w') (k : Nat) (v : Value) : Turn g w (w'.setCell ⟨g, k, none⟩ v) := by
  refine ⟨h.os, h.tape, h.output, by simpa using h.size, fun j hj hne => ?_⟩
  rw [Below.heap_setCell _ _ _ _ (fun e => hne (congrArg some e))]
  exact h.block j hj hne
theorem Turn.alloc {g : Nat} {w w' : World} (h : Turn g w w') (o : Obj) : Turn g w (w'.alloc o) := h.trans (Turn.ofBelow (below_new (Below.refl _ w') o))
theorem Turn.drew {g : Nat} {w w' : World} (h : Turn g w w') : Turn g w w'.drew := ⟨h.os, h.tape, h.output, h.size, h.block⟩
theorem Turn.drewN {g : Nat} {w w' : World} (h : Turn g w w') (d : Nat) : Turn g w (w'.drewN d) := ⟨h.os, h.tape, h.output, h.size, h.block⟩
theorem Turn.below {g B : Nat} {w w' : World} (h : Turn g w w') (hB : B ≤ g) (hs : B ≤ w.heap.size) : Below B w w' := ⟨h.os, h.tape, h.output, h.size, fun j hj => h.block j (by omega) (fun e => by simp at e; omega)⟩
/-- copy into a block that is known whole: nothing but that block has turned. -/
theorem run_copy_turn {P : Program} {w : World} (dT sT ty : TypeId) (elem : TypeId) (hu : P.underlying dT = some (.slice elem)) (hsz : (P.info? elem).map (·.size) = some 1)
    (dp sp : Option Addr) (dLen dCap sLen sCap : Nat)
    (g off : Nat) (cur : List Value) (t : TypeId) (hg : w.heap[g]? = some (.cells cur.toArray t (0, 0))) (cs : List Value) (hn : cs.length = Nat.min sLen dLen)
    (hpos : 0 < cs.length → dp = some ⟨g, off, none⟩ ∧ ∃ ad, sp = some ad ∧ ∀ j v, cs[j]? = some v → w.cell? (ad.add j) = some v)
    (hfit : off + cs.length ≤ cur.length) (h1 : ∀ v ∈ cs, v.oneCell' = true) :
    ∃ w', (Builtin.copy_ #[dT, sT] ty #[.slice dp dLen dCap, .slice sp sLen sCap]).run P w = .ok (goInt cs.length) w' ∧ w'.heap[g]? = some (.cells (splice cur off cs).toArray t (0, 0)) ∧ Turn g w w' := by
  by_cases h0 : cs.length = 0
  · obtain rfl : cs = [] := List.eq_nil_of_length_eq_zero h0
    exact ⟨w, run_copy_none (P := P) w dT sT ty elem dp sp dLen dCap sLen sCap hu hsz (by simpa using hn.symm), by simpa [splice] using hg, Turn.refl g w⟩
  · obtain ⟨rfl, ad, rfl, hsrc⟩ := hpos (by omega)
    exact ⟨_, run_copy_row (P := P) w dT sT ty elem g off dLen dCap ad sLen sCap cur.toArray t cs hu hsz hg hn hsrc (by simpa using hfit) h1, by simpa [splice] using setRow_heap w g _ _ t _ hg, ⟨rfl, rfl, rfl, by simp [World.setRow], fun k _ hk => setRow_other w g k _ (fun e => hk (by simp [e]))⟩⟩
theorem u8s_take (bs : List Nat) (k : Nat) : u8s (bs.take k) = (u8s bs).take k := by simp [u8s]
theorem Sl.drew1 {w : World} {v : Value} {vs : List Value} (h : Sl w v vs) : Sl w.drew v vs := h
theorem src_cells {w : World} {ao : Option Addr} {n cap : Nat} {vs : List Value} (h : Sl w (.slice ao n cap) vs) (k : Nat) (hk : 0 < (vs.take k).length) : ∃ ad, ao = some ad ∧ ∀ j v, (vs.take k)[j]? = some v → w.cell? (ad.add j) = some v := by
  rcases h with ⟨h, _⟩ | ⟨b, off, c, hv, _, hc⟩
  · subst h
    simp at hk
  · simp only [Value.slice.injEq] at hv
    refine ⟨⟨b, off, none⟩, hv.1, fun j v hj => hc.news j v ?_⟩
    rw [List.getElem?_take] at hj
    split at hj
    · exact hj
    · cases hj
theorem set_else {Y : World} {g i j : Nat} {z y : Value} (h : Y.cell? ⟨g, i, none⟩ = some z) (hij : i ≠ j) : (Y.setCell ⟨g, j, none⟩ y).cell? ⟨g, i, none⟩ = some z := by
  rw [World.cell?_setCell_other _ _ _ _ (fun e => hij (congrArg Addr.off e).symm)]
  exact h
theorem own_grown {w u : World} {base n size : Nat} {e : TypeId} {v : Value} {vs : List Value} {row : Option Nat} (h : w.ownsRow base e size v n vs) (k : w.grownBy u row) (hr : ∀ g cs fl, row = some g → w.heap[g]? ≠ some (.cells cs e fl)) : u.ownsRow base e size v n vs := by
  refine h.kept k ?_
  rcases h.2 with ⟨rfl, _⟩ | ⟨g, cap, cur, rfl, _, hg, _⟩
  · exact Or.inl rfl
  · refine Or.inr fun e => ?_
    exact hr g cur (0, 0) e.symm hg
theorem own_turn {g base n : Nat} {w u : World} {e : TypeId} {v : Value} {vs : List Value} (h : w.ownsRow base e 1 v n vs) (k : Turn g w u) (hg : g < base) : u.ownsRow base e 1 v n vs :=
  h.kept k (by
    by_cases hn : v.ownBlock = none
    · exact Or.inl hn
    · refine Or.inr fun e => ?_
      have := (h.lt g e).1
      omega)
theorem Sl.turn {g b off n cap : Nat} {w w' : World} {vs : List Value} (h : Sl w (.slice (some ⟨b, off, none⟩) n cap) vs) (k : Turn g w w') (hb : b < w.heap.size) (hne : b ≠ g) : Sl w' (.slice (some ⟨b, off, none⟩) n cap) vs := by
  rcases h with h | ⟨b', off', cap', e, hc, hl⟩
  · exact Or.inl h
  · simp only [Value.slice.injEq, Option.some.injEq, Addr.mk.injEq] at e
    obtain ⟨⟨e1, e2, _⟩, e3, e4⟩ := e
    subst e1 e2 e4
    exact Or.inr ⟨b, off, cap, by rw [e3], hc, hl.kept (k.block b hb (fun e => hne (by simpa using e)))⟩
theorem lit_lt (w : World) (o : Obj) : w.heap.size < (w.alloc o).heap.size := by rw [World.size_alloc]; omega
theorem kept_far {g p : Nat} {w w' : World} {o : Obj} (t : Turn g w w') (hp : w.heap[p]? = some o) (hne : p ≠ g) : w'.heap[p]? = some o := (t.block p (Array.getElem?_eq_some_iff.1 hp).1 (fun e => hne (by simpa using e))).trans hp
theorem kept_alloc {p : Nat} {w : World} {o o2 : Obj} (hp : w.heap[p]? = some o) : (w.alloc o2).heap[p]? = some o := (Below.heap_alloc w o2 p (Array.getElem?_eq_some_iff.1 hp).1).trans hp
theorem keep_cell {X u : World} {a : Addr} {v : Value} (k : Below X.heap.size X u) (h : X.cell? a = some v) : u.cell? a = some v := (k.cell (p := a) (lt_of_cell h)).trans h
/-- One of the lists, in memory at a. -/
def RowAt (W : World) (a : Addr) (bs : List Nat) : Prop := Bytes bs ∧ ∃ av c, W.cell? a = some (.slice av bs.length c) ∧ Sl W (.slice av bs.length c) (u8s bs)
theorem RowAt.below {W W' : World} {a : Addr} {bs : List Nat} (h : RowAt W a bs) (k : Below W.heap.size W W') : RowAt W' a bs := by
  obtain ⟨hB, av, c, h1, h2⟩ := h
  exact ⟨hB, av, c, (k.cell (p := a) (lt_of_cell h1)).trans h1, h2.below k⟩
theorem sl_pre {w : World} {a : Option Addr} {n c k : Nat} {bs : List Nat} (h : Sl w (.slice a n c) (u8s bs)) (hk : k ≤ n) : Sl w (.slice a k c) (u8s (bs.take k)) := by
  rcases h with ⟨h, ao, cap, hv, h0⟩ | ⟨b, off, cap, hv, hcap, hc⟩
  · obtain rfl := u8s_nil h
    simp only [Value.slice.injEq] at hv
    obtain ⟨rfl, rfl, rfl⟩ := hv
    obtain rfl : k = 0 := by omega
    exact Or.inl ⟨by simp [u8s], a, c, rfl, h0⟩
  · simp only [Value.slice.injEq] at hv
    obtain ⟨rfl, rfl, rfl⟩ := hv
    rw [u8s_len] at hk hcap
    have := sub_sl hc 0 k c (by omega) (by omega)
    simpa using this
end Go.Proofs.Ytoiadofoclgnoaa
