/- What may have turned; copy into a block; Spoil; rows that are cut ahead and laid behind (stage 7). -/
import Derived.Test.YtgmbboimndepnaaB2
import Derived.Laws.CopyOwn
import Derived.Deep.AppendSrc
import Derived.Deep.DeepAppendWide
import Derived.Deep.CutRange
import Derived.Deep.CutBlock
namespace Go.Proofs.Ytgmbboimndepnaa
open Go.RowKit
open Pdu
theorem cell_row {w : World} {g k : Nat} {l : List Value} {t : TypeId} {v : Value} (h : w.heap[g]? = some (.cells l.toArray t (0, 0))) (hv : l[k]? = some v) : w.cell? ⟨g, k, none⟩ = some v := by
  simp [World.cell?, h, hv]
theorem frozen_row {w : World} {g k : Nat} {l : List Value} {t : TypeId} (h : w.heap[g]? = some (.cells l.toArray t (0, 0))) : w.frozen? ⟨g, k, none⟩ = false := by
  simp [World.frozen?, h]
theorem set_row {w : World} {g k : Nat} {l : List Value} {t : TypeId} (h : w.heap[g]? = some (.cells l.toArray t (0, 0))) (v : Value) : (w.setCell ⟨g, k, none⟩ v).heap[g]? = some (.cells (l.set k v).toArray t (0, 0)) := by
  rw [setCell_eq_setRow w g k _ t (0, 0) v h, setRow_heap w g _ _ t _ h]
  simp
/-- All blocks that there were, but g, are as they were. -/
abbrev Turn (g : Nat) (w w' : World) : Prop := w.grownBy w' (some g)
theorem Turn.refl (g : Nat) (w : World) : Turn g w w := ⟨rfl, rfl, rfl, Nat.le_refl _, fun _ _ _ => rfl⟩
theorem Turn.trans {g : Nat} {a b c : World} (h : Turn g a b) (k : Turn g b c) : Turn g a c :=
  ⟨k.os.trans h.os, k.tape.trans h.tape, k.output.trans h.output, Nat.le_trans h.size k.size, fun j hj hne => (k.block j (Nat.lt_of_lt_of_le hj h.size) hne).trans (h.block j hj hne)⟩
theorem Turn.ofBelow {g : Nat} {w w' : World} (h : Below w.heap.size w w') : Turn g w w' := ⟨h.os, h.tape, h.output, h.size, fun j hj _ => h.block j hj⟩
theorem Turn.set {g : Nat} {w w' : World} (h : Turn g w w') (k : Nat) (v : Value) : Turn g w (w'.setCell ⟨g, k, none⟩ v) := by
  refine ⟨h.os, h.tape, h.output, by simpa using h.size, fun j hj hne => ?_⟩
  rw [Below.heap_setCell _ _ _ _ (fun e => hne (congrArg some e))]
  exact h.block j hj hne
theorem Turn.alloc {g : Nat} {w w' : World} (h : Turn g w w') (o : Obj) : Turn g w (w'.alloc o) := h.trans (Turn.ofBelow (below_new (Below.refl _ w') o))
theorem Turn.drew {g : Nat} {w w' : World} (h : Turn g w w') : Turn g w w'.drew := ⟨h.os, h.tape, h.output, h.size, h.block⟩
theorem Turn.drewN {g : Nat} {w w' : World} (h : Turn g w w') (d : Nat) : Turn g w (w'.drewN d) := ⟨h.os, h.tape, h.output, h.size, h.block⟩
theorem Turn.below {g B : Nat} {w w' : World} (h : Turn g w w') (hB : B ≤ g) (hs : B ≤ w.heap.size) : Below B w w' := ⟨h.os, h.tape, h.output, h.size, fun j hj => h.block j (by omega) (fun e => by simp at e; omega)⟩
/-- copy into a block that is known whole: nothing but that block has turned. -/
theorem run_copy_turn {P : Program} {w : World} (dT sT ty : TypeId) (elem : TypeId) (hu : P.underlying dT = some (.slice elem)) (hsz : (P.info? elem).map (·.size) = some 1)
    (dp sp : Option Addr) (dLen dCap sLen sCap : Nat)
    (g off : Nat) (cur : List Value) (t : TypeId) (hg : w.heap[g]? = some (.cells cur.toArray t (0, 0))) (cs : List Value) (hn : cs.length = Nat.min sLen dLen)
    (hpos : 0 < cs.length → dp = some ⟨g, off, none⟩ ∧ ∃ ad, sp = some ad ∧ ∀ j v, cs[j]? = some v → w.cell? (ad.add j) = some v)
    (hfit : off + cs.length ≤ cur.length) (h1 : ∀ v ∈ cs, v.oneCell' = true) :
    ∃ w', (Builtin.copy_ #[dT, sT] ty #[.slice dp dLen dCap, .slice sp sLen sCap]).run P w = .ok (goInt cs.length) w' ∧ w'.heap[g]? = some (.cells (splice cur off cs).toArray t (0, 0)) ∧ Turn g w w' := by
  by_cases h0 : cs.length = 0
  · obtain rfl : cs = [] := List.eq_nil_of_length_eq_zero h0
    exact ⟨w, run_copy_none (P := P) w dT sT ty elem dp sp dLen dCap sLen sCap hu hsz (by simpa using hn.symm), by simpa [splice] using hg, Turn.refl g w⟩
  · obtain ⟨rfl, ad, rfl, hsrc⟩ := hpos (by omega)
    exact ⟨_, run_copy_row (P := P) w dT sT ty elem g off dLen dCap ad sLen sCap cur.toArray t cs hu hsz hg hn hsrc (by simpa using hfit) h1, by simpa [splice] using setRow_heap w g _ _ t _ hg, ⟨rfl, rfl, rfl, by simp [World.setRow], fun k _ hk => setRow_other w g k _ (fun e => hk (by simp [e]))⟩⟩
theorem u8s_take (bs : List Nat) (k : Nat) : u8s (bs.take k) = (u8s bs).take k := by simp [u8s]
theorem Sl.drew1 {w : World} {v : Value} {vs : List Value} (h : Sl w v vs) : Sl w.drew v vs := h
theorem src_cells {w : World} {ao : Option Addr} {n cap : Nat} {vs : List Value} (h : Sl w (.slice ao n cap) vs) (k : Nat) (hk : 0 < (vs.take k).length) : ∃ ad, ao = some ad ∧ ∀ j v, (vs.take k)[j]? = some v → w.cell? (ad.add j) = some v := by
  rcases h with ⟨h, _⟩ | ⟨b, off, c, hv, _, hc⟩
  · subst h
    simp at hk
  · simp only [Value.slice.injEq] at hv
    refine ⟨⟨b, off, none⟩, hv.1, fun j v hj => hc.news j v ?_⟩
    rw [List.getElem?_take] at hj
    split at hj
    · exact hj
    · cases hj
theorem set_else {Y : World} {g i j : Nat} {z y : Value} (h : Y.cell? ⟨g, i, none⟩ = some z) (hij : i ≠ j) : (Y.setCell ⟨g, j, none⟩ y).cell? ⟨g, i, none⟩ = some z := by
  rw [World.cell?_setCell_other _ _ _ _ (fun e => hij (congrArg Addr.off e).symm)]
  exact h
set_option maxHeartbeats 1600000 in
theorem spoil_none (ao : Option Addr) (cap : Nat) (w : World) : Calls Try.prog 11 #[.slice ao 0 cap] w fun e w' => e = .returned (.tuple #[]) ∧ w' = w := by
  go_enter Try.func11, Try.ntmps11
  go_wp2
  go_loop [2] (fun i => i = .int .i64 0) (fun _ => 0)
  case atStart => exact rfl
  case round =>
    obtain rfl := hrel
    go_wp2
    go_end0
    exact ⟨rfl, rfl⟩
/-- Block g holds n bytes, and nothing but it has turned. -/
def Spt (g n : Nat) (w wr : World) : Prop := Turn g w wr ∧ (∀ j, wr.frozen? ⟨g, j, none⟩ = false) ∧ ∀ j, j < n → ∃ x : Int, wr.cell? ⟨g, j, none⟩ = some (.int .u8 x)
theorem spt_step {g n k : Nat} {w wr : World} {y : Int} (h : Spt g n w wr) (hk : k < n) : Spt g n w (wr.setCell ⟨g, k, none⟩ (.int .u8 y)) := by
  refine ⟨h.1.set _ _, fun j => by rw [World.frozen?_setCell]; exact h.2.1 j, fun j hj => ?_⟩
  by_cases e : j = k
  · subst e
    obtain ⟨x, hx⟩ := h.2.2 j hj
    exact ⟨y, World.cell?_setCell_same _ _ _ hx⟩
  · obtain ⟨x, hx⟩ := h.2.2 j hj
    exact ⟨x, set_else hx e⟩
set_option maxHeartbeats 1600000 in
theorem spoil_at (g n cap : Nat) (w : World) (h : Spt g n w w) (hm : n ≤ 1000000) : Calls Try.prog 11 #[.slice (some ⟨g, 0, none⟩) n cap] w fun e w' => e = .returned (.tuple #[]) ∧ Turn g w w' := by
  have H := hid_as h
  clear h
  go_enter Try.func11, Try.ntmps11
  go_wp2
  go_loopw [2] (fun i wr => ∃ k : Nat, k ≤ n ∧ i = .int .i64 k ∧ Spt g n w wr) (fun i _ => n - (intOf i).toNat)
  case atStart => exact ⟨0, by omega, rfl, H.out⟩
  case round =>
    obtain ⟨k, hk, rfl, HP⟩ := hrel
    have P := hid_as HP
    clear HP
    by_cases hkn : k < n
    · obtain ⟨x, hx⟩ := P.out.2.2 k hkn
      have hf := P.out.2.1 k
      have hk2 : (k : Int) < (n : Int) := by omega
      go_wp2
      have HR := fun (y : Int) => hid_as (spt_step (y := y) P.out hkn)
      go_roundw
      case rel => exact ⟨k + 1, by omega, by go_num, (HR _).out⟩
      case measure => simp [intOf]; omega
    · obtain rfl : k = n := by omega
      go_wp2
      go_end0
      exact ⟨rfl, P.out.1⟩
theorem spoil_c {base : Nat} {v : Value} {bs : List Nat} {w : World} (h : w.ownsRow base 5 1 v bs.length (u8s bs)) (hb : base ≤ w.heap.size) (hm : bs.length ≤ 1000000) : Calls Try.prog 11 #[v] w fun e w' => e = .returned (.tuple #[]) ∧ Below base w w' := by
  rcases h.2 with ⟨rfl, h0⟩ | ⟨g, cap, cur, rfl, hbg, hg, r⟩
  · refine (spoil_none none 0 w).mono ?_
    rintro e w' ⟨rfl, rfl⟩
    exact ⟨rfl, Below.refl _ _⟩
  · refine (spoil_at g _ cap w ⟨Turn.refl g w, fun j => by simp [World.frozen?, hg], fun j hj => ⟨(bs.getD j 0 : Nat), ?_⟩⟩ hm).mono ?_
    · have := h.cells (g := g) rfl j _ (u8s_at bs j hj)
      rwa [show (⟨g, 0, none⟩ : Addr).add j = ⟨g, j, none⟩ by unfold Addr.add; split <;> simp_all] at this
    · rintro e w' ⟨rfl, k⟩
      exact ⟨rfl, k.below hbg hb⟩
theorem own_grown {w u : World} {base n size : Nat} {e : TypeId} {v : Value} {vs : List Value} {row : Option Nat} (h : w.ownsRow base e size v n vs) (k : w.grownBy u row) (hr : ∀ g cs fl, row = some g → w.heap[g]? ≠ some (.cells cs e fl)) : u.ownsRow base e size v n vs := by
  refine h.kept k ?_
  rcases h.2 with ⟨rfl, _⟩ | ⟨g, cap, cur, rfl, _, hg, _⟩
  · exact Or.inl rfl
  · refine Or.inr fun e => ?_
    exact hr g cur (0, 0) e.symm hg
theorem own_turn {g base n : Nat} {w u : World} {e : TypeId} {v : Value} {vs : List Value} (h : w.ownsRow base e 1 v n vs) (k : Turn g w u) (hg : g < base) : u.ownsRow base e 1 v n vs :=
  h.kept k (by
    by_cases hn : v.ownBlock = none
    · exact Or.inl hn
    · refine Or.inr fun e => ?_
      have := (h.lt g e).1
      omega)
theorem Sl.turn {g b off n cap : Nat} {w w' : World} {vs : List Value} (h : Sl w (.slice (some ⟨b, off, none⟩) n cap) vs) (k : Turn g w w') (hb : b < w.heap.size) (hne : b ≠ g) : Sl w' (.slice (some ⟨b, off, none⟩) n cap) vs := by
  rcases h with h | ⟨b', off', cap', e, hc, hl⟩
  · exact Or.inl h
  · simp only [Value.slice.injEq, Option.some.injEq, Addr.mk.injEq] at e
    obtain ⟨⟨e1, e2, _⟩, e3, e4⟩ := e
    subst e1 e2 e4
    exact Or.inr ⟨b, off, cap, by rw [e3], hc, hl.kept (k.block b hb (fun e => hne (by simpa using e)))⟩
theorem lit_lt (w : World) (o : Obj) : w.heap.size < (w.alloc o).heap.size := by rw [World.size_alloc]; omega
theorem kept_far {g p : Nat} {w w' : World} {o : Obj} (t : Turn g w w') (hp : w.heap[p]? = some o) (hne : p ≠ g) : w'.heap[p]? = some o := (t.block p (Array.getElem?_eq_some_iff.1 hp).1 (fun e => hne (by simpa using e))).trans hp
theorem kept_alloc {p : Nat} {w : World} {o o2 : Obj} (hp : w.heap[p]? = some o) : (w.alloc o2).heap[p]? = some o := (Below.heap_alloc w o2 p (Array.getElem?_eq_some_iff.1 hp).1).trans hp
theorem keep_cell {X u : World} {a : Addr} {v : Value} (k : Below X.heap.size X u) (h : X.cell? a = some v) : u.cell? a = some v := (k.cell (p := a) (lt_of_cell h)).trans h
/-- These bytes, in a block of the call's own from base on, from whatever place in it. -/
def Cut (base : Nat) (W : World) (v : Value) (bs : List Nat) : Prop :=
  (v = .slice none 0 0 ∧ bs = []) ∨ ∃ g off cap cur, v = .slice (some ⟨g, off, none⟩) bs.length cap ∧ base ≤ g ∧ W.heap[g]? = some (.cells cur 5 (0, 0)) ∧ bs.length ≤ cap ∧ cap ≤ maxLen ∧ off + cap ≤ cur.size ∧ ∀ k u, (u8s bs)[k]? = some u → cur[off + k]? = some u
theorem Cut.nil (base : Nat) (W : World) : Cut base W (.slice none 0 0) [] := Or.inl ⟨rfl, rfl⟩
theorem Cut.shape {base : Nat} {W : World} {v : Value} {bs : List Nat} (h : Cut base W v bs) : ∃ ao c, v = .slice ao bs.length c := by
  rcases h with ⟨rfl, rfl⟩ | ⟨g, off, cap, cur, rfl, _⟩
  · exact ⟨none, 0, rfl⟩
  · exact ⟨_, _, rfl⟩
theorem Cut.lies {W : World} {g off : Nat} {cur : Array Value} {bs : List Nat} (hg : W.heap[g]? = some (.cells cur 5 (0, 0))) (hc : ∀ k u, (u8s bs)[k]? = some u → cur[off + k]? = some u) : Lies W g off (u8s bs) := by
  intro k u hk
  simp [World.cell?, hg, hc k u hk]
theorem Cut.sl {base : Nat} {W : World} {v : Value} {bs : List Nat} (h : Cut base W v bs) : Sl W v (u8s bs) := by
  rcases h with ⟨rfl, rfl⟩ | ⟨g, off, cap, cur, rfl, hb, hg, h1, h2, h3, hc⟩
  · exact Sl.nil W
  · exact Or.inr ⟨g, off, cap, by rw [u8s_len], by rw [u8s_len]; exact h1, Cut.lies hg hc⟩
theorem Cut.own {base : Nat} {W : World} {v : Value} {bs : List Nat} (h : Cut base W v bs) : ∀ k, v.ownBlock = some k → base ≤ k ∧ k < W.heap.size := by
  intro k hk
  rcases h with ⟨rfl, rfl⟩ | ⟨g, off, cap, cur, rfl, hb, hg, _⟩
  · simp [Value.ownBlock] at hk
  · simp [Value.ownBlock] at hk
    subst hk
    exact ⟨hb, (Array.getElem?_eq_some_iff.1 hg).1⟩
theorem Cut.heap {base : Nat} {W W' : World} {v : Value} {bs : List Nat} (h : Cut base W v bs) (k : ∀ j, v.ownBlock = some j → W'.heap[j]? = W.heap[j]?) : Cut base W' v bs := by
  rcases h with h | ⟨g, off, cap, cur, rfl, hb, hg, r⟩
  · exact Or.inl h
  · exact Or.inr ⟨g, off, cap, cur, rfl, hb, (k g rfl).trans hg, r⟩
theorem Cut.below {base : Nat} {W W' : World} {v : Value} {bs : List Nat} (h : Cut base W v bs) (k : Below W.heap.size W W') : Cut base W' v bs := h.heap fun j hj => k.block j (h.own j hj).2
theorem Cut.turn {base g : Nat} {W W' : World} {v : Value} {bs : List Nat} (h : Cut base W v bs) (k : Turn g W W') (hg : g < base) : Cut base W' v bs := h.heap fun j hj => k.block j (h.own j hj).2 (fun e => by have := (h.own j hj).1; simp at e; omega)
theorem cut_of_own {base : Nat} {W : World} {v : Value} {bs : List Nat} (h : W.ownsRow base 5 1 v bs.length (u8s bs)) : Cut base W v bs := by
  rcases h.2 with ⟨rfl, h0⟩ | ⟨g, cap, cur, rfl, hb, hg, h1, h2, h3, h4⟩
  · exact Or.inl ⟨rfl, List.length_eq_zero_iff.1 h0⟩
  · refine Or.inr ⟨g, 0, cap, cur, rfl, hb, hg, h1, h2, by omega, fun k u hk => ?_⟩
    rw [Nat.zero_add, ← Array.getElem?_toList]
    rw [← h4, List.getElem?_take] at hk
    split at hk
    · exact hk
    · cases hk
/-- Cut ahead by n. -/
theorem Cut.drop {base n cap : Nat} {W : World} {ao : Option Addr} {bs : List Nat} (h : Cut base W (.slice ao bs.length cap) bs) (hn : n ≤ bs.length) : Cut base W (.slice (if cap = n then ao else ao.map (·.add n)) (bs.length - n) (cap - n)) (bs.drop n) := by
  have hl : (bs.drop n).length = bs.length - n := List.length_drop
  rcases h with ⟨h, rfl⟩ | ⟨g, off, cap', cur, e, hb, hg, h1, h2, h3, hc⟩
  · simp only [Value.slice.injEq] at h
    obtain ⟨rfl, _, rfl⟩ := h
    simp at hn
    subst hn
    exact Or.inl ⟨rfl, rfl⟩
  · simp only [Value.slice.injEq] at e
    obtain ⟨rfl, _, rfl⟩ := e
    by_cases hcn : cap = n
    · rw [if_pos hcn]
      refine Or.inr ⟨g, off, cap - n, cur, by rw [hl], hb, hg, by omega, by omega, by omega, fun k u hk => ?_⟩
      have := (List.getElem?_eq_some_iff.1 hk).1
      rw [u8s_len] at this
      omega
    · rw [if_neg hcn]
      have ha : (Option.map (fun x : Addr => x.add n) (some ⟨g, off, none⟩)) = some ⟨g, off + n, none⟩ := by
        simp only [Option.map_some, Option.some.injEq]
        unfold Addr.add
        split <;> simp_all
      rw [ha]
      refine Or.inr ⟨g, off + n, cap - n, cur, by rw [hl], hb, hg, by omega, by omega, by omega, fun k u hk => ?_⟩
      rw [u8s_drop, List.getElem?_drop] at hk
      rw [Nat.add_assoc]
      exact hc _ u hk
/-- There is room behind it. -/
theorem run_append_room_off {P : Program} (w : World) (t ty e : TypeId) (i : TypeInfo) (ht : P.underlying t = some (.slice e)) (hi : P.info? e = some i) (h1s : i.size = 1)
    (g off sLen sCap : Nat) (cur : Array Value) (hg : w.heap[g]? = some (.cells cur e (0, 0)))
    (a : Addr) (m c : Nat) (news : List Value) (hl : news.length = m) (hnews : ∀ j u, news[j]? = some u → w.cell? (a.add j) = some u) (h1 : ∀ u ∈ news, u.oneCell' = true)
    (hroom : sLen + m ≤ sCap) (hfit : off + sLen + news.length ≤ cur.size) :
    (Builtin.append_ #[t, t] ty #[.slice (some ⟨g, off, none⟩) sLen sCap, .slice (some a) m c]).run P w =
      .ok (.slice (some ⟨g, off, none⟩) (sLen + m) sCap) (w.setRow g (cur.toList.take (off + sLen) ++ news ++ cur.toList.drop (off + sLen + news.length)).toArray) := by
  have hf := run_firstCells_some (P := P) w i.size m a m c news (by rw [h1s, Nat.mul_one]; exact hl) hnews
  have hst := run_storeCells_at P g (off + sLen) e news 0 cur w hg (by simpa using hfit) h1
  simp only [Nat.add_zero] at hst
  have hadd : (⟨g, off, none⟩ : Addr).add sLen = ⟨g, off + sLen, none⟩ := by unfold Addr.add; split <;> simp_all
  rw [h1s] at hf
  simp [Builtin.append_, run_underlying ht, sizeOf, typeInfo, hi, h1s, Builtin.lenOf, hroom, hf, hadd, hst]
theorem cut_append {base : Nat} {W : World} {v x : Value} {bs ms : List Nat} (h : Cut base W v bs) (hx : Sl W x (u8s ms)) (hm : bs.length + ms.length ≤ 100000) (hbase : base ≤ W.heap.size) :
    ∃ v' w', (Builtin.append_ #[24, 24] 24 #[v, x]).run Try.prog W = .ok v' w' ∧ Cut base w' v' (bs ++ ms) ∧ W.grownBy w' v.ownBlock := by
  obtain ⟨i0, hi, hz0, hz1, hz2⟩ := info_parts Try.infoByte
  rcases h with ⟨rfl, rfl⟩ | ⟨g, off, cap, cur, rfl, hb, hg, h1, h2, h3, hc⟩
  · obtain ⟨v', w', hr, h2, h3⟩ := run_append_sl (P := Try.prog) (w := W) base 24 24 5 i0 (.int .u8 0) 1 Try.underlying24 hi hz0 hz1 hz2 rfl (.slice none 0 0) 0 [] (World.ownsRow_nil ..) x (u8s ms) hx (u8s_one ms) (by rw [u8s_len]; unfold maxLen; omega) (by rw [u8s_len]; omega) hbase
    refine ⟨v', w', hr, cut_of_own ?_, h3⟩
    rw [u8s_len, Nat.zero_add, List.nil_append] at h2
    exact h2
  · have hlies := Cut.lies hg hc
    have hgs : g < W.heap.size := (Array.getElem?_eq_some_iff.1 hg).1
    rcases hx with ⟨hms, ao, c, rfl, h0⟩ | ⟨xb, xo, c, rfl, hxc, hxl⟩
    · obtain rfl := u8s_nil hms
      refine ⟨.slice (some ⟨g, off, none⟩) bs.length cap, W, ?_, ?_, ⟨rfl, rfl, rfl, Nat.le_refl _, fun _ _ _ => rfl⟩⟩
      · match ao, h0 with
        | none, h0 =>
          have S := Src.ofNil (P := Try.prog) (w := W) (size := i0.size) Try.underlying24 c
          have := run_append_room_src (P := Try.prog) W 24 24 24 5 i0 Try.underlying24 hi g off bs.length cap _ 0 [] S (by omega) (fun j hj => by simp at hj) (fun j hj => by simp at hj)
          simpa [World.setCells] using this
        | some a, _ =>
          have S := Src.ofSlice (P := Try.prog) (w := W) (size := i0.size) Try.underlying24 a 0 c [] (by simp) (fun j u hj => by simp at hj) (fun u hu => by simp at hu)
          have := run_append_room_src (P := Try.prog) W 24 24 24 5 i0 Try.underlying24 hi g off bs.length cap _ 0 [] S (by omega) (fun j hj => by simp at hj) (fun j hj => by simp at hj)
          simpa [World.setCells] using this
      · rw [List.append_nil]
        exact Or.inr ⟨g, off, cap, cur, rfl, hb, hg, h1, h2, h3, hc⟩
    · rw [u8s_len] at hxc ⊢
      by_cases hroom : bs.length + ms.length ≤ cap
      · refine ⟨_, _, run_append_room_off (P := Try.prog) W 24 24 5 i0 Try.underlying24 hi hz1 g off bs.length cap cur hg ⟨xb, xo, none⟩ ms.length c (u8s ms) (u8s_len ms) hxl.news (u8s_one ms) hroom (by rw [u8s_len]; omega), ?_, ?_⟩
        · refine Or.inr ⟨g, off, cap, _, by rw [List.length_append], hb, setRow_heap W g cur _ _ _ hg, by rw [List.length_append]; exact hroom, h2, ?_, fun k u hk => ?_⟩
          · simp [u8s_len]
            omega
          · rw [List.getElem?_toArray, u8s_len]
            by_cases hk1 : k < bs.length
            · rw [u8s_app, List.getElem?_append_left (by rw [u8s_len]; exact hk1)] at hk
              rw [List.append_assoc, List.getElem?_append_left (by rw [List.length_take, show cur.toList.length = cur.size from Array.length_toList]; omega), List.getElem?_take, if_pos (by omega), Array.getElem?_toList]
              exact hc k u hk
            · have hk2 : k < bs.length + ms.length := by have := (List.getElem?_eq_some_iff.1 hk).1; rw [u8s_len, List.length_append] at this; exact this
              rw [u8s_app, List.getElem?_append_right (by rw [u8s_len]; omega), u8s_len] at hk
              have htl : (List.take (off + bs.length) cur.toList).length = off + bs.length := by rw [List.length_take, show cur.toList.length = cur.size from Array.length_toList]; omega
              rw [List.append_assoc, List.getElem?_append_right (by rw [htl]; omega), htl, List.getElem?_append_left (by rw [u8s_len]; omega), show off + k - (off + bs.length) = k - bs.length by omega]
              exact hk
        · exact ⟨rfl, rfl, rfl, by simp [World.setRow], fun k _ hk => setRow_other W g k _ (fun e => hk (by simp [Value.ownBlock, e]))⟩
      · have S := Src.ofSlice (P := Try.prog) (w := W) (size := i0.size) Try.underlying24 ⟨xb, xo, none⟩ ms.length c (u8s ms) (by rw [u8s_len, hz1, Nat.mul_one]) hxl.news (u8s_one ms)
        have hold : (Builtin.firstCells i0.size bs.length (.slice (some ⟨g, off, none⟩) bs.length cap)).run Try.prog W.drew = .ok (u8s bs).toArray W.drew := run_firstCells_some (P := Try.prog) W.drew i0.size bs.length ⟨g, off, none⟩ bs.length cap (u8s bs) (by rw [u8s_len, hz1, Nat.mul_one]) (Lies.news (w := W.drew) hlies)
        have hr := run_append_grow_src (P := Try.prog) W 24 24 24 5 i0 (.int .u8 0) Try.underlying24 hi hz0 (some ⟨g, off, none⟩) bs.length cap (u8s bs) hold (.slice (some ⟨xb, xo, none⟩) ms.length c) ms.length (u8s ms) S (by omega) (by omega) (growslice_fits_wide (by omega) (by rw [hz2]; omega))
        refine ⟨_, _, hr, ?_, ?_⟩
        · have hge := grownCap_ge W (bs.length + ms.length) cap 5
          refine Or.inr ⟨W.heap.size, 0, _, _, by rw [List.length_append], hbase, heap_alloc_new W.drew _, by rw [List.length_append]; exact hge, grownCap_le_maxLen _ _ _ _ (by unfold maxLen; omega), ?_, fun k u hk => ?_⟩
          · have hzc : (Value.cells (.int .u8 0)).size = 1 := rfl
            simp only [Array.size_append, List.size_toArray, List.length_append, u8s_len, size_zeroCells, hzc, Nat.mul_one]
            omega
          · rw [Nat.zero_add, ← u8s_app, Array.getElem?_append_left (by rw [List.size_toArray]; exact (List.getElem?_eq_some_iff.1 hk).1), List.getElem?_toArray]
            exact hk
        · refine ⟨rfl, rfl, rfl, ?_, fun k hk _ => ?_⟩
          · show _ ≤ (World.alloc W.drew _).heap.size
            rw [World.size_alloc]
            exact Nat.le_succ _
          · exact Below.heap_alloc W.drew _ k hk
/-- One of the lists, in memory at a. -/
def RowAt (W : World) (a : Addr) (bs : List Nat) : Prop := Bytes bs ∧ ∃ av c, W.cell? a = some (.slice av bs.length c) ∧ Sl W (.slice av bs.length c) (u8s bs)
theorem RowAt.below {W W' : World} {a : Addr} {bs : List Nat} (h : RowAt W a bs) (k : Below W.heap.size W W') : RowAt W' a bs := by
  obtain ⟨hB, av, c, h1, h2⟩ := h
  exact ⟨hB, av, c, (k.cell (p := a) (lt_of_cell h1)).trans h1, h2.below k⟩
theorem sl_pre {w : World} {a : Option Addr} {n c k : Nat} {bs : List Nat} (h : Sl w (.slice a n c) (u8s bs)) (hk : k ≤ n) : Sl w (.slice a k c) (u8s (bs.take k)) := by
  rcases h with ⟨h, ao, cap, hv, h0⟩ | ⟨b, off, cap, hv, hcap, hc⟩
  · obtain rfl := u8s_nil h
    simp only [Value.slice.injEq] at hv
    obtain ⟨rfl, rfl, rfl⟩ := hv
    obtain rfl : k = 0 := by omega
    exact Or.inl ⟨by simp [u8s], a, c, rfl, h0⟩
  · simp only [Value.slice.injEq] at hv
    obtain ⟨rfl, rfl, rfl⟩ := hv
    rw [u8s_len] at hk hcap
    have := sub_sl hc 0 k c (by omega) (by omega)
    simpa using this
end Go.Proofs.Ytgmbboimndepnaa
