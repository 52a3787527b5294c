/- A row of bytes that is cut ahead and laid behind: what append does to it. -/
import Derived.Test.YtjfaocpbhhpbdaaR1
import Derived.Deep.AppendSrc
import Derived.Deep.DeepAppendWide
namespace Go.Proofs.Ytjfaocpbhhpbdaa
open Go.RowKit
open Pdu
/-- These bytes, in a block of the call's own from base on, from whatever place in it. -/
def Cut (base : Nat) (W : World) (v : Value) (bs : List Nat) : Prop :=
  (v = .slice none 0 0 ∧ bs = []) ∨ ∃ g off cap cur, v = .slice (some ⟨g, off, none⟩) bs.length cap ∧ base ≤ g ∧ W.heap[g]? = some (.cells cur 5 (0, 0)) ∧ bs.length ≤ cap ∧ cap ≤ maxLen ∧ off + cap ≤ cur.size ∧ ∀ k u, (u8s bs)[k]? = some u → cur[off + k]? = some u
theorem Cut.nil (base : Nat) (W : World) : Cut base W (.slice none 0 0) [] := Or.inl ⟨rfl, rfl⟩
theorem Cut.shape {base : Nat} {W : World} {v : Value} {bs : List Nat} (h : Cut base W v bs) : ∃ ao c, v = .slice ao bs.length c := by
  rcases h with ⟨rfl, rfl⟩ | ⟨g, off, cap, cur, rfl, _⟩
  · exact ⟨none, 0, rfl⟩
  · exact ⟨_, _, rfl⟩
theorem Cut.lies {W : World} {g off : Nat} {cur : Array Value} {bs : List Nat} (hg : W.heap[g]? = some (.cells cur 5 (0, 0))) (hc : ∀ k u, (u8s bs)[k]? = some u → cur[off + k]? = some u) : Lies W g off (u8s bs) := by
  intro k u hk
  simp [World.cell?, hg, hc k u hk]
theorem Cut.sl {base : Nat} {W : World} {v : Value} {bs : List Nat} (h : Cut base W v bs) : Sl W v (u8s bs) := by
  rcases h with ⟨rfl, rfl⟩ | ⟨g, off, cap, cur, rfl, hb, hg, h1, h2, h3, hc⟩
  · exact Sl.nil W
  · exact Or.inr ⟨g, off, cap, by rw [u8s_len], by rw [u8s_len]; exact h1, Cut.lies hg hc⟩
theorem Cut.own {base : Nat} {W : World} {v : Value} {bs : List Nat} (h : Cut base W v bs) : ∀ k, v.ownBlock = some k → base ≤ k ∧ k < W.heap.size := by
  intro k hk
  rcases h with ⟨rfl, rfl⟩ | ⟨g, off, cap, cur, rfl, hb, hg, _⟩
  · simp [Value.ownBlock] at hk
  · simp [Value.ownBlock] at hk
    subst hk
    exact ⟨hb, (Array.getElem?_eq_some_iff.1 hg).1⟩
theorem Cut.heap {base : Nat} {W W' : World} {v : Value} {bs : List Nat} (h : Cut base W v bs) (k : ∀ j, v.ownBlock = some j → W'.heap[j]? = W.heap[j]?) : Cut base W' v bs := by
  rcases h with h | ⟨g, off, cap, cur, rfl, hb, hg, r⟩
  · exact Or.inl h
  · exact Or.inr ⟨g, off, cap, cur, rfl, hb, (k g rfl).trans hg, r⟩
theorem Cut.below {base : Nat} {W W' : World} {v : Value} {bs : List Nat} (h : Cut base W v bs) (k : Below W.heap.size W W') : Cut base W' v bs := h.heap fun j hj => k.block j (h.own j hj).2
theorem Cut.turn {base g : Nat} {W W' : World} {v : Value} {bs : List Nat} (h : Cut base W v bs) (k : Turn g W W') (hg : g < base) : Cut base W' v bs := h.heap fun j hj => k.block j (h.own j hj).2 (fun e => by have := (h.own j hj).1; simp at e; omega)
theorem cut_of_own {base : Nat} {W : World} {v : Value} {bs : List Nat} (h : W.ownsRow base 5 1 v bs.length (u8s bs)) : Cut base W v bs := by
  rcases h.2 with ⟨rfl, h0⟩ | ⟨g, cap, cur, rfl, hb, hg, h1, h2, h3, h4⟩
  · exact Or.inl ⟨rfl, List.length_eq_zero_iff.1 h0⟩
  · refine Or.inr ⟨g, 0, cap, cur, rfl, hb, hg, h1, h2, by omega, fun k u hk => ?_⟩
    rw [Nat.zero_add, ← Array.getElem?_toList]
    rw [← h4, List.getElem?_take] at hk
    split at hk
    · exact hk
    · cases hk
/-- Cut ahead by n. -/
theorem Cut.drop {base n cap : Nat} {W : World} {ao : Option Addr} {bs : List Nat} (h : Cut base W (.slice ao bs.length cap) bs) (hn : n ≤ bs.length) : Cut base W (.slice (if cap = n then ao else ao.map (·.add n)) (bs.length - n) (cap - n)) (bs.drop n) := by
  have hl : (bs.drop n).length = bs.length - n := List.length_drop
  rcases h with ⟨h, rfl⟩ | ⟨g, off, cap', cur, e, hb, hg, h1, h2, h3, hc⟩
  · simp only [Value.slice.injEq] at h
    obtain ⟨rfl, _, rfl⟩ := h
    simp at hn
    subst hn
    exact Or.inl ⟨rfl, rfl⟩
  · simp only [Value.slice.injEq] at e
    obtain ⟨rfl, _, rfl⟩ := e
    by_cases hcn : cap = n
    · rw [if_pos hcn]
      refine Or.inr ⟨g, off, cap - n, cur, by rw [hl], hb, hg, by omega, by omega, by omega, fun k u hk => ?_⟩
      have := (List.getElem?_eq_some_iff.1 hk).1
      rw [u8s_len] at this
      omega
    · rw [if_neg hcn]
      have ha : (Option.map (fun x : Addr => x.add n) (some ⟨g, off, none⟩)) = some ⟨g, off + n, none⟩ := by
        simp only [Option.map_some, Option.some.injEq]
        unfold Addr.add
        split <;> simp_all
      rw [ha]
      refine Or.inr ⟨g, off + n, cap - n, cur, by rw [hl], hb, hg, by omega, by omega, by omega, fun k u hk => ?_⟩
      rw [u8s_drop, List.getElem?_drop] at hk
      rw [Nat.add_assoc]
      exact hc _ u hk
/-- There is room behind it. -/
theorem run_append_room_off {P : Program} (w : World) (t ty e : TypeId) (i : TypeInfo) (ht : P.underlying t = some (.slice e)) (hi : P.info? e = some i) (h1s : i.size = 1)
    (g off sLen sCap : Nat) (cur : Array Value) (hg : w.heap[g]? = some (.cells cur e (0, 0)))
    (a : Addr) (m c : Nat) (news : List Value) (hl : news.length = m) (hnews : ∀ j u, news[j]? = some u → w.cell? (a.add j) = some u) (h1 : ∀ u ∈ news, u.oneCell' = true)
    (hroom : sLen + m ≤ sCap) (hfit : off + sLen + news.length ≤ cur.size) :
    (Builtin.append_ #[t, t] ty #[.slice (some ⟨g, off, none⟩) sLen sCap, .slice (some a) m c]).run P w =
      .ok (.slice (some ⟨g, off, none⟩) (sLen + m) sCap) (w.setRow g (cur.toList.take (off + sLen) ++ news ++ cur.toList.drop (off + sLen + news.length)).toArray) := by
  have hf := run_firstCells_some (P := P) w i.size m a m c news (by rw [h1s, Nat.mul_one]; exact hl) hnews
  have hst := run_storeCells_at P g (off + sLen) e news 0 cur w hg (by simpa using hfit) h1
  simp only [Nat.add_zero] at hst
  have hadd : (⟨g, off, none⟩ : Addr).add sLen = ⟨g, off + sLen, none⟩ := by unfold Addr.add; split <;> simp_all
  rw [h1s] at hf
  simp [Builtin.append_, run_underlying ht, sizeOf, typeInfo, hi, h1s, Builtin.lenOf, hroom, hf, hadd, hst]
theorem cut_append {base : Nat} {W : World} {v x : Value} {bs ms : List Nat} (h : Cut base W v bs) (hx : Sl W x (u8s ms)) (hm : bs.length + ms.length ≤ 100000) (hbase : base ≤ W.heap.size) :
    ∃ v' w', (Builtin.append_ #[22, 22] 22 #[v, x]).run Try.prog W = .ok v' w' ∧ Cut base w' v' (bs ++ ms) ∧ W.grownBy w' v.ownBlock := by
  obtain ⟨i0, hi, hz0, hz1, hz2⟩ := info_parts Try.infoByte
  rcases h with ⟨rfl, rfl⟩ | ⟨g, off, cap, cur, rfl, hb, hg, h1, h2, h3, hc⟩
  · obtain ⟨v', w', hr, h2, h3⟩ := run_append_sl (P := Try.prog) (w := W) base 22 22 5 i0 (.int .u8 0) 1 Try.underlying22 hi hz0 hz1 hz2 rfl (.slice none 0 0) 0 [] (World.ownsRow_nil ..) x (u8s ms) hx (u8s_one ms) (by rw [u8s_len]; unfold maxLen; omega) (by rw [u8s_len]; omega) hbase
    refine ⟨v', w', hr, cut_of_own ?_, h3⟩
    rw [u8s_len, Nat.zero_add, List.nil_append] at h2
    exact h2
  · have hlies := Cut.lies hg hc
    have hgs : g < W.heap.size := (Array.getElem?_eq_some_iff.1 hg).1
    rcases hx with ⟨hms, ao, c, rfl, h0⟩ | ⟨xb, xo, c, rfl, hxc, hxl⟩
    · obtain rfl := u8s_nil hms
      refine ⟨.slice (some ⟨g, off, none⟩) bs.length cap, W, ?_, ?_, ⟨rfl, rfl, rfl, Nat.le_refl _, fun _ _ _ => rfl⟩⟩
      · match ao, h0 with
        | none, h0 =>
          have S := Src.ofNil (P := Try.prog) (w := W) (size := i0.size) Try.underlying22 c
          have := run_append_room_src (P := Try.prog) W 22 22 22 5 i0 Try.underlying22 hi g off bs.length cap _ 0 [] S (by omega) (fun j hj => by simp at hj) (fun j hj => by simp at hj)
          simpa [World.setCells] using this
        | some a, _ =>
          have S := Src.ofSlice (P := Try.prog) (w := W) (size := i0.size) Try.underlying22 a 0 c [] (by simp) (fun j u hj => by simp at hj) (fun u hu => by simp at hu)
          have := run_append_room_src (P := Try.prog) W 22 22 22 5 i0 Try.underlying22 hi g off bs.length cap _ 0 [] S (by omega) (fun j hj => by simp at hj) (fun j hj => by simp at hj)
          simpa [World.setCells] using this
      · rw [List.append_nil]
        exact Or.inr ⟨g, off, cap, cur, rfl, hb, hg, h1, h2, h3, hc⟩
    · rw [u8s_len] at hxc ⊢
      by_cases hroom : bs.length + ms.length ≤ cap
      · refine ⟨_, _, run_append_room_off (P := Try.prog) W 22 22 5 i0 Try.underlying22 hi hz1 g off bs.length cap cur hg ⟨xb, xo, none⟩ ms.length c (u8s ms) (u8s_len ms) hxl.news (u8s_one ms) hroom (by rw [u8s_len]; omega), ?_, ?_⟩
        · refine Or.inr ⟨g, off, cap, _, by rw [List.length_append], hb, setRow_heap W g cur _ _ _ hg, by rw [List.length_append]; exact hroom, h2, ?_, fun k u hk => ?_⟩
          · simp [u8s_len]
            omega
          · rw [List.getElem?_toArray, u8s_len]
            by_cases hk1 : k < bs.length
            · rw [u8s_app, List.getElem?_append_left (by rw [u8s_len]; exact hk1)] at hk
              rw [List.append_assoc, List.getElem?_append_left (by rw [List.length_take, show cur.toList.length = cur.size from Array.length_toList]; omega), List.getElem?_take, if_pos (by omega), Array.getElem?_toList]
              exact hc k u hk
            · have hk2 : k < bs.length + ms.length := by have := (List.getElem?_eq_some_iff.1 hk).1; rw [u8s_len, List.length_append] at this; exact this
              rw [u8s_app, List.getElem?_append_right (by rw [u8s_len]; omega), u8s_len] at hk
              have htl : (List.take (off + bs.length) cur.toList).length = off + bs.length := by rw [List.length_take, show cur.toList.length = cur.size from Array.length_toList]; omega
              rw [List.append_assoc, List.getElem?_append_right (by rw [htl]; omega), htl, List.getElem?_append_left (by rw [u8s_len]; omega), show off + k - (off + bs.length) = k - bs.length by omega]
              exact hk
        · exact ⟨rfl, rfl, rfl, by simp [World.setRow], fun k _ hk => setRow_other W g k _ (fun e => hk (by simp [Value.ownBlock, e]))⟩
      · have S := Src.ofSlice (P := Try.prog) (w := W) (size := i0.size) Try.underlying22 ⟨xb, xo, none⟩ ms.length c (u8s ms) (by rw [u8s_len, hz1, Nat.mul_one]) hxl.news (u8s_one ms)
        have hold : (Builtin.firstCells i0.size bs.length (.slice (some ⟨g, off, none⟩) bs.length cap)).run Try.prog W.drew = .ok (u8s bs).toArray W.drew := run_firstCells_some (P := Try.prog) W.drew i0.size bs.length ⟨g, off, none⟩ bs.length cap (u8s bs) (by rw [u8s_len, hz1, Nat.mul_one]) (Lies.news (w := W.drew) hlies)
        have hr := run_append_grow_src (P := Try.prog) W 22 22 22 5 i0 (.int .u8 0) Try.underlying22 hi hz0 (some ⟨g, off, none⟩) bs.length cap (u8s bs) hold (.slice (some ⟨xb, xo, none⟩) ms.length c) ms.length (u8s ms) S (by omega) (by omega) (growslice_fits_wide (by omega) (by rw [hz2]; omega))
        refine ⟨_, _, hr, ?_, ?_⟩
        · have hge := grownCap_ge W (bs.length + ms.length) cap 5
          refine Or.inr ⟨W.heap.size, 0, _, _, by rw [List.length_append], hbase, heap_alloc_new W.drew _, by rw [List.length_append]; exact hge, grownCap_le_maxLen _ _ _ _ (by unfold maxLen; omega), ?_, fun k u hk => ?_⟩
          · have hzc : (Value.cells (.int .u8 0)).size = 1 := rfl
            simp only [Array.size_append, List.size_toArray, List.length_append, u8s_len, size_zeroCells, hzc, Nat.mul_one]
            omega
          · rw [Nat.zero_add, ← u8s_app, Array.getElem?_append_left (by rw [List.size_toArray]; exact (List.getElem?_eq_some_iff.1 hk).1), List.getElem?_toArray]
            exact hk
        · refine ⟨rfl, rfl, rfl, ?_, fun k hk _ => ?_⟩
          · show _ ≤ (World.alloc W.drew _).heap.size
            rw [World.size_alloc]
            exact Nat.le_succ _
          · exact Below.heap_alloc W.drew _ k hk
end Go.Proofs.Ytjfaocpbhhpbdaa
