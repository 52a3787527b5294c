/- What LinePlays keeps: the bytes that are held beside the line, the frames that wait beside it. -/
import Derived.Test.YtgmbboimndepnaaL8
namespace Go.Proofs.Ytgmbboimndepnaa
open Go.RowKit
open Pdu
theorem Try.infoFrm : (Try.prog.info? 37).map (fun i => (i.zero, i.size, i.bytes)) = some (some (.agg #[.int .u8 0, .slice none 0 0]), 2, 32) := by kernel_rfl
/-- Frames in a block of the call's own, from base on and below B, from whatever place in it; their PDUs below B. -/
def CutF (base B : Nat) (W : World) (v : Value) (fs : List Fr) : Prop :=
  (v = .slice none 0 0 ∧ fs = []) ∨ ∃ gw off cap cur, v = .slice (some ⟨gw, off, none⟩) fs.length cap ∧ base ≤ gw ∧ gw < B ∧ W.heap[gw]? = some (.cells cur 37 (0, 0)) ∧ fs.length ≤ cap ∧ cap ≤ maxLen ∧ off + 2 * cap ≤ cur.size ∧
    ∀ k fr, fs[k]? = some fr → ∃ po pc, cur[off + 2 * k]? = some (.int .u8 (fr.unit : Int)) ∧ cur[off + 2 * k + 1]? = some (.slice po fr.pdu.length pc) ∧ Pd B W (.slice po fr.pdu.length pc) fr.pdu
theorem CutF.nil (base B : Nat) (W : World) : CutF base B W (.slice none 0 0) [] := Or.inl ⟨rfl, rfl⟩
theorem CutF.shape {base B : Nat} {W : World} {v : Value} {fs : List Fr} (h : CutF base B W v fs) : ∃ ao c, v = .slice ao fs.length c := by
  rcases h with ⟨rfl, rfl⟩ | ⟨g, off, cap, cur, rfl, _⟩
  · exact ⟨none, 0, rfl⟩
  · exact ⟨_, _, rfl⟩
theorem CutF.row {base B : Nat} {W : World} {v : Value} {fs : List Fr} (h : CutF base B W v fs) : ∀ k, v.ownBlock = some k → base ≤ k ∧ k < B ∧ ∃ cs, W.heap[k]? = some (.cells cs 37 (0, 0)) := by
  intro k hk
  rcases h with ⟨rfl, rfl⟩ | ⟨g, off, cap, cur, rfl, hb, hB, hg, _⟩
  · simp [Value.ownBlock] at hk
  · simp [Value.ownBlock] at hk
    subst hk
    exact ⟨hb, hB, cur, hg⟩
theorem CutF.carried {base B B' : Nat} {W W' : World} {v : Value} {fs : List Fr} (h : CutF base B W v fs) (hB : B ≤ B') (k : ∀ j, v.ownBlock = some j → W'.heap[j]? = W.heap[j]?) (kp : ∀ x p, Pd B W x p → Pd B' W' x p) : CutF base B' W' v fs := by
  rcases h with h | ⟨g, off, cap, cur, rfl, hb, hl, hg, h1, h2, h3, h4⟩
  · exact Or.inl h
  · refine Or.inr ⟨g, off, cap, cur, rfl, hb, by omega, (k g rfl).trans hg, h1, h2, h3, fun j fr hj => ?_⟩
    obtain ⟨po, pc, a, b, c⟩ := h4 j fr hj
    exact ⟨po, pc, a, b, kp _ _ c⟩
theorem CutF.below {base B : Nat} {W W' : World} {v : Value} {fs : List Fr} (h : CutF base B W v fs) (k : Below B W W') : CutF base B W' v fs := h.carried (Nat.le_refl _) (fun j hj => k.block j (h.row j hj).2.1) (fun _ _ p => p.below k)
theorem CutF.mono {base B B' : Nat} {W : World} {v : Value} {fs : List Fr} (h : CutF base B W v fs) (hB : B ≤ B') : CutF base B' W v fs := h.carried hB (fun _ _ => rfl) (fun _ _ p => p.mono hB)
theorem CutF.turn {base B g : Nat} {W W' : World} {v : Value} {fs : List Fr} {l : LS} (h : CutF base B W v fs) (s : Ln W g l) (k : Turn g W W') : CutF base B W' v fs := by
  refine h.carried (Nat.le_refl _) (fun j hj => ?_) (fun _ _ p => p.turn s k)
  obtain ⟨_, _, cs, hc⟩ := h.row j hj
  refine k.block j (Array.getElem?_eq_some_iff.1 hc).1 (fun e => ?_)
  simp only [Option.some.injEq] at e
  subst e
  rw [s.row] at hc
  simp at hc
/-- The first frame's cells. -/
theorem CutF.hd1 {base B : Nat} {W : World} {v : Value} {fr : Fr} {fs : List Fr} (h : CutF base B W v (fr :: fs)) : ∃ gw off cap po pc, v = .slice (some ⟨gw, off, none⟩) (fs.length + 1) cap ∧ fs.length + 1 ≤ cap ∧ W.cell? ⟨gw, off, none⟩ = some (.int .u8 (fr.unit : Int)) ∧ W.cell? ⟨gw, off + 1, none⟩ = some (.slice po fr.pdu.length pc) ∧ Pd B W (.slice po fr.pdu.length pc) fr.pdu ∧
    ∀ ao', ao' = (if cap = 1 then some ⟨gw, off, none⟩ else some ⟨gw, off + 2, none⟩) → CutF base B W (.slice ao' fs.length (cap - 1)) fs := by
  rcases h with ⟨_, h⟩ | ⟨g, off, cap, cur, rfl, hb, hl, hg, h1, h2, h3, h4⟩
  · cases h
  obtain ⟨po, pc, a, b, c⟩ := h4 0 fr rfl
  refine ⟨g, off, cap, po, pc, rfl, h1, by simpa [World.cell?, hg] using a, by simpa [World.cell?, hg] using b, c, ?_⟩
  rintro ao' rfl
  have hlen : (fr :: fs).length = fs.length + 1 := rfl
  by_cases hc : cap = 1
  · rw [if_pos hc]
    refine Or.inr ⟨g, off, cap - 1, cur, rfl, hb, hl, hg, by omega, by omega, by omega, fun k x hk => ?_⟩
    have := (List.getElem?_eq_some_iff.1 hk).1
    omega
  · rw [if_neg hc]
    refine Or.inr ⟨g, off + 2, cap - 1, cur, rfl, hb, hl, hg, by omega, by omega, by omega, fun k x hk => ?_⟩
    have := h4 (k + 1) x (by simpa using hk)
    rw [show off + 2 * (k + 1) = off + 2 + 2 * k by omega] at this
    exact this
theorem two_one' (x : Int) (po : Option Addr) (m pc : Nat) : ∀ u ∈ [Value.int .u8 x, Value.slice po m pc], u.oneCell' = true := by
  intro u hu
  simp at hu
  rcases hu with rfl | rfl <;> rfl
theorem getElem?_zero_append {xs : List Value} {zs : Array Value} {k : Nat} {v : Value} (h : xs[k]? = some v) : (xs.toArray ++ zs)[k]? = some v := by
  rw [Array.getElem?_append_left (by rw [List.size_toArray]; exact (List.getElem?_eq_some_iff.1 h).1), List.getElem?_toArray]
  exact h
/-- One frame more. -/
theorem cutf_push {base B : Nat} {W : World} {v : Value} {fs : List Fr} {fr : Fr} {po : Option Addr} {pc : Nat} (h : CutF base B W v fs) (hn : fs.length ≤ 100) (hbase : base ≤ W.heap.size) (hBW : B ≤ W.heap.size) (hp : Pd W.heap.size W (.slice po fr.pdu.length pc) fr.pdu) :
    ∃ v' w', (Builtin.append_ #[29, 29] 29 #[v, .slice (some ⟨W.heap.size, 0, none⟩) 1 1]).run Try.prog (W.alloc (.cells #[.int .u8 (fr.unit : Int), .slice po fr.pdu.length pc] 37)) = .ok v' w' ∧ CutF base w'.heap.size w' v' (fs ++ [fr]) ∧ (W.alloc (.cells #[.int .u8 (fr.unit : Int), .slice po fr.pdu.length pc] 37)).grownBy w' v.ownBlock := by
  obtain ⟨i0, hi, hz0, hz1, hz2⟩ := info_parts Try.infoFrm
  obtain ⟨X, hX⟩ : ∃ X, X = W.alloc (.cells #[.int .u8 (fr.unit : Int), .slice po fr.pdu.length pc] 37) := ⟨_, rfl⟩
  have hXs : X.heap.size = W.heap.size + 1 := by rw [hX]; exact World.size_alloc ..
  have kX : Below W.heap.size W X := by rw [hX]; exact below_new (Below.refl _ W) _
  have hnews := two_cells W 37 (.int .u8 (fr.unit : Int)) (.slice po fr.pdu.length pc)
  rw [← hX] at hnews ⊢
  have pX : Pd X.heap.size X (.slice po fr.pdu.length pc) fr.pdu := (hp.below kX).mono kX.size
  have S := Src.ofSlice (P := Try.prog) (w := X) (size := i0.size) Try.underlying29 ⟨W.heap.size, 0, none⟩ 1 1 [.int .u8 (fr.unit : Int), .slice po fr.pdu.length pc] (by rw [hz1]; rfl) hnews (two_one' _ _ _ _)
  have hX2 : CutF base B X v fs := h.below (kX.mono hBW)
  have hlt := fun j hj => (h.row j hj).2.1
  clear hX kX hp hnews h
  have grow : ∀ (ao : Option Addr) (cap : Nat) (olds : List Value), v = .slice ao fs.length cap → cap < fs.length + 1 → (∀ j, v.ownBlock = some j → j < X.heap.size) → (Builtin.firstCells i0.size fs.length (.slice ao fs.length cap)).run Try.prog X.drew = .ok olds.toArray X.drew → olds.length = 2 * fs.length →
      (∀ k fr', fs[k]? = some fr' → ∃ po' pc', olds[2 * k]? = some (.int .u8 (fr'.unit : Int)) ∧ olds[2 * k + 1]? = some (.slice po' fr'.pdu.length pc') ∧ Pd X.heap.size X (.slice po' fr'.pdu.length pc') fr'.pdu) →
      ∃ v' w', (Builtin.append_ #[29, 29] 29 #[v, .slice (some ⟨W.heap.size, 0, none⟩) 1 1]).run Try.prog X = .ok v' w' ∧ CutF base w'.heap.size w' v' (fs ++ [fr]) ∧ X.grownBy w' v.ownBlock := by
    intro ao cap olds hv hcap hj hold hol hel
    have hr := run_append_grow_src (P := Try.prog) X 29 29 29 37 i0 _ Try.underlying29 hi hz0 ao fs.length cap olds hold (.slice (some ⟨W.heap.size, 0, none⟩) 1 1) 1 _ S hcap (by omega) (growslice_fits_wide (by omega) (by rw [hz2]; omega))
    rw [hv]
    refine ⟨_, _, hr, ?_, ?_⟩
    · have hge := grownCap_ge X (fs.length + 1) cap 37
      obtain ⟨C, hC⟩ : ∃ C, C = grownCap X (fs.length + 1) cap 37 := ⟨_, rfl⟩
      have hle : C ≤ maxLen := by rw [hC]; exact grownCap_le_maxLen _ _ _ _ (by unfold maxLen; omega)
      rw [← hC] at hge ⊢
      obtain ⟨cur, hcur⟩ : ∃ cur, cur = (olds ++ [Value.int .u8 (fr.unit : Int), .slice po fr.pdu.length pc]).toArray ++ Builtin.zeroCells (Value.cells (.agg #[.int .u8 0, .slice none 0 0])) (C - (fs.length + 1)) := ⟨_, rfl⟩
      rw [← hcur]
      have hsz : (X.drew.alloc (.cells cur 37)).heap.size = X.heap.size + 1 := World.size_alloc ..
      have kp : Below X.heap.size X (X.drew.alloc (.cells cur 37)) := below_new (Below.refl _ X).drew _
      refine Or.inr ⟨X.heap.size, 0, C, cur, by rw [List.length_append]; rfl, by omega, by rw [hsz]; omega, heap_alloc_new X.drew _, by rw [List.length_append]; exact hge, hle, ?_, fun k x hk => ?_⟩
      · have hzc : (Value.cells (.agg #[.int .u8 0, .slice none 0 0])).size = 2 := rfl
        rw [hcur]
        simp only [Array.size_append, List.size_toArray, List.length_append, size_zeroCells, hzc, hol, List.length_cons, List.length_nil]
        omega
      · have fin : ∀ v p, Pd X.heap.size X v p → Pd (X.drew.alloc (.cells cur 37)).heap.size (X.drew.alloc (.cells cur 37)) v p := fun v p q => (q.below kp).mono kp.size
        rw [Nat.zero_add, hcur]
        by_cases hlt : k < fs.length
        · rw [List.getElem?_append_left hlt] at hk
          obtain ⟨po', pc', a, b, c⟩ := hel k x hk
          refine ⟨po', pc', getElem?_zero_append ?_, getElem?_zero_append ?_, by rw [← hcur]; exact fin _ _ c⟩
          · rw [List.getElem?_append_left (by omega)]; exact a
          · rw [List.getElem?_append_left (by omega)]; exact b
        · have hk2 : k = fs.length := by have := (List.getElem?_eq_some_iff.1 hk).1; simp at this; omega
          subst hk2
          simp at hk
          subst hk
          refine ⟨po, pc, getElem?_zero_append ?_, getElem?_zero_append ?_, by rw [← hcur]; exact fin _ _ pX⟩
          · rw [List.getElem?_append_right (by omega), show 2 * fs.length - olds.length = 0 by omega]; rfl
          · rw [List.getElem?_append_right (by omega), show 2 * fs.length + 1 - olds.length = 1 by omega]; rfl
    · refine ⟨rfl, rfl, rfl, ?_, fun k hk _ => ?_⟩
      · show _ ≤ (World.alloc X.drew _).heap.size
        rw [World.size_alloc]
        exact Nat.le_succ _
      · exact Below.heap_alloc X.drew _ k hk
  rcases hX2 with ⟨rfl, rfl⟩ | ⟨g, off, cap, cur, rfl, hb, hl, hg, h1, h2, h3, h4⟩
  · exact grow none 0 [] rfl (by simp) (fun j hj => by simp [Value.ownBlock] at hj) (by simp [Builtin.firstCells]) rfl (fun k x hk => by simp at hk)
  · have hgs : g < X.heap.size := (Array.getElem?_eq_some_iff.1 hg).1
    by_cases hroom : fs.length + 1 ≤ cap
    · have hcell : ∀ j, X.cell? ⟨g, off + j, none⟩ = cur[off + j]? := fun j => by simp [World.cell?, hg]
      have hr := run_append_room_src (P := Try.prog) X 29 29 29 37 i0 Try.underlying29 hi g off fs.length cap _ 1 _ S hroom
        (fun j hj => by rw [hz1, Nat.add_assoc, hcell]; simp at hj; rw [Array.getElem?_eq_getElem (by omega)]; rfl) (fun j hj => by simp [World.frozen?, hg])
      rw [hz1] at hr
      obtain ⟨w', hw'⟩ : ∃ w', w' = X.setCells g (off + fs.length * 2) [.int .u8 (fr.unit : Int), .slice po fr.pdu.length pc] := ⟨_, rfl⟩
      have hset : w' = (X.setCell ⟨g, off + 2 * fs.length, none⟩ (.int .u8 (fr.unit : Int))).setCell ⟨g, off + 2 * fs.length + 1, none⟩ (.slice po fr.pdu.length pc) := by rw [hw', show fs.length * 2 = 2 * fs.length by omega]; rfl
      rw [← hw'] at hr
      have T : Turn g X w' := by rw [hset]; exact ((Turn.refl g X).set _ _).set _ _
      have hrow : w'.heap[g]? = some (.cells ((cur.toList.set (off + 2 * fs.length) (.int .u8 (fr.unit : Int))).set (off + 2 * fs.length + 1) (.slice po fr.pdu.length pc)).toArray 37 (0, 0)) := by
        rw [hset]
        exact set_row (set_row (l := cur.toList) (by simpa using hg) _) _
      have nb : ∀ j cs fl, some g = some j → X.heap[j]? ≠ some (.cells cs 5 fl) := by
        intro j cs fl e hj
        simp only [Option.some.injEq] at e
        subst e
        rw [hg] at hj
        simp at hj
      have fin : ∀ v p B', Pd B' X v p → B' ≤ X.heap.size → Pd w'.heap.size w' v p := fun v p B' q hq => (q.grown T nb).mono (Nat.le_trans hq T.size)
      have hcl : cur.toList.length = cur.size := Array.length_toList
      refine ⟨_, _, hr, ?_, T⟩
      refine Or.inr ⟨g, off, cap, _, by rw [List.length_append]; rfl, hb, Nat.lt_of_lt_of_le hgs T.size, hrow, by rw [List.length_append]; exact hroom, h2, by simp; omega, fun k x hk => ?_⟩
      by_cases hlt : k < fs.length
      · rw [List.getElem?_append_left hlt] at hk
        obtain ⟨po', pc', a, b, c⟩ := h4 k x hk
        refine ⟨po', pc', ?_, ?_, fin _ _ _ c (by omega)⟩
        · rw [List.getElem?_toArray, List.getElem?_set_ne (by omega), List.getElem?_set_ne (by omega), Array.getElem?_toList]; exact a
        · rw [List.getElem?_toArray, List.getElem?_set_ne (by omega), List.getElem?_set_ne (by omega), Array.getElem?_toList]; exact b
      · have hk2 : k = fs.length := by have := (List.getElem?_eq_some_iff.1 hk).1; simp at this; omega
        subst hk2
        simp at hk
        subst hk
        refine ⟨po, pc, ?_, ?_, fin _ _ _ pX (Nat.le_refl _)⟩
        · rw [List.getElem?_toArray, List.getElem?_set_ne (by omega), List.getElem?_set_self (by omega)]
        · rw [List.getElem?_toArray, List.getElem?_set_self (by rw [List.length_set]; omega)]
    · have hcl : cur.toList.length = cur.size := Array.length_toList
      have hlist : ((cur.toList.drop off).take (2 * fs.length)).length = 2 * fs.length := by rw [List.length_take, List.length_drop, hcl]; omega
      have hat : ∀ j, j < 2 * fs.length → ((cur.toList.drop off).take (2 * fs.length))[j]? = cur[off + j]? := fun j hj => by rw [List.getElem?_take, if_pos hj, List.getElem?_drop, Array.getElem?_toList]
      refine grow (some ⟨g, off, none⟩) cap ((cur.toList.drop off).take (2 * fs.length)) rfl (by omega) (fun j hj => by have := hlt j hj; omega) ?_ hlist (fun k x hk => ?_)
      · refine run_firstCells_some (P := Try.prog) X.drew i0.size fs.length ⟨g, off, none⟩ fs.length cap _ (by rw [hlist, hz1, Nat.mul_comm]) (fun j u hj => ?_)
        have hj2 : j < 2 * fs.length := by have := (List.getElem?_eq_some_iff.1 hj).1; omega
        rw [hat j hj2] at hj
        have hplain : (⟨g, off, none⟩ : Addr).add j = ⟨g, off + j, none⟩ := by unfold Addr.add; split <;> simp_all
        rw [hplain]
        show X.cell? ⟨g, off + j, none⟩ = some u
        simpa [World.cell?, hg] using hj
      · have hkl := (List.getElem?_eq_some_iff.1 hk).1
        obtain ⟨po', pc', a, b, c⟩ := h4 k x hk
        exact ⟨po', pc', by rw [hat _ (by omega)]; exact a, by rw [hat _ (by omega), ← Nat.add_assoc]; exact b, c.mono (by omega)⟩
/-- Cut from behind. -/
theorem Cut.take {base n k cap : Nat} {W : World} {ao : Option Addr} {bs : List Nat} (h : Cut base W (.slice ao n cap) bs) (hn : n = bs.length) (hk : k ≤ n) : Cut base W (.slice ao k cap) (bs.take k) := by
  have hl : (bs.take k).length = k := by rw [List.length_take]; omega
  rcases h with ⟨h, rfl⟩ | ⟨g, off, cap', cur, e, hb, hg, h1, h2, h3, hc⟩
  · simp only [Value.slice.injEq] at h
    obtain ⟨rfl, rfl, rfl⟩ := h
    obtain rfl : k = 0 := by omega
    exact Or.inl ⟨rfl, rfl⟩
  · simp only [Value.slice.injEq] at e
    obtain ⟨rfl, _, rfl⟩ := e
    refine Or.inr ⟨g, off, cap, cur, by rw [hl], hb, hg, by omega, h2, h3, fun j u hj => hc j u ?_⟩
    rw [u8s_take, List.getElem?_take] at hj
    split at hj
    · exact hj
    · cases hj
end Go.Proofs.Ytgmbboimndepnaa
