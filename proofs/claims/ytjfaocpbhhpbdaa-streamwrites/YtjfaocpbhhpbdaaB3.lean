/- Words laid behind bytes: what else there was stays (stage 6). -/
import Derived.Test.YtjfaocpbhhpbdaaB2
import Derived.Maps.AppendAt
namespace Go.Proofs.Ytjfaocpbhhpbdaa
open Go.RowKit
open Pdu
/-- append to a row of the call's own, as one step of a region that draws; where the new slice lies. -/
theorem step_append_own_at {P : Program} {ops : Array Oper} {o : Oper} {a : Act} {w : World} {K : Act → World → Prop} {Q : Exit → Act → World → Prop} {E : Prop}
    (hg : o.guard = none) (s x : Operand) (t : TypeId) (ho : o.op = .call { callee := .builtin .append, args := #[s, x], argTypes := #[t, t] })
    (base : Nat) (e : TypeId) (i : TypeInfo) (z : Value) (size bytes : Nat) (ht : P.underlying t = some (.slice e)) (hi : P.info? e = some i) (hz : i.zero = some z)
    (hsize : i.size = size) (hby : i.bytes = bytes) (hzs : z.cells.size = size) (hsz : 0 < size)
    (v : Value) (n : Nat) (xs : List Value) (hs : a.eval s = v) (hown : w.ownsRow base e size v n xs)
    (ad : Addr) (m c : Nat) (news : List Value) (hx : a.eval x = .slice (some ad) m c) (hl : news.length = m * size) (hnews : ∀ j u, news[j]? = some u → w.cell? (ad.add j) = some u) (h1 : ∀ u ∈ news, u.oneCell' = true)
    (h63 : n + m ≤ maxLen) (hbytes : (n + m) * bytes ≤ 140737488355328) (hbase : base ≤ w.heap.size)
    (h : ∀ v' w', w'.ownsRow base e size v' (n + m) (xs ++ news) → w.grownBy w' v.ownBlock → (v' = .slice none 0 0 ↔ v = .slice none 0 0 ∧ m = 0) → (v'.ownBlock = v.ownBlock ∨ v'.ownBlock = some w.heap.size) → K (a.put o.dst v') w') :
    if Region.wanted o (yielded ops a.tmps) = true then Oper.wp P o a w K Q else E := by
  rw [if_pos (by simp [Region.wanted, hg])]
  obtain ⟨v', w', hr, h2, h3, h4, h5⟩ := run_append_own_at (P := P) w base t o.type e i z size bytes ht hi hz hsize hby hzs hsz v n xs hown ad m c news hl hnews h1 h63 hbytes hbase
  unfold Oper.wp execOp
  simp only [ho, resolve, invoke, builtin, Sem.run_bind, Sem.run_pure, Result.andThen_ok, List.map_toArray, List.map_cons, List.map_nil, hs, hx, hr]
  exact h v' w' h2 h3 h4 h5
/-- All blocks that there were, but the one that the slice bv owns, are as they were. -/
def Others (bv : Value) (w w' : World) : Prop := ∀ j, j < w.heap.size → bv.ownBlock ≠ some j → w'.heap[j]? = w.heap[j]?
/-- The slice v lies where bv lay, or in a new block. -/
def Where (bv : Value) (w : World) (v : Value) : Prop := v.ownBlock = bv.ownBlock ∨ ∃ g, v.ownBlock = some g ∧ w.heap.size ≤ g
theorem others_step {bv v v' : Value} {w wr w1 : World} {o : Obj} (h : Others bv w wr) (k : Where bv w v) (hs : w.heap.size ≤ wr.heap.size) (hg : (wr.alloc o).grownBy w1 v.ownBlock) (hat : v'.ownBlock = v.ownBlock ∨ v'.ownBlock = some (wr.heap.size + 1)) : Others bv w w1 ∧ Where bv w v' := by
  constructor
  · intro j hj hne
    rw [hg.block j (by simp; omega) ?_, Below.heap_alloc wr o j (by omega), h j hj hne]
    intro e
    rcases k with k | ⟨g, k, hg'⟩
    · exact hne (k.symm.trans e.symm)
    · rw [k] at e
      simp only [Option.some.injEq] at e
      omega
  · rcases hat with hat | hat
    · rcases k with k | ⟨g, k, hg'⟩
      · exact Or.inl (hat.trans k)
      · exact Or.inr ⟨g, hat.trans k, hg'⟩
    · exact Or.inr ⟨_, hat, by omega⟩
set_option maxHeartbeats 1600000 in
theorem two_at2 (base lb lo m lc : Nat) (bv : Value) (bs l : List Nat) (w : World) (hl : m = l.length) (hw : Words l) (hsz : bs.length + 2 * m ≤ 1000000)
    (hown : w.ownsRow base 5 1 bv bs.length (u8s bs)) (hlies : Lies w lb lo (u16s l)) (hoff : lb < base ∨ ∃ cs fl, w.heap[lb]? = some (.cells cs 27 fl)) (hlb : lb < w.heap.size) (hbase : base ≤ w.heap.size) :
    Calls Try.prog 22 #[bv, .slice (some ⟨lb, lo, none⟩) m lc] w fun e w' => ∃ v', e = .returned v' ∧ w'.ownsRow base 5 1 v' (bs.length + 2 * m) (u8s (bs ++ wds l)) ∧ Below base w w' ∧ Others bv w w' := by
  obtain ⟨i0, hi, hz0, hz1, hz2⟩ := info_parts Try.infoByte
  have HN : Hid (m = l.length) := hl
  have HL : Hid (Lies w lb lo (u16s l)) := hlies
  have HO : Hid (w.ownsRow base 5 1 bv bs.length (u8s bs)) := hown
  have HF : Hid (lb < base ∨ ∃ cs fl, w.heap[lb]? = some (.cells cs 27 fl)) := hoff
  clear hl hlies hown hoff
  go_enter Try.func22, Try.ntmps22
  go_wp2
  go_loopw [0, 5] (fun v i wr => ∃ k : Nat, k ≤ m ∧ i = .int .i64 k ∧ Put base lb w wr v bs l k ∧ Others bv w wr ∧ Where bv w v) (fun _ i _ => m - (intOf i).toNat)
  case atStart => exact ⟨0, by omega, rfl, ⟨by simpa [wds] using HO.out, Below.refl _ _, rfl⟩, fun _ _ _ => rfl, Or.inl rfl⟩
  case round =>
    obtain ⟨k, hk, rfl, HP, OT, WH⟩ := hrel
    have OT : Hid (Others bv w wr) := OT
    have WH : Hid (Where bv w u0) := WH
    obtain ⟨x, hx⟩ : ∃ x, x = l.getD k 0 := ⟨_, rfl⟩
    have hx16 : x < 65536 := by rw [hx]; exact hw.at k
    have hcell : k < m → wr.cell? ⟨lb, lo + k, none⟩ = some (.int .u16 x) := fun h => by
      have hk' : k < l.length := by rw [← (show m = _ from HN)]; exact h
      rw [hx, World.cell?_of_block (w := w) (a := ⟨lb, lo + k, none⟩) HP.2.2]
      exact HL.out.u16 k hk'
    have HX : Hid (x = l.getD k 0) := hx
    have HP : Hid (Put base lb w wr u0 bs l k) := HP
    clear hx
    have hsize : base ≤ wr.heap.size := by have := HP.out.2.1.size; omega
    go_wp2
    · have hkm : k < m := by assumption
      have hc := hcell hkm
      have e1 : IntKind.u8.wrap ((x : Int) / 256) = (x : Int) / 256 := by rw [IntKind.wrap_u8]; omega
      have e2 : IntKind.u8.wrap (x : Int) = (x : Int) % 256 := by rw [IntKind.wrap_u8]
      clear hcell
      go_region_law (refine step_append_own_at rfl (.tmp 12) (.tmp 24) 22 rfl base 5 i0 (.int .u8 0) 1 1 Try.underlying22 hi hz0 hz1 hz2 rfl (by decide) _ (bs.length + 2 * k) _ rfl (HP.out.1.alloc _).drew ⟨wr.heap.size, 0, none⟩ 2 2 [.int .u8 ((x : Int) / 256), .int .u8 ((x : Int) % 256)] rfl rfl (two_cells wr _ _ _) (two_one _ _ _) (by unfold maxLen; omega) (by omega) (by simp; omega) ?_; intro v' w1 hown' hgrow hnil hat)
      all_goals
        have hg : (wr.alloc (.cells #[.int .u8 ((x : Int) / 256), .int .u8 ((x : Int) % 256)] 5)).grownBy w1 u0.ownBlock := ⟨hgrow.os, hgrow.tape, hgrow.output, hgrow.size, hgrow.block⟩
        have HR : Hid (Put base lb w w1 v' bs l (k + 1)) := put_step HF hlb hbase (by rw [← (show m = _ from HN)]; exact hkm) HX HP (by rw [wd_u8s]; exact hown') hg
        have HO2 : Hid (Others bv w w1 ∧ Where bv w v') := others_step OT.out WH.out HP.out.2.1.size hg (by rcases hat with h | h; exact Or.inl h; exact Or.inr (h.trans (congrArg some (World.size_alloc wr _))))
        clear hown' hgrow hg hnil hat HP hc OT WH
        go_wp2
        go_roundw
        case rel => exact ⟨k + 1, by omega, by go_num, HR, HO2.out.1, HO2.out.2⟩
        case measure => simp [intOf]; omega
    · obtain rfl : k = m := by omega
      go_ret
      have hm : k = l.length := HN
      refine ⟨_, rfl, ?_, HP.out.2.1, OT.out⟩
      have h1 := HP.out.1
      rw [hm, List.take_length, ← hm] at h1
      exact h1
/-- Words behind bytes, both in one world with whatever stands beside. -/
theorem two_lies {base g n c : Nat} {bv : Value} {bs l : List Nat} {W : World} (hn : n = l.length) (hw : Words l) (hsz : bs.length + 2 * l.length ≤ 1000000) (hown : W.ownsRow base 5 1 bv bs.length (u8s bs)) (hL : Lies W g 0 (u16s l)) (hoff : ∃ cs fl, W.heap[g]? = some (.cells cs 27 fl)) (hg : g < W.heap.size) (hbase : base ≤ W.heap.size) :
    Calls Try.prog 22 #[bv, .slice (some ⟨g, 0, none⟩) n c] W fun e w' => ∃ v', e = .returned v' ∧ w'.ownsRow base 5 1 v' (bs ++ wds l).length (u8s (bs ++ wds l)) ∧ Below base W w' ∧ Others bv W w' := by
  have hlen : (bs ++ wds l).length = bs.length + 2 * n := by rw [List.length_append, wds_length, hn]
  rw [hlen]
  exact two_at2 base g 0 n c bv bs l W hn hw (by omega) hown hL (Or.inr hoff) hg hbase
theorem lies_new (w : World) (l : List Nat) (a : Array Value) (ha : a.toList = u16s l) : Lies (w.alloc (.cells a 27)) w.heap.size 0 (u16s l) := by
  intro k u hk
  rw [World.cell?_alloc_new, Nat.zero_add, ← Array.getElem?_toList, ha]
  exact hk
/-- The words' literal, then the byte's. -/
theorem two_B {base : Nat} {bv : Value} {bs l : List Nat} {w : World} {a : Array Value} {n : Nat} {z : Int} (ha : a.toList = u16s l) (hn : n = l.length) (hw : Words l) (hsz : bs.length + 2 * l.length ≤ 1000000) (hown : w.ownsRow base 5 1 bv bs.length (u8s bs)) (hbase : base ≤ w.heap.size) :
    Calls Try.prog 22 #[bv, .slice (some ⟨w.heap.size, 0, none⟩) n n] ((w.alloc (.cells a 27)).alloc (.cells #[.int .u8 z] 5)).drew fun e w' => ∃ v', e = .returned v' ∧ w'.ownsRow base 5 1 v' (bs ++ wds l).length (u8s (bs ++ wds l)) ∧ Below base w w' ∧ w'.cell? ⟨w.heap.size + 1, 0, none⟩ = some (.int .u8 z) := by
  have hb2 : (w.alloc (.cells a 27)).heap.size = w.heap.size + 1 := World.size_alloc _ _
  have k : Below w.heap.size w ((w.alloc (.cells a 27)).alloc (.cells #[.int .u8 z] 5)).drew := (below_new (below_new (Below.refl _ w) _) _).drew
  refine (two_lies (W := ((w.alloc (.cells a 27)).alloc (.cells #[.int .u8 z] 5)).drew) hn hw hsz (own_below hown k (Nat.le_refl _)) (((lies_new w l a ha).below (below_new (Below.refl _ _) _)).below (Below.refl _ _).drew) ⟨a, _, (Below.heap_alloc _ _ _ (by rw [hb2]; omega)).trans (heap_alloc_new w _)⟩ ?_ ?_).mono ?_
  · show w.heap.size < ((w.alloc (.cells a 27)).alloc (.cells #[.int .u8 z] 5)).heap.size
    rw [World.size_alloc, hb2]; omega
  · exact Nat.le_trans hbase k.size
  rintro e w' ⟨v', rfl, h1, h2, h3⟩
  refine ⟨v', rfl, h1, (k.mono hbase).trans h2, ?_⟩
  have h4 := h3 (w.heap.size + 1) (by show _ < ((w.alloc (.cells a 27)).alloc (.cells #[.int .u8 z] 5)).heap.size; rw [World.size_alloc, hb2]; omega) (fun e => by have := (hown.lt _ e).2; omega)
  rw [World.cell?_of_block (a := ⟨w.heap.size + 1, 0, none⟩) h4]
  have h5 := World.cell?_alloc_new (w.alloc (.cells a 27)) #[.int .u8 z] 5 0
  rw [hb2] at h5
  exact h5
/-- The byte's literal, then the words'. -/
theorem two_C {base : Nat} {bv : Value} {bs l : List Nat} {w : World} {a : Array Value} {n : Nat} {z : Int} (ha : a.toList = u16s l) (hn : n = l.length) (hw : Words l) (hsz : bs.length + 2 * l.length ≤ 1000000) (hown : w.ownsRow base 5 1 bv bs.length (u8s bs)) (hbase : base ≤ w.heap.size) :
    Calls Try.prog 22 #[bv, .slice (some ⟨w.heap.size + 1, 0, none⟩) n n] ((w.alloc (.cells #[.int .u8 z] 5)).alloc (.cells a 27)).drew fun e w' => ∃ v', e = .returned v' ∧ w'.ownsRow base 5 1 v' (bs ++ wds l).length (u8s (bs ++ wds l)) ∧ Below base w w' ∧ w'.cell? ⟨w.heap.size, 0, none⟩ = some (.int .u8 z) := by
  have hb2 : (w.alloc (.cells #[.int .u8 z] 5)).heap.size = w.heap.size + 1 := World.size_alloc _ _
  have k : Below w.heap.size w ((w.alloc (.cells #[.int .u8 z] 5)).alloc (.cells a 27)).drew := (below_new (below_new (Below.refl _ w) _) _).drew
  have hl := lies_new (w.alloc (.cells #[.int .u8 z] 5)) l a ha
  have hn2 := heap_alloc_new (w.alloc (.cells #[.int .u8 z] 5)) (.cells a 27)
  rw [hb2] at hl hn2
  refine (two_lies (W := ((w.alloc (.cells #[.int .u8 z] 5)).alloc (.cells a 27)).drew) hn hw hsz (own_below hown k (Nat.le_refl _)) (hl.below (Below.refl _ _).drew) ⟨a, _, hn2⟩ ?_ ?_).mono ?_
  · show w.heap.size + 1 < ((w.alloc (.cells #[.int .u8 z] 5)).alloc (.cells a 27)).heap.size
    rw [World.size_alloc, hb2]; omega
  · exact Nat.le_trans hbase k.size
  rintro e w' ⟨v', rfl, h1, h2, h3⟩
  refine ⟨v', rfl, h1, (k.mono hbase).trans h2, ?_⟩
  have h4 := h3 w.heap.size (by show _ < ((w.alloc (.cells #[.int .u8 z] 5)).alloc (.cells a 27)).heap.size; rw [World.size_alloc, hb2]; omega) (fun e => by have := (hown.lt _ e).2; omega)
  rw [World.cell?_of_block (a := ⟨w.heap.size, 0, none⟩) h4]
  show ((w.alloc (.cells #[.int .u8 z] 5)).alloc (.cells a 27)).cell? ⟨w.heap.size, 0, none⟩ = _
  rw [World.cell?_alloc_past _ _ _ (by simp)]
  exact World.cell?_alloc_new w #[.int .u8 z] 5 0
theorem one_lit {W : World} {g z : Nat} {zi : Int} (h : W.cell? ⟨g, 0, none⟩ = some (.int .u8 zi)) (hz : zi = (z : Int)) : ∀ j u, (u8s [z])[j]? = some u → W.cell? ((⟨g, 0, none⟩ : Addr).add j) = some u := by
  intro j u hj
  match j, hj with
  | 0, hj =>
    simp [u8s] at hj
    subst hj
    rw [hz] at h
    simpa [Addr.add] using h
/-- One byte laid behind bytes, as a step of a region, from a world in which nothing was drawn since. -/
theorem step_push0 {ops : Array Oper} {o : Oper} {a : Act} {Y : World} {K : Act → World → Prop} {Q : Exit → Act → World → Prop} {E : Prop}
    (hg : o.guard = none) (s x : Operand) (ho : o.op = .call { callee := .builtin .append, args := #[s, x], argTypes := #[22, 22] })
    (base : Nat) (v : Value) (bs : List Nat) (z : Nat) (zi : Int) (hz : zi = (z : Int)) (hs : a.eval s = v) (hx : a.eval x = .slice (some ⟨Y.heap.size, 0, none⟩) 1 1)
    (hown : Y.ownsRow base 5 1 v bs.length (u8s bs)) (hsz : bs.length ≤ 50000) (hbase : base ≤ Y.heap.size)
    (h : ∀ v' w', w'.ownsRow base 5 1 v' (bs ++ [z]).length (u8s (bs ++ [z])) → Below base Y w' → K (a.put o.dst v') w') :
    if Region.wanted o (yielded ops a.tmps) = true then Oper.wp Try.prog o a (Y.alloc (.cells #[.int .u8 zi] 5)) K Q else E := by
  refine step_join hg s x ho base v bs [z] Y.heap.size 1 1 hs hx rfl (hown.alloc _) (one_lit (by simp) hz) (by simp; omega) (by simp; omega) ?_
  intro v' w' h1 h2
  exact h v' w' h1 (((Below.refl base Y).alloc hbase _).trans h2)
set_option maxHeartbeats 800000 in
theorem step_append_own2 {ops : Array Oper} {o : Oper} {a : Act} {W : World} {K : Act → World → Prop} {Q : Exit → Act → World → Prop} {E : Prop}
    (hg : o.guard = none) (s x : Operand) (ho : o.op = .call { callee := .builtin .append, args := #[s, x], argTypes := #[22, 22] })
    (base : Nat) (v vx : Value) (bs ms : List Nat) (hs : a.eval s = v) (hx : a.eval x = vx) (hown : W.ownsRow base 5 1 v bs.length (u8s bs)) (hm : Sl W vx (u8s ms)) (hsz : bs.length + ms.length ≤ 60000) (hbase : base ≤ W.heap.size)
    (h : ∀ v' w', w'.ownsRow base 5 1 v' (bs ++ ms).length (u8s (bs ++ ms)) → Below base W w' → K (a.put o.dst v') w') :
    if Region.wanted o (yielded ops a.tmps) = true then Oper.wp Try.prog o a W K Q else E := by
  obtain ⟨i0, hi, hz0, hz1, hz2⟩ := info_parts Try.infoByte
  obtain ⟨y6, w6, hAp, own6, g6⟩ := run_append_sl (P := Try.prog) (w := W) base 22 o.type 5 i0 (.int .u8 0) 1 Try.underlying22 hi hz0 hz1 hz2 rfl v _ _ hown vx (u8s ms) hm (u8s_one ms) (by rw [u8s_len]; unfold maxLen; omega) (by rw [u8s_len]; omega) hbase
  rw [← u8s_app, u8s_len, ← List.length_append] at own6
  exact step_append_run hg s x 22 22 ho v vx hs hx y6 w6 hAp (h y6 w6 own6 ((Below.refl base W).grown g6 hbase (fun g hg' => (hown.lt g hg').1)))
end Go.Proofs.Ytjfaocpbhhpbdaa
