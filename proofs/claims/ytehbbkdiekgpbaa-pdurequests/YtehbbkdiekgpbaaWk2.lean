/- The walks: words laid behind bytes. -/
import Derived.Test.YtehbbkdiekgpbaaWk1
import Derived.Deep.RegionLaw
namespace Go.Proofs.Ytehbbkdiekgpbaa
open Go.RowKit
open Pdu
/-- append to a row of the call's own, as one step of a region that draws. -/
theorem step_append_own {P : Program} {ops : Array Oper} {o : Oper} {a : Act} {w : World} {K : Act → World → Prop} {Q : Exit → Act → World → Prop} {E : Prop}
    (hg : o.guard = none) (s x : Operand) (t : TypeId) (ho : o.op = .call { callee := .builtin .append, args := #[s, x], argTypes := #[t, t] })
    (base : Nat) (e : TypeId) (i : TypeInfo) (z : Value) (size bytes : Nat) (ht : P.underlying t = some (.slice e)) (hi : P.info? e = some i) (hz : i.zero = some z)
    (hsize : i.size = size) (hby : i.bytes = bytes) (hzs : z.cells.size = size) (hsz : 0 < size)
    (v : Value) (n : Nat) (xs : List Value) (hs : a.eval s = v) (hown : w.ownsRow base e size v n xs)
    (ad : Addr) (m c : Nat) (news : List Value) (hx : a.eval x = .slice (some ad) m c) (hl : news.length = m * size) (hnews : ∀ j u, news[j]? = some u → w.cell? (ad.add j) = some u) (h1 : ∀ u ∈ news, u.oneCell' = true)
    (h63 : n + m ≤ maxLen) (hbytes : (n + m) * bytes ≤ 140737488355328) (hbase : base ≤ w.heap.size)
    (h : ∀ v' w', w'.ownsRow base e size v' (n + m) (xs ++ news) → w.grownBy w' v.ownBlock → (v' = .slice none 0 0 ↔ v = .slice none 0 0 ∧ m = 0) → K (a.put o.dst v') w') :
    if Region.wanted o (yielded ops a.tmps) = true then Oper.wp P o a w K Q else E := by
  rw [if_pos (by simp [Region.wanted, hg])]
  exact wp_append_own w s x t ho base e i z size bytes ht hi hz hsize hby hzs hsz v n xs hs hown ad m c news hx hl hnews h1 h63 hbytes hbase h
/-- What the loop keeps: the bytes so far, all below base as it was, the words' block as it was. -/
def Put (base lb : Nat) (w wr : World) (v : Value) (bs l : List Nat) (k : Nat) : Prop := wr.ownsRow base 5 1 v (bs.length + 2 * k) (u8s (bs ++ wds (l.take k))) ∧ Below base w wr ∧ wr.heap[lb]? = w.heap[lb]?
theorem put_step {base lb k x : Nat} {w wr w1 : World} {v v' : Value} {bs l : List Nat} {o : Obj} (hoff : lb < base ∨ ∃ cs fl, w.heap[lb]? = some (.cells cs 22 fl)) (hlb : lb < w.heap.size) (hbase : base ≤ w.heap.size) (hk : k < l.length) (hx : x = l.getD k 0)
    (h : Put base lb w wr v bs l k) (hown : w1.ownsRow base 5 1 v' (bs.length + 2 * k + 2) (u8s (bs ++ wds (l.take k)) ++ u8s (wd x))) (hg : (wr.alloc o).grownBy w1 v.ownBlock) : Put base lb w w1 v' bs l (k + 1) := by
  obtain ⟨h1, h2, h3⟩ := h
  have hs := h2.size
  refine ⟨?_, (h2.alloc (by omega) o).grown hg (by simp; omega) (fun g hg' => (h1.lt g hg').1), ?_⟩
  · rw [← u8s_app, List.append_assoc, hx, ← wds_take_succ l k hk] at hown
    exact hown
  · rw [hg.block lb (by simp; omega) ?_, Below.heap_alloc wr o lb (by omega), h3]
    intro e
    rcases h1.2 with ⟨rfl, _⟩ | ⟨g, cap, cur, rfl, hb, hg', _⟩
    · simp [Value.ownBlock] at e
    · simp [Value.ownBlock] at e
      subst e
      rcases hoff with hoff | ⟨cs, fl, hc⟩
      · omega
      · rw [h3, hc] at hg'
        simp at hg'
theorem wd_u8s (x : Nat) : u8s (wd x) = [.int .u8 ((x : Int) / 256), .int .u8 ((x : Int) % 256)] := by simp [u8s, wd]
theorem two_cells (w : World) (e : TypeId) (x y : Value) : ∀ j u, [x, y][j]? = some u → (w.alloc (.cells #[x, y] e)).cell? ((⟨w.heap.size, 0, none⟩ : Addr).add j) = some u := by
  intro j u hj
  match j, hj with
  | 0, hj => simp at hj; subst hj; simp [Addr.add]
  | 1, hj => simp at hj; subst hj; simp [Addr.add]
theorem two_one (k : IntKind) (x y : Int) : ∀ u ∈ [Value.int k x, Value.int k y], u.oneCell' = true := by
  intro u hu
  simp at hu
  rcases hu with rfl | rfl <;> rfl

set_option maxHeartbeats 1600000 in
theorem putWords_at (base lb lo m lc : Nat) (bv : Value) (bs l : List Nat) (w : World) (hl : m = l.length) (hw : Words l) (hsz : bs.length + 2 * m ≤ 1000000)
    (hown : w.ownsRow base 5 1 bv bs.length (u8s bs)) (hlies : Lies w lb lo (u16s l)) (hoff : lb < base ∨ ∃ cs fl, w.heap[lb]? = some (.cells cs 22 fl)) (hlb : lb < w.heap.size) (hbase : base ≤ w.heap.size) :
    Calls Try.prog 32 #[bv, .slice (some ⟨lb, lo, none⟩) m lc] w fun e w' => ∃ v', e = .returned v' ∧ w'.ownsRow base 5 1 v' (bs.length + 2 * m) (u8s (bs ++ wds l)) ∧ Below base w w' := by
  obtain ⟨i0, hi, hz0, hz1, hz2⟩ := info_parts Try.infoByte
  have HN : Hid (m = l.length) := hl
  have HL : Hid (Lies w lb lo (u16s l)) := hlies
  have HO : Hid (w.ownsRow base 5 1 bv bs.length (u8s bs)) := hown
  have HF : Hid (lb < base ∨ ∃ cs fl, w.heap[lb]? = some (.cells cs 22 fl)) := hoff
  clear hl hlies hown hoff
  go_enter Try.func32, Try.ntmps32
  go_wp2
  go_loopw [0, 9] (fun v i wr => ∃ k : Nat, k ≤ m ∧ i = .int .i64 k ∧ Put base lb w wr v bs l k) (fun _ i _ => m - (intOf i).toNat)
  case atStart => exact ⟨0, by omega, rfl, by simpa [wds] using HO.out, Below.refl _ _, rfl⟩
  case round =>
    obtain ⟨k, hk, rfl, HP⟩ := hrel
    obtain ⟨x, hx⟩ : ∃ x, x = l.getD k 0 := ⟨_, rfl⟩
    have hx16 : x < 65536 := by rw [hx]; exact hw.at k
    have hcell : k < m → wr.cell? ⟨lb, lo + k, none⟩ = some (.int .u16 x) := fun h => by
      have hk' : k < l.length := by rw [← (show m = _ from HN)]; exact h
      rw [hx, World.cell?_of_block (w := w) (a := ⟨lb, lo + k, none⟩) HP.2.2]
      exact HL.out.u16 k hk'
    have HX : Hid (x = l.getD k 0) := hx
    have HP : Hid (Put base lb w wr u0 bs l k) := HP
    clear hx
    have hsize : base ≤ wr.heap.size := by have := HP.out.2.1.size; omega
    go_wp2_with (at_builtin; refine wpList_append_own _ rfl _ _ 29 rfl base 5 i0 (.int .u8 0) 1 1 Try.underlying29 hi hz0 hz1 hz2 rfl (by decide) _ (bs.length + 2 * k) _ rfl (HP.out.1.alloc _) ⟨wr.heap.size, 0, none⟩ 2 2 [.int .u8 ((x : Int) / 256), .int .u8 ((x : Int) % 256)] rfl rfl (two_cells _ _ _ _) (two_one _ _ _) (by unfold maxLen; omega) (by omega) (by simp; omega) ?_; intro v' w1 hown' hgrow _)
    · have hk' : k < l.length := by have : k < m := (by assumption); rw [← (show m = _ from HN)]; exact this
      have HR : Hid (Put base lb w w1 v' bs l (k + 1)) := put_step HF hlb hbase hk' HX HP (by rw [wd_u8s]; exact hown') hgrow
      clear hown' hgrow HP hcell
      go_wp2
      go_roundw
      case rel => exact ⟨k + 1, by omega, by go_num, HR⟩
      case measure => simp [intOf]; omega
    · obtain rfl : k = m := by omega
      go_ret
      have hm : k = l.length := HN
      refine ⟨_, rfl, ?_, HP.out.2.1⟩
      have h1 := HP.out.1
      rw [hm, List.take_length, ← hm] at h1
      exact h1
set_option maxHeartbeats 1600000 in
theorem putWords_none (bv : Value) (ao : Option Addr) (c : Nat) (w : World) : Calls Try.prog 32 #[bv, .slice ao 0 c] w fun e w' => e = .returned bv ∧ w' = w := by
  go_enter Try.func32, Try.ntmps32
  go_wp2
  go_loop [0, 9] (fun v i => i = .int .i64 0 ∧ v = bv) (fun _ _ => 0)
  case atStart => exact ⟨rfl, rfl⟩
  case round =>
    obtain ⟨rfl, rfl⟩ := hrel
    go_wp2
    go_ret
    exact ⟨rfl, rfl⟩
/-- The words lie where bytes are not laid: below base, or in a block of words. -/
def Off (base : Nat) (w : World) (v : Value) (vs : List Value) : Prop := vs ≠ [] → ∀ a n c, v = .slice (some a) n c → a.block < base ∨ ∃ cs fl, w.heap[a.block]? = some (.cells cs 22 fl)
theorem putWords_c {base : Nat} {bv v : Value} {bs l : List Nat} {w : World} (hw : Words l) (hsz : bs.length + 2 * l.length ≤ 1000000)
    (hown : w.ownsRow base 5 1 bv bs.length (u8s bs)) (hl : Sl w v (u16s l)) (hoff : Off base w v (u16s l)) (hbase : base ≤ w.heap.size) :
    Calls Try.prog 32 #[bv, v] w fun e w' => ∃ v', e = .returned v' ∧ w'.ownsRow base 5 1 v' (bs ++ wds l).length (u8s (bs ++ wds l)) ∧ Below base w w' := by
  have hlen : (bs ++ wds l).length = bs.length + 2 * l.length := by rw [List.length_append, wds_length]
  by_cases hne : l = []
  · subst hne
    obtain ⟨ao, c, rfl⟩ := hl.shape
    refine (putWords_none bv ao c w).mono ?_
    rintro e w' ⟨rfl, rfl⟩
    exact ⟨_, rfl, by simpa [wds] using hown, Below.refl _ _⟩
  · have h0 : 0 < l.length := List.length_pos_iff.2 hne
    rcases hl with ⟨h, _⟩ | ⟨b, off, cap, rfl, _, hc⟩
    · have := congrArg List.length h; rw [u16s_len] at this; simp at this; exact absurd this hne
    · have hne' : u16s l ≠ [] := fun e => by have := congrArg List.length e; rw [u16s_len] at this; simp at this; exact hne this
      rw [hlen]
      rw [u16s_len]
      exact putWords_at base b off l.length cap bv bs l w rfl hw hsz hown hc (hoff hne' _ _ _ rfl) (lt_of_cell (hc.u16 0 h0)) hbase
end Go.Proofs.Ytehbbkdiekgpbaa
