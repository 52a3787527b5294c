/- The walks: words laid behind bytes, the document's. -/
import Derived.Test.YtehbbkdiekgpbaaWk2
namespace Go.Proofs.Ytehbbkdiekgpbaa
open Go.RowKit
open Pdu
theorem Put.drew {base lb k : Nat} {w wr : World} {v : Value} {bs l : List Nat} (h : Put base lb w wr v bs l k) : Put base lb w wr.drew v bs l k := ⟨h.1.drew, h.2.1.drew, h.2.2⟩
set_option maxHeartbeats 1600000 in
theorem two_at (base lb lo m lc : Nat) (bv : Value) (bs l : List Nat) (w : World) (hl : m = l.length) (hw : Words l) (hsz : bs.length + 2 * m ≤ 1000000)
    (hown : w.ownsRow base 5 1 bv bs.length (u8s bs)) (hlies : Lies w lb lo (u16s l)) (hoff : lb < base ∨ ∃ cs fl, w.heap[lb]? = some (.cells cs 22 fl)) (hlb : lb < w.heap.size) (hbase : base ≤ w.heap.size) :
    Calls Try.prog 36 #[bv, .slice (some ⟨lb, lo, none⟩) m lc] w fun e w' => ∃ v', e = .returned v' ∧ w'.ownsRow base 5 1 v' (bs.length + 2 * m) (u8s (bs ++ wds l)) ∧ Below base w w' := by
  obtain ⟨i0, hi, hz0, hz1, hz2⟩ := info_parts Try.infoByte
  have HN : Hid (m = l.length) := hl
  have HL : Hid (Lies w lb lo (u16s l)) := hlies
  have HO : Hid (w.ownsRow base 5 1 bv bs.length (u8s bs)) := hown
  have HF : Hid (lb < base ∨ ∃ cs fl, w.heap[lb]? = some (.cells cs 22 fl)) := hoff
  clear hl hlies hown hoff
  go_enter Try.func36, Try.ntmps36
  go_wp2
  go_loopw [0, 5] (fun v i wr => ∃ k : Nat, k ≤ m ∧ i = .int .i64 k ∧ Put base lb w wr v bs l k) (fun _ i _ => m - (intOf i).toNat)
  case atStart => exact ⟨0, by omega, rfl, by simpa [wds] using HO.out, Below.refl _ _, rfl⟩
  case round =>
    obtain ⟨k, hk, rfl, HP⟩ := hrel
    obtain ⟨x, hx⟩ : ∃ x, x = l.getD k 0 := ⟨_, rfl⟩
    have hx16 : x < 65536 := by rw [hx]; exact hw.at k
    have hcell : k < m → wr.cell? ⟨lb, lo + k, none⟩ = some (.int .u16 x) := fun h => by
      have hk' : k < l.length := by rw [← (show m = _ from HN)]; exact h
      rw [hx, World.cell?_of_block (w := w) (a := ⟨lb, lo + k, none⟩) HP.2.2]
      exact HL.out.u16 k hk'
    have HX : Hid (x = l.getD k 0) := hx
    have HP : Hid (Put base lb w wr u0 bs l k) := HP
    clear hx
    have hsize : base ≤ wr.heap.size := by have := HP.out.2.1.size; omega
    go_wp2
    · have hkm : k < m := by assumption
      have hc := hcell hkm
      have e1 : IntKind.u8.wrap ((x : Int) / 256) = (x : Int) / 256 := by rw [IntKind.wrap_u8]; omega
      have e2 : IntKind.u8.wrap (x : Int) = (x : Int) % 256 := by rw [IntKind.wrap_u8]
      clear hcell
      go_region_law (refine step_append_own rfl (.tmp 12) (.tmp 24) 29 rfl base 5 i0 (.int .u8 0) 1 1 Try.underlying29 hi hz0 hz1 hz2 rfl (by decide) _ (bs.length + 2 * k) _ rfl (HP.out.1.alloc _).drew ⟨wr.heap.size, 0, none⟩ 2 2 [.int .u8 ((x : Int) / 256), .int .u8 ((x : Int) % 256)] rfl rfl (two_cells wr _ _ _) (two_one _ _ _) (by unfold maxLen; omega) (by omega) (by simp; omega) ?_; intro v' w1 hown' hgrow hnil)
      all_goals
        have hg : (wr.alloc (.cells #[.int .u8 ((x : Int) / 256), .int .u8 ((x : Int) % 256)] 5)).grownBy w1 u0.ownBlock := ⟨hgrow.os, hgrow.tape, hgrow.output, hgrow.size, hgrow.block⟩
        have HR : Hid (Put base lb w w1 v' bs l (k + 1)) := put_step HF hlb hbase (by rw [← (show m = _ from HN)]; exact hkm) HX HP (by rw [wd_u8s]; exact hown') hg
        clear hown' hgrow hg hnil HP hc
        go_wp2
        go_roundw
        case rel => exact ⟨k + 1, by omega, by go_num, HR⟩
        case measure => simp [intOf]; omega
    · obtain rfl : k = m := by omega
      go_ret
      have hm : k = l.length := HN
      refine ⟨_, rfl, ?_, HP.out.2.1⟩
      have h1 := HP.out.1
      rw [hm, List.take_length, ← hm] at h1
      exact h1
set_option maxHeartbeats 1600000 in
theorem two_none (bv : Value) (ao : Option Addr) (c : Nat) (w : World) : Calls Try.prog 36 #[bv, .slice ao 0 c] w fun e w' => e = .returned bv ∧ w' = w := by
  go_enter Try.func36, Try.ntmps36
  go_wp2
  go_loop [0, 5] (fun v i => i = .int .i64 0 ∧ v = bv) (fun _ _ => 0)
  case atStart => exact ⟨rfl, rfl⟩
  case round =>
    obtain ⟨rfl, rfl⟩ := hrel
    go_wp2
    go_ret
    exact ⟨rfl, rfl⟩
theorem two_c {base : Nat} {bv v : Value} {bs l : List Nat} {w : World} (hw : Words l) (hsz : bs.length + 2 * l.length ≤ 1000000)
    (hown : w.ownsRow base 5 1 bv bs.length (u8s bs)) (hl : Sl w v (u16s l)) (hoff : Off base w v (u16s l)) (hbase : base ≤ w.heap.size) :
    Calls Try.prog 36 #[bv, v] w fun e w' => ∃ v', e = .returned v' ∧ w'.ownsRow base 5 1 v' (bs ++ wds l).length (u8s (bs ++ wds l)) ∧ Below base w w' := by
  have hlen : (bs ++ wds l).length = bs.length + 2 * l.length := by rw [List.length_append, wds_length]
  by_cases hne : l = []
  · subst hne
    obtain ⟨ao, c, rfl⟩ := hl.shape
    refine (two_none bv ao c w).mono ?_
    rintro e w' ⟨rfl, rfl⟩
    exact ⟨_, rfl, by simpa [wds] using hown, Below.refl _ _⟩
  · have h0 : 0 < l.length := List.length_pos_iff.2 hne
    rcases hl with ⟨h, _⟩ | ⟨b, off, cap, rfl, _, hc⟩
    · have := congrArg List.length h; rw [u16s_len] at this; simp at this; exact absurd this hne
    · have hne' : u16s l ≠ [] := fun e => by have := congrArg List.length e; rw [u16s_len] at this; simp at this; exact hne this
      rw [hlen]
      rw [u16s_len]
      exact two_at base b off l.length cap bv bs l w rfl hw hsz hown hc (hoff hne' _ _ _ rfl) (lt_of_cell (hc.u16 0 h0)) hbase
end Go.Proofs.Ytehbbkdiekgpbaa
