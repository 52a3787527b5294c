/- The walks: Feed. -/
import Derived.Test.YtgmbboimndepnaaL2
namespace Go.Proofs.Ytgmbboimndepnaa
open Go.RowKit
open Pdu
set_option maxHeartbeats 800000 in
theorem feed_nil (g : Nat) (ao : Option Addr) (cap : Nat) (w : World) : Calls Try.prog 10 #[.pointer (some ⟨g, 0, none⟩), .slice ao 0 cap] w fun e w' => e = .returned (.tuple #[]) ∧ w' = w := by
  go_enter Try.func10, Try.ntmps10
  go_wp2
  refine bodyPost_ret (results_none Try.results10 _ _ _) rfl ?_
  exact ⟨rfl, rfl⟩
/-- How a Feed of bytes ends: so many of them are taken. -/
def Fed (g k : Nat) (l : LS) (bs : List Nat) (w : World) (e : Ending) (w' : World) : Prop :=
  e = .returned (.tuple #[]) ∧ Turn g w w' ∧ ∃ room', Ln w' g { l with room := room', h := l.h + k, t := 0 } ∧ room'.take (l.h + k) = l.room.take l.h ++ bs.take k
theorem fed_room {w1 : World} {g k : Nat} {l : LS} {bs : List Nat} {w : World} (s : Ln w g l) (hB : Bytes bs) (hk : k ≤ bs.length) (hh : l.h + k ≤ 257) (hr : w1.heap[g]? = some (.cells (splice l.row (3 + l.h) (u8s (bs.take k))).toArray 52 (0, 0))) :
    Ln w1 g { l with room := l.room.take l.h ++ (bs.take k ++ l.room.drop (l.h + k)) } := by
  have hl : (bs.take k).length = k := by rw [List.length_take]; omega
  rw [splice_line s.len (by omega), hl] at hr
  exact ⟨hr, by simp [s.len]; omega, (s.byt.take _).app ((hB.take _).app (s.byt.drop _)), s.held, s.wlen, s.fst, s.num, s.unit⟩
theorem fed_take {h k : Nat} {room bs : List Nat} (hl : room.length = 257) (hk : k ≤ bs.length) (hh : h + k ≤ 257) : (room.take h ++ (bs.take k ++ room.drop (h + k))).take (h + k) = room.take h ++ bs.take k := by
  rw [← List.append_assoc, List.take_append_of_le_length (by simp; omega), List.take_of_length_le (by simp; omega)]
set_option maxRecDepth 100000 in
set_option maxHeartbeats 1600000 in
theorem feed_at (g h k n cap : Nat) (ao : Option Addr) (l : LS) (bs : List Nat) (w : World) (hlh : l.h = h) (s : Ln w g l) (hs : Sl w (.slice ao n cap) (u8s bs)) (hn : n = bs.length) (h0 : 0 < n) (hB : Bytes bs) (hk : k = Nat.min n (257 - h)) (hlt : h < 257) :
    Calls Try.prog 10 #[.pointer (some ⟨g, 0, none⟩), .slice ao n cap] w (Fed g k l bs w) := by
  subst hlh
  have hh := s.cHeld
  have hk1 : k ≤ bs.length := by rw [← hn, hk]; exact Nat.min_le_left _ _
  have hk2 : l.h + k ≤ 257 := by have : k ≤ 257 - l.h := by rw [hk]; exact Nat.min_le_right _ _
                                 omega
  have hl : (u8s (bs.take k)).length = k := by rw [u8s_len, List.length_take]; omega
  obtain ⟨w1, hrun, hrow, ht⟩ := run_copy_turn (P := Try.prog) (w := w.drew) 24 24 3 5 Try.underlying24 (by kernel_rfl) (some ⟨g, 3 + l.h, none⟩) ao (257 - l.h) (257 - l.h) n cap g (3 + l.h) l.row 52 s.row (u8s (bs.take k)) (by rw [hl]; exact hk) (fun hp => ⟨rfl, by rw [u8s_take] at hp ⊢; exact src_cells (w := w.drew) hs.drew1 k hp⟩) (by rw [hl, LS.len s.len s.wlen]; omega) (u8s_one _)
  rw [hl] at hrun
  have S1 := hid_as (fed_room s hB hk1 hk2 hrow)
  have T1 : Hid (Turn g w w1) := (Turn.refl g w).drew.trans ht
  have HT := hid_as (fed_take (h := l.h) s.len hk1 hk2)
  have hh1 : w1.cell? ⟨g, 260, none⟩ = some (.int .i64 (l.h : Int)) := S1.out.cHeld
  have hf1 := S1.out.free 260
  have hf2 := fun (v : Value) => (set_row S1.out.row v (k := 260))
  have c2 : w1.cell? ⟨g, 2, none⟩ = some (.int .i64 (l.t : Int)) := S1.out.cTicks
  have f2 := S1.out.free 2
  clear s hs hn hk hB hrow ht hl hk1 hf2
  generalize l.room.take l.h ++ (bs.take k ++ l.room.drop (l.h + k)) = room' at S1 HT
  obtain ⟨h, eh⟩ : ∃ h, h = l.h := ⟨_, rfl⟩
  rw [← eh] at hlt hrun hh hh1 hk2
  have EH := hid_as eh
  clear eh
  have h1 : ¬ (257 = h) := by omega
  have h2 : (h : Int) ≤ 257 := by omega
  have e1 : IntKind.i64.wrap ((h : Int) + (k : Int)) = ((h + k : Nat) : Int) := by rw [IntKind.wrap_i64]; omega
  go_enter Try.func10, Try.ntmps10
  go_upto_region 1 with fail
  go_region
  go_wp2
  go_end0
  have e : ((h : Int) + (k : Int)) = ((h + k : Nat) : Int) := by omega
  have L2 := (S1.out.setHeld (h + k) hk2).setTicks 0
  rw [e]
  refine ⟨rfl, (T1.out.set _ _).set _ _, room', ?_, HT.out⟩
  rw [← EH.out]
  exact L2
set_option maxRecDepth 100000 in
set_option maxHeartbeats 1600000 in
theorem feed_full (g n cap : Nat) (ao : Option Addr) (l : LS) (bs : List Nat) (w : World) (hlh : l.h = 257) (s : Ln w g l) (h0 : 0 < n) :
    Calls Try.prog 10 #[.pointer (some ⟨g, 0, none⟩), .slice ao n cap] w (Fed g 0 l bs w) := by
  have hh := s.cHeld
  rw [hlh] at hh
  have hf := s.free 260
  have hrun := run_copy_none (P := Try.prog) w.drew 24 24 3 5 (some ⟨g, 3, none⟩) ao 0 0 n cap Try.underlying24 (by kernel_rfl) (Nat.min_zero n)
  have S := hid_as s
  have HL := hid_as hlh
  have c2 : w.cell? ⟨g, 2, none⟩ = some (.int .i64 (l.t : Int)) := s.cTicks
  have f2 := s.free 2
  clear s hlh
  have h1 : (((257 : Nat) : Int)) = 257 := rfl
  go_enter Try.func10, Try.ntmps10
  go_upto_region 1 with fail
  go_region
  go_wp2
  go_end0
  have L2 := (S.out.drew.setHeld 257 (Nat.le_refl _)).setTicks 0
  refine ⟨rfl, ((Turn.refl g w).drew.set _ _).set _ _, l.room, ?_, by simp⟩
  rw [show l.h + 0 = 257 from HL.out]
  exact L2
theorem feed_c {g : Nat} {v : Value} {l : LS} {bs : List Nat} {w : World} (s : Ln w g l) (hs : Sl w v (u8s bs)) (hB : Bytes bs) (h0 : 0 < bs.length) :
    Calls Try.prog 10 #[.pointer (some ⟨g, 0, none⟩), v] w (Fed g (Nat.min bs.length (257 - l.h)) l bs w) := by
  obtain ⟨ao, cap, rfl⟩ := hs.shape
  rw [u8s_len] at hs ⊢
  by_cases hlt : l.h < 257
  · exact feed_at g l.h _ _ cap ao l bs w rfl s hs rfl h0 hB rfl hlt
  · have := s.held
    have e : l.h = 257 := by omega
    rw [e, show Nat.min bs.length (257 - 257) = 0 by simp]
    exact feed_full g _ cap ao l bs w e s h0
end Go.Proofs.Ytgmbboimndepnaa
