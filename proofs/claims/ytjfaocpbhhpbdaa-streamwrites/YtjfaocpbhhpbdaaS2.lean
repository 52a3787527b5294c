/- The walks: New, Left, Frames, Feed. -/
import Derived.Test.YtjfaocpbhhpbdaaS1
namespace Go.Proofs.Ytjfaocpbhhpbdaa
open Go.RowKit
open Pdu
set_option maxRecDepth 100000 in
set_option maxHeartbeats 800000 in
theorem new_c (w : World) : Calls Try.prog 10 #[] w fun e w' => e = .returned (.pointer (some ⟨w.heap.size, 0, none⟩)) ∧ w' = w.alloc (.cells zS 58) := by
  have hz := zS_zero
  go_enter Try.func10, Try.ntmps10
  go_wp2
  go_ret
  exact ⟨rfl, rfl⟩
set_option maxHeartbeats 800000 in
theorem load64_c (a : Addr) (x : Nat) (w : World) (hc : w.cell? a = some (.int .u64 (x : Int))) : Calls Try.prog 23 #[.pointer (some a)] w fun e w' => e = .returned (.int .u64 (x : Int)) ∧ w' = w := by
  have hl := run_call_load (P := Try.prog) Try.func28 (by kernel_rfl) (by kernel_rfl) (by kernel_rfl) .u64 (by kernel_rfl) hc
  go_enter Try.func23, Try.ntmps23
  go_wp2
  go_ret
  exact ⟨rfl, rfl⟩
set_option maxHeartbeats 800000 in
theorem add64_c (a : Addr) (x : Nat) (w : World) (hc : w.cell? a = some (.int .u64 (x : Int))) (hz : w.frozen? a = false) (hx : x < 1000000) : Calls Try.prog 21 #[.pointer (some a), .int .u64 1] w fun e w' => e = .returned (.int .u64 ((x + 1 : Nat) : Int)) ∧ w' = w.setCell a (.int .u64 ((x + 1 : Nat) : Int)) := by
  have hl := run_call_add (P := Try.prog) Try.func27 (by kernel_rfl) (by kernel_rfl) (by kernel_rfl) .u64 (by kernel_rfl) (y := 1) (s := ((x + 1 : Nat) : Int)) hc hz (by
    have e : IntKind.u64.wrap ((x : Int) + 1) = ((x + 1 : Nat) : Int) := by rw [IntKind.wrap_u64]; omega
    simp [Op.intArith, e])
  go_enter Try.func21, Try.ntmps21
  go_wp2
  go_ret
  exact ⟨rfl, rfl⟩
set_option maxHeartbeats 800000 in
theorem left_c {w : World} {g h n : Nat} {room : List Nat} {b : Bool} (s : St w g room h b n) : Calls Try.prog 12 #[.pointer (some ⟨g, 0, none⟩)] w fun e w' => e = .returned (.int .i64 (h : Int)) ∧ w' = w := by
  have hc := s.cHeld
  clear s
  go_enter Try.func12, Try.ntmps12
  go_wp2
  go_ret
  exact ⟨rfl, rfl⟩
set_option maxHeartbeats 800000 in
theorem frames_c {w : World} {g h n : Nat} {room : List Nat} {b : Bool} (s : St w g room h b n) : Calls Try.prog 15 #[.pointer (some ⟨g, 0, none⟩)] w fun e w' => e = .returned (.int .u64 (n : Int)) ∧ w' = w := by
  have X := hid_as (load64_c ⟨g, 262, none⟩ n w s.cFrames)
  have hc := s.cFrames
  clear s
  go_enter Try.func15, Try.ntmps15
  go_wp2_with fail
  refine X.out.mono ?_
  rintro e w' ⟨rfl, hw⟩
  subst w'
  go_wp2
  go_ret
  exact ⟨rfl, rfl⟩
set_option maxHeartbeats 800000 in
theorem feed_broken {w : World} {g h n : Nat} {room : List Nat} (s : St w g room h true n) (v : Value) : Calls Try.prog 11 #[.pointer (some ⟨g, 0, none⟩), v] w fun e w' => e = .returned (.int .i64 0) ∧ w' = w := by
  have hc := s.cBroken
  clear s
  go_enter Try.func11, Try.ntmps11
  go_wp2
  go_ret
  exact ⟨rfl, rfl⟩
/-- How a Feed of so many bytes ends. -/
def Fed (g h k N : Nat) (room bs : List Nat) (w : World) (e : Ending) (w' : World) : Prop :=
  e = .returned (.int .i64 (k : Int)) ∧ Turn g w w' ∧ ∃ room', St w' g room' (h + k) false N ∧ room'.take (h + k) = room.take h ++ bs.take k
theorem u8s_take (bs : List Nat) (k : Nat) : u8s (bs.take k) = (u8s bs).take k := by simp [u8s]
theorem Sl.drew1 {w : World} {v : Value} {vs : List Value} (h : Sl w v vs) : Sl w.drew v vs := h
theorem src_cells {w : World} {ao : Option Addr} {n cap : Nat} {vs : List Value} (h : Sl w (.slice ao n cap) vs) (k : Nat) (hk : 0 < (vs.take k).length) : ∃ ad, ao = some ad ∧ ∀ j v, (vs.take k)[j]? = some v → w.cell? (ad.add j) = some v := by
  rcases h with ⟨h, _⟩ | ⟨b, off, c, hv, _, hc⟩
  · subst h
    simp at hk
  · simp only [Value.slice.injEq] at hv
    refine ⟨⟨b, off, none⟩, hv.1, fun j v hj => hc.news j v ?_⟩
    rw [List.getElem?_take] at hj
    split at hj
    · exact hj
    · cases hj
theorem fed_room {w1 : World} {g h k N : Nat} {room bs : List Nat} {w : World} (s : St w g room h false N) (hB : Bytes bs) (hk : k ≤ bs.length) (hh : h + k ≤ 260) (hr : w1.heap[g]? = some (.cells (splice (strow room h false N) h (u8s (bs.take k))).toArray 58 (0, 0))) :
    St w1 g (room.take h ++ (bs.take k ++ room.drop (h + k))) h false N := by
  have hl : (bs.take k).length = k := by rw [List.length_take]; omega
  rw [splice_room s.len (by omega), hl] at hr
  exact ⟨hr, by simp [s.len]; omega, (s.byt.take _).app ((hB.take _).app (s.byt.drop _)), s.held⟩
theorem fed_take {h k : Nat} {room bs : List Nat} (hl : room.length = 260) (hk : k ≤ bs.length) (hh : h + k ≤ 260) : (room.take h ++ (bs.take k ++ room.drop (h + k))).take (h + k) = room.take h ++ bs.take k := by
  rw [← List.append_assoc, List.take_append_of_le_length (by simp; omega), List.take_of_length_le (by simp; omega)]
set_option maxHeartbeats 1600000 in
theorem feed_at (g h k N n cap : Nat) (ao : Option Addr) (room bs : List Nat) (w : World) (s : St w g room h false N) (hs : Sl w (.slice ao n cap) (u8s bs)) (hn : n = bs.length) (hB : Bytes bs) (hk : k = Nat.min n (260 - h)) (hlt : h < 260) :
    Calls Try.prog 11 #[.pointer (some ⟨g, 0, none⟩), .slice ao n cap] w (Fed g h k N room bs w) := by
  have hc := s.cBroken
  have hh := s.cHeld
  have hk1 : k ≤ bs.length := by rw [← hn, hk]; exact Nat.min_le_left _ _
  have hk2 : h + k ≤ 260 := by have : k ≤ 260 - h := by rw [hk]; exact Nat.min_le_right _ _
                               omega
  have hl : (u8s (bs.take k)).length = k := by rw [u8s_len, List.length_take]; omega
  obtain ⟨w1, hrun, hrow, ht⟩ := run_copy_turn (P := Try.prog) (w := w.drew) 22 22 3 5 Try.underlying22 (by kernel_rfl) (some ⟨g, h, none⟩) ao (260 - h) (260 - h) n cap g h (strow room h false N) 58 s.row (u8s (bs.take k)) (by rw [hl]; exact hk) (fun hp => ⟨rfl, by rw [u8s_take] at hp ⊢; exact src_cells (w := w.drew) hs.drew1 k hp⟩) (by rw [hl, strow_len s.len]; omega) (u8s_one _)
  rw [hl] at hrun
  have S1 := hid_as (fed_room s hB hk1 hk2 hrow)
  have T1 : Hid (Turn g w w1) := (Turn.refl g w).drew.trans ht
  have HT := hid_as (fed_take (h := h) s.len hk1 hk2)
  have hh1 := S1.out.cHeld
  have hf1 := S1.out.free 260
  clear s hs hn hk hB hrow ht hl hk1
  generalize room.take h ++ (bs.take k ++ room.drop (h + k)) = room' at S1 HT
  have h1 : ¬ (260 = h) := by omega
  have h2 : (h : Int) ≤ 260 := by omega
  go_enter Try.func11, Try.ntmps11
  go_upto_region 3 with fail
  go_region
  go_wp2
  go_ret
  have e : ((h : Int) + (k : Int)) = ((h + k : Nat) : Int) := by omega
  refine ⟨rfl, T1.out.set _ _, room', ?_, HT.out⟩
  rw [e]
  exact S1.out.setHeld (h + k) hk2
set_option maxHeartbeats 1600000 in
theorem feed_full (g N n cap : Nat) (ao : Option Addr) (room bs : List Nat) (w : World) (s : St w g room 260 false N) :
    Calls Try.prog 11 #[.pointer (some ⟨g, 0, none⟩), .slice ao n cap] w (Fed g 260 0 N room bs w) := by
  have hc := s.cBroken
  have hh := s.cHeld
  have hf := s.free 260
  have hrun := run_copy_none (P := Try.prog) w.drew 22 22 3 5 (some ⟨g, 0, none⟩) ao 0 0 n cap Try.underlying22 (by kernel_rfl) (Nat.min_zero n)
  have S := hid_as s
  clear s
  have h1 : (((260 : Nat) : Int)) = 260 := rfl
  go_enter Try.func11, Try.ntmps11
  go_upto_region 3 with fail
  go_region
  go_wp2
  go_ret
  refine ⟨rfl, (Turn.refl g w).drew.set _ _, room, S.out.drew.setHeld 260 (Nat.le_refl _), by simp⟩
theorem feed_c {g h N : Nat} {v : Value} {room bs : List Nat} {w : World} (s : St w g room h false N) (hs : Sl w v (u8s bs)) (hB : Bytes bs) :
    Calls Try.prog 11 #[.pointer (some ⟨g, 0, none⟩), v] w (Fed g h (Nat.min bs.length (260 - h)) N room bs w) := by
  obtain ⟨ao, cap, rfl⟩ := hs.shape
  rw [u8s_len] at hs ⊢
  by_cases hlt : h < 260
  · exact feed_at g h _ N _ cap ao room bs w s hs rfl hB rfl hlt
  · have := s.held
    obtain rfl : h = 260 := by omega
    rw [show Nat.min bs.length (260 - 260) = 0 by simp]
    exact feed_full g N _ cap ao room bs w s
end Go.Proofs.Ytjfaocpbhhpbdaa
