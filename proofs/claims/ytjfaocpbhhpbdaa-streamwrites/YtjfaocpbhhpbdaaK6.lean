/- The walk: the chapter's example. -/
import Derived.Test.YtjfaocpbhhpbdaaF2
namespace Go.Proofs.Ytjfaocpbhhpbdaa
open Go.RowKit
open Pdu
set_option maxRecDepth 100000 in
set_option maxHeartbeats 1600000 in
theorem frames_none (ao : Option Addr) (cap : Nat) (cv : Value) (w : World) :
    Calls Try.prog 7 #[.slice ao 0 cap, cv] w (FramesEnd [] w) := by
  have NW := hid_as (new_c w)
  go_enter Try.func7, Try.ntmps7
  go_wp2_with fail
  refine NW.out.mono ?_
  rintro e w1 ⟨rfl, hw⟩
  have S1 : Hid (St w1 w.heap.size (List.replicate 260 0) 0 false 0) := by rw [hw]; exact zS_st w
  have K1 : Hid (Below w.heap.size w w1) := by rw [hw]; exact below_new (Below.refl _ w) _
  have FC := hid_as (frames_c S1.out)
  clear hw NW
  go_wp2_with fail
  go_loopw [8, 9, 10, 11] (fun v at_ bad i wr => v = .slice none 0 0 ∧ at_ = .int .i64 0 ∧ bad = .int .i64 0 ∧ i = .int .i64 0 ∧ wr = w1) (fun _ _ _ _ _ => 0)
  case atStart => exact ⟨rfl, rfl, rfl, rfl, rfl⟩
  case round =>
    obtain ⟨rfl, rfl, rfl, rfl, rfl⟩ := hrel
    go_wp2_with fail
    refine FC.out.mono ?_
    rintro e w5 ⟨rfl, hw⟩
    subst w5
    go_wp2
    refine bodyPost_ret (v := .tuple #[.slice none 0 0, .int .i64 0, .bool true]) (by simp [results, Try.results7, go_sem]) rfl ⟨K1.out, _, [], [], 0, rfl, Outs.nil _ _, rfl, rfl, rfl⟩
theorem frames_l {v u : Value} {bs cs : List Nat} {w : World} (h : Sl w v (u8s bs)) (hB : Bytes bs) (hC : Sl w u (u8s cs)) (hCB : Bytes cs) (hn : bs.length ≤ 10000) (hm : cs.length ≤ 400) : Calls Try.prog 7 #[v, u] w (FramesEnd bs w) := by
  rcases h with ⟨h, ao, cap, rfl, _⟩ | ⟨b, off, cap, rfl, hcap, hc⟩
  · obtain rfl := u8s_nil h
    exact frames_none ao cap u w
  · obtain ⟨co, bc, rfl⟩ := hC.shape
    rw [u8s_len] at hcap hC ⊢
    rw [u8s_len]
    exact frames_at b off _ cap _ bc co bs cs w hc hB rfl hcap hC hCB rfl hn hm
theorem Sl.turn {g b off n cap : Nat} {w w' : World} {vs : List Value} (h : Sl w (.slice (some ⟨b, off, none⟩) n cap) vs) (k : Turn g w w') (hb : b < w.heap.size) (hne : b ≠ g) : Sl w' (.slice (some ⟨b, off, none⟩) n cap) vs := by
  rcases h with h | ⟨b', off', cap', e, hc, hl⟩
  · exact Or.inl h
  · simp only [Value.slice.injEq, Option.some.injEq, Addr.mk.injEq] at e
    obtain ⟨⟨e1, e2, _⟩, e3, e4⟩ := e
    subst e1 e2 e4
    exact Or.inr ⟨b, off, cap, by rw [e3], hc, hl.kept (k.block b hb (fun e => hne (by simpa using e)))⟩
theorem St.turn {g g2 h n : Nat} {w w' : World} {room : List Nat} {b : Bool} (s : St w g room h b n) (k : Turn g2 w w') (hne : g ≠ g2) : St w' g room h b n := s.heap (k.block g s.lt (fun e => hne (by simpa using e)))
/-- Feed, where all is told in numbers. -/
theorem feed_n {g h k N h' : Nat} {v : Value} {room ps bs : List Nat} {w : World} (s : St w g room h false N) (hp : room.take h = ps) (hs : Sl w v (u8s bs)) (hB : Bytes bs) (hk : Nat.min bs.length (260 - h) = k) (hh : h + k = h') :
    Calls Try.prog 11 #[.pointer (some ⟨g, 0, none⟩), v] w fun e w' => e = .returned (.int .i64 (k : Int)) ∧ Turn g w w' ∧ ∃ room', St w' g room' h' false N ∧ room'.take h' = ps ++ bs.take k := by
  subst hh hp hk
  exact feed_c s hs hB
/-- Next, where a frame is told, in numbers. -/
theorem next_n {g h n N id unit h' : Nat} {room ps pdu : List Nat} {w : World} (s : St w g room h false N) (hp : room.take h = ps) (hr : rd ps = ⟨id, unit, pdu, n, 0⟩) (h0 : 0 < n) (hN : N < 1000000) (hh : h - n = h') :
    Calls Try.prog 13 #[.pointer (some ⟨g, 0, none⟩)] w fun e w' => ∃ po pc room', e = .returned (.tuple #[.agg #[.int .u16 (id : Int), .int .u8 (unit : Int), .slice po pdu.length pc], .bool true, .int .i64 0]) ∧ Turn g w w' ∧ St w' g room' h' false (N + 1) ∧ room'.take h' = ps.drop n := by
  have e : rd (room.take h) = ⟨id, unit, pdu, n, 0⟩ := by rw [hp]; exact hr
  have X := next_yes s (by rw [e]; exact h0) hN
  rw [e] at X
  refine X.mono ?_
  rintro e w' ⟨po, pc, room', rfl, k, s', e', _⟩
  subst hh
  exact ⟨po, pc, room', rfl, k, s', by rw [e', hp]⟩
theorem next_w {g h N : Nat} {room ps : List Nat} {w : World} (s : St w g room h false N) (hp : room.take h = ps) (hr : rd ps = ⟨0, 0, [], 0, 0⟩) :
    Calls Try.prog 13 #[.pointer (some ⟨g, 0, none⟩)] w fun e w' => e = .returned (.tuple #[.agg #[.int .u16 0, .int .u8 0, .slice none 0 0], .bool false, .int .i64 0]) ∧ Turn g w w' ∧ St w' g room h false N :=
  next_wait g h N false room w s (by rw [hp]; exact hr)
theorem lit_lt (w : World) (o : Obj) : w.heap.size < (w.alloc o).heap.size := by rw [World.size_alloc]; omega
end Go.Proofs.Ytjfaocpbhhpbdaa
