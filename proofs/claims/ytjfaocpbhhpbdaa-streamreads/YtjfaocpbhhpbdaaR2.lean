/- The walk of StreamReads, whole. -/
import Derived.Test.YtjfaocpbhhpbdaaR1
namespace Go.Proofs.Ytjfaocpbhhpbdaa
open Go.RowKit
open Pdu
set_option maxRecDepth 100000 in
set_option maxHeartbeats 4000000 in
theorem sreads_none (ao co : Option Addr) (cap m bc : Nat) (w : World) (hm1 : m ≤ 400) (hao : ao = none → cap = 0) :
    Calls Try.prog 3 #[.slice ao 0 cap, .slice co m bc] w fun e w' => e = .returned (.bool true) ∧ Below w.heap.size w w' := by
  have h1 : ¬ ((400 : Int) < (m : Int)) := by omega
  have X := hid_as (known_law w)
  have FR := hid_as (fun (W : World) => frames_none ao cap (.slice co m bc) W)
  go_enter Try.func3, Try.ntmps3
  go_wp2_with fail
  refine X.out.mono ?_
  rintro e w1 ⟨rfl, k1⟩
  have K1 := hid_as k1
  clear k1 X
  go_wp2_with fail
  refine (FR.out _).mono ?_
  rintro e w2 ⟨k2, v, L, r, E, rfl, o2, tl, rn, re⟩
  have K2 : Hid (Below w.heap.size w w2) := below_and K1.out k2
  obtain ⟨rfl, rfl⟩ := told_end tl rfl
  obtain rfl : 0 = E := by rw [← re]; rfl
  obtain ⟨vo, vc, rfl⟩ := o2.shape
  clear k2 o2 rn re tl FR K1
  go_wp2_with fail
  go_loopw [8, 9] (fun at_ i wr => at_ = .int .i64 0 ∧ i = .int .i64 0 ∧ wr = w2) (fun _ _ _ => 0)
  case atStart => exact ⟨rfl, rfl, rfl⟩
  case round =>
    obtain ⟨rfl, rfl, rfl⟩ := hrel
    have RO := hid_as (fun (a : Option Addr) (c : Nat) => ropen_c (v := .slice a 0 c) (bs := []) (w := wr))
    match ao, hao with
    | none, hao =>
      obtain rfl := hao rfl
      go_wp2_with fail
      refine (RO.out _ _ (Or.inl ⟨rfl, _, _, rfl, fun _ => rfl⟩) Bytes.nil (by decide)).mono ?_
      rintro e w4 hend
      obtain ⟨k4, po, pc, rfl, _⟩ := hend.is (show rd [] = ⟨0, 0, [], 0, 0⟩ from rfl)
      have K4 := hid_as (below_and K2.out k4)
      clear hend k4 RO
      go_wp2
      go_ret
      exact ⟨rfl, below_new K4.out _⟩
    | some a, _ =>
      by_cases hc : cap = 0
      · subst hc
        go_wp2_with fail
        refine (RO.out _ _ (Or.inl ⟨rfl, _, _, rfl, fun h => by simp at h⟩) Bytes.nil (by decide)).mono ?_
        rintro e w4 hend
        obtain ⟨k4, po, pc, rfl, _⟩ := hend.is (show rd [] = ⟨0, 0, [], 0, 0⟩ from rfl)
        have K4 := hid_as (below_and K2.out k4)
        clear hend k4 RO
        go_wp2
        go_ret
        exact ⟨rfl, below_new K4.out _⟩
      · go_wp2_with fail
        refine (RO.out _ _ (Or.inl ⟨rfl, _, _, rfl, fun h => by simp at h⟩) Bytes.nil (by decide)).mono ?_
        rintro e w4 hend
        obtain ⟨k4, po, pc, rfl, _⟩ := hend.is (show rd [] = ⟨0, 0, [], 0, 0⟩ from rfl)
        have K4 := hid_as (below_and K2.out k4)
        clear hend k4 RO
        go_wp2
        go_ret
        exact ⟨rfl, below_new K4.out _⟩
theorem sreads_law {v u : Value} {bs cs : List Nat} {w : World} (h : Sl w v (u8s bs)) (hB : Bytes bs) (hC : Sl w u (u8s cs)) (hCB : Bytes cs) : Calls Try.prog 3 #[v, u] w fun e w' => e = .returned (.bool true) ∧ Below w.heap.size w w' := by
  obtain ⟨co, bc, rfl⟩ := hC.shape
  rw [u8s_len] at hC ⊢
  by_cases hn : bs.length ≤ 4000
  case neg =>
    obtain ⟨ao, cap, rfl⟩ := h.shape
    rw [u8s_len]
    exact sreads_big ao co _ cap _ bc w (by omega)
  by_cases hm : cs.length ≤ 400
  case neg =>
    obtain ⟨ao, cap, rfl⟩ := h.shape
    rw [u8s_len]
    exact sreads_more ao co _ cap _ bc w hn (by omega)
  rcases h with ⟨h, ao, cap, rfl, hao⟩ | ⟨b, off, cap, rfl, hcap, hc⟩
  · exact sreads_none ao co cap _ bc w hm hao
  · rw [u8s_len] at hcap ⊢
    exact sreads_w b off _ cap _ bc co bs cs w hc hB rfl hcap hC hCB rfl hn hm
end Go.Proofs.Ytjfaocpbhhpbdaa
