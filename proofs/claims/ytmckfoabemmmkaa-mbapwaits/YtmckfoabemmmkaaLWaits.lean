/- The walk of MbapWaits. -/
import Derived.Test.YtmckfoabemmmkaaKN
namespace Go.Proofs.Ytmckfoabemmmkaa
open Go.RowKit
open Pdu
set_option maxRecDepth 100000 in
set_option maxHeartbeats 1600000 in
theorem waits_big (x0 x1 : Value) (ao : Option Addr) (n c : Nat) (at_ : Int) (w : World) (h : 600 < n) :
    Calls Try.prog 5 #[.agg #[x0, x1, .slice ao n c], .int .i64 at_] w fun e w' => e = .returned (.bool true) ∧ Below w.heap.size w w' := by
  have h1 : decide ((600 : Int) < n) = true := decide_eq_true (by omega)
  clear h
  go_enter Try.func5, Try.ntmps5
  go_wp2_with fail
  refine (known_law _).mono ?_
  rintro e w1 ⟨rfl, k1⟩
  obtain ⟨k1, B1, hs1⟩ := one_box k1
  have K1 := hid_as k1
  obtain ⟨c0, c1, c2⟩ := B1
  clear k1
  go_wp2
  go_ret
  exact ⟨rfl, K1.out⟩
set_option maxRecDepth 100000 in
set_option maxHeartbeats 4000000 in
theorem waits_no (id unit n c : Nat) (ao : Option Addr) (pdu : List Nat) (at_ : Int) (w : World) (hf : IsFr w (.agg #[.int .u16 id, .int .u8 unit, .slice ao n c]) id unit pdu (.slice ao n c)) (hn : n = pdu.length) (h6 : n ≤ 600) (hl : ¬ (1 ≤ pdu.length ∧ pdu.length ≤ 253)) :
    Calls Try.prog 5 #[.agg #[.int .u16 id, .int .u8 unit, .slice ao n c], .int .i64 at_] w fun e w' => e = .returned (.bool true) ∧ Below w.heap.size w w' := by
  have h1 : decide ((600 : Int) < n) = false := decide_eq_false (by omega)
  have HF := hid_as hf
  have HN := hid_as hn
  have HL := hid_as hl
  clear hf hn hl
  go_enter Try.func5, Try.ntmps5
  go_wp2_with fail
  refine (known_law _).mono ?_
  rintro e w1 ⟨rfl, k1⟩
  obtain ⟨k1, B1, hs1⟩ := one_box k1
  have K1 := hid_as k1
  obtain ⟨c0, c1, c2⟩ := B1
  have X1 := hid_as (wr_no (HF.out.below k1) (by have := HN.out; omega) HL.out)
  clear k1
  go_wp2_with fail
  refine X1.out.mono ?_
  rintro e w2 ⟨rfl, k2⟩
  have K2 := hid_as (below_and K1.out k2)
  clear k2
  go_wp2
  go_ret
  exact ⟨rfl, K2.out⟩
set_option maxRecDepth 100000 in
set_option maxHeartbeats 4000000 in
theorem waits_yes (id unit n c : Nat) (ao : Option Addr) (pdu : List Nat) (at_ : Int) (w : World) (hf : IsFr w (.agg #[.int .u16 id, .int .u8 unit, .slice ao n c]) id unit pdu (.slice ao n c)) (hn : n = pdu.length) (h6 : n ≤ 600) (hl : 1 ≤ pdu.length ∧ pdu.length ≤ 253) :
    Calls Try.prog 5 #[.agg #[.int .u16 id, .int .u8 unit, .slice ao n c], .int .i64 at_] w fun e w' => e = .returned (.bool true) ∧ Below w.heap.size w w' := by
  have h1 : decide ((600 : Int) < n) = false := decide_eq_false (by omega)
  have HF := hid_as hf
  have HN := hid_as hn
  have HL := hid_as hl
  clear hf hn hl
  go_enter Try.func5, Try.ntmps5
  go_wp2_with fail
  refine (known_law _).mono ?_
  rintro e w1 ⟨rfl, k1⟩
  obtain ⟨k1, B1, hs1⟩ := one_box k1
  have K1 := hid_as k1
  obtain ⟨c0, c1, c2⟩ := B1
  have X1 := hid_as (wr_yes (HF.out.below k1) HL.out)
  clear k1
  go_wp2_with fail
  refine X1.out.mono ?_
  rintro e w2 ⟨v2, rfl, own2, k2⟩
  obtain ⟨g, c2', rfl, hc2⟩ := own_some own2 (by intro e; have := congrArg List.length e; rw [mb_length] at this; simp at this)
  have K2 := hid_as (below_and K1.out k2)
  have S2 := hid_as (own_sl own2)
  have hm := mb_length id unit pdu
  have HBY := hid_as (mb_bytes HF.out.i HF.out.u HF.out.b (by have := HN.out; omega))
  generalize hbs : mb id unit pdu = bs at own2 S2 hc2 hm HBY
  have HBS := hid_as hbs
  clear hbs own2 k2 X1
  obtain ⟨m, hm'⟩ : ∃ m, m = bs.length := ⟨_, rfl⟩
  rw [← hm'] at hc2 hm S2 ⊢
  have HM := hid_as hm'
  have hm0 : 0 < m := by omega
  have hmb : m ≤ 1000 := by have := HL.out; omega
  have hne : ((m : Int) == 0) = false := by rw [beq_eq_false_iff_ne]; omega
  have P := hid_as (fun (W : World) => place_c at_ m hm0 (by omega) W)
  clear hm' hm c0 c1 c2
  go_wp2_with fail
  refine (P.out _).mono ?_
  rintro e w3 ⟨⟨p, hp, rfl⟩, hw⟩
  subst w3
  have hpc : p ≤ c2' := by omega
  have hcut : rd (bs.take p) = ⟨0, 0, [], 0, 0⟩ := by
    rw [← HBS.out]
    exact rd_cut id unit pdu HL.out p (by have h1 := HM.out; rw [← HBS.out, mb_length] at h1; omega)
  have HC := hid_as hcut
  have O1 := hid_as (open_c (sl_cut S2.out (by rw [← HM.out]; exact hp)) (HBY.out.take p) (by rw [List.length_take, ← HM.out]; omega))
  clear hcut P
  go_wp2_with fail
  refine O1.out.mono ?_
  rintro e w3 hend
  obtain ⟨k3, po, pc, rfl, _⟩ := hend.is HC.out
  have K3 := hid_as (below_and K2.out k3)
  clear hend k3 O1
  go_wp2
  go_ret
  exact ⟨rfl, below_new K3.out _⟩
theorem waits_law {v pv : Value} {id unit : Nat} {pdu : List Nat} {at_ : Int} {w : World} (h : IsFr w v id unit pdu pv) : Calls Try.prog 5 #[v, .int .i64 at_] w fun e w' => e = .returned (.bool true) ∧ Below w.heap.size w w' := by
  obtain ⟨rfl, hi, hu, hb, s⟩ := h
  obtain ⟨ao, c, rfl⟩ := s.shape
  rw [u8s_len] at s ⊢
  by_cases hl : pdu.length ≤ 600
  case neg => exact waits_big _ _ ao _ c at_ w (by omega)
  by_cases hf : 1 ≤ pdu.length ∧ pdu.length ≤ 253
  · exact waits_yes id unit _ c ao pdu at_ w ⟨rfl, hi, hu, hb, s⟩ rfl hl hf
  · exact waits_no id unit _ c ao pdu at_ w ⟨rfl, hi, hu, hb, s⟩ rfl hl hf
end Go.Proofs.Ytmckfoabemmmkaa
