/- The walk of MbapWrites. -/
import Derived.Test.YtmckfoabemmmkaaKN
namespace Go.Proofs.Ytmckfoabemmmkaa
open Go.RowKit
open Pdu
set_option maxRecDepth 100000 in
set_option maxHeartbeats 1600000 in
theorem writes_big (x0 x1 : Value) (ao so : Option Addr) (n c m mc : Nat) (w : World) (h : 600 < n) :
    Calls Try.prog 3 #[.agg #[x0, x1, .slice ao n c], .slice so m mc] w fun e w' => e = .returned (.bool true) ∧ Below w.heap.size w w' := by
  have h1 : decide ((600 : Int) < n) = true := decide_eq_true (by omega)
  clear h
  go_enter Try.func3, Try.ntmps3
  go_wp2_with fail
  refine (known_law _).mono ?_
  rintro e w1 ⟨rfl, k1⟩
  obtain ⟨k1, B1, hs1⟩ := one_box k1
  have K1 := hid_as k1
  obtain ⟨c0, c1, c2⟩ := B1
  clear k1
  go_wp2
  go_ret
  exact ⟨rfl, K1.out⟩
set_option maxRecDepth 100000 in
set_option maxHeartbeats 1600000 in
theorem writes_more (x0 x1 : Value) (ao so : Option Addr) (n c m mc : Nat) (w : World) (h : n ≤ 600) (hm : 300 < m) :
    Calls Try.prog 3 #[.agg #[x0, x1, .slice ao n c], .slice so m mc] w fun e w' => e = .returned (.bool true) ∧ Below w.heap.size w w' := by
  have h1 : decide ((600 : Int) < n) = false := decide_eq_false (by omega)
  have h2 : decide ((300 : Int) < m) = true := decide_eq_true (by omega)
  clear h hm
  go_enter Try.func3, Try.ntmps3
  go_wp2_with fail
  refine (known_law _).mono ?_
  rintro e w1 ⟨rfl, k1⟩
  obtain ⟨k1, B1, hs1⟩ := one_box k1
  have K1 := hid_as k1
  obtain ⟨c0, c1, c2⟩ := B1
  clear k1
  go_wp2
  go_ret
  exact ⟨rfl, K1.out⟩
set_option maxRecDepth 100000 in
set_option maxHeartbeats 4000000 in
theorem writes_no (id unit n c m mc : Nat) (ao so : Option Addr) (pdu : List Nat) (w : World) (hf : IsFr w (.agg #[.int .u16 id, .int .u8 unit, .slice ao n c]) id unit pdu (.slice ao n c)) (hn : n = pdu.length) (h6 : n ≤ 600) (hm : m ≤ 300) (hl : ¬ (1 ≤ pdu.length ∧ pdu.length ≤ 253)) :
    Calls Try.prog 3 #[.agg #[.int .u16 id, .int .u8 unit, .slice ao n c], .slice so m mc] w fun e w' => e = .returned (.bool true) ∧ Below w.heap.size w w' := by
  have h1 : decide ((600 : Int) < n) = false := decide_eq_false (by omega)
  have h2 : decide ((300 : Int) < m) = false := decide_eq_false (by omega)
  have HF := hid_as hf
  have HN := hid_as hn
  have HL := hid_as hl
  clear hf hn hl
  go_enter Try.func3, Try.ntmps3
  go_wp2_with fail
  refine (known_law _).mono ?_
  rintro e w1 ⟨rfl, k1⟩
  obtain ⟨k1, B1, hs1⟩ := one_box k1
  have K1 := hid_as k1
  have B1 := hid_as B1
  obtain ⟨c0, c1, c2⟩ := B1.out
  have X1 := hid_as (wr_no (HF.out.below k1) (by have := HN.out; omega) HL.out)
  clear k1
  go_wp2_with fail
  refine X1.out.mono ?_
  rintro e w2 ⟨rfl, k2⟩
  have K2 := hid_as (below_and K1.out k2)
  have X2 := hid_as (rw_no (HF.out.below K2.out) (by have := HN.out; omega) HL.out)
  have B2 := hid_as (B1.out.below k2 hs1)
  clear k2 c0 c1 c2 B1 X1
  obtain ⟨c0, c1, c2⟩ := B2.out
  go_wp2_with fail
  refine X2.out.mono ?_
  rintro e w3 ⟨rfl, k3⟩
  have K3 := hid_as (below_and K2.out k3)
  have X3 := hid_as (bytes_t (xs := []) (Sl.nil w3) (Sl.nil w3) Bytes.nil)
  clear k3 c0 c1 c2 B2 X2
  go_wp2_with fail
  refine X3.out.mono ?_
  rintro e w4 ⟨rfl, hw⟩
  subst w4
  go_wp2
  go_ret
  exact ⟨rfl, K3.out⟩
set_option maxRecDepth 100000 in
set_option maxHeartbeats 4000000 in
theorem writes_yes (id unit n c m mc : Nat) (ao so : Option Addr) (pdu ms : List Nat) (w : World) (hf : IsFr w (.agg #[.int .u16 id, .int .u8 unit, .slice ao n c]) id unit pdu (.slice ao n c)) (hn : n = pdu.length) (h6 : n ≤ 600) (hs : Sl w (.slice so m mc) (u8s ms)) (hM : Bytes ms) (hmm : m = ms.length) (hm : m ≤ 300) (hl : 1 ≤ pdu.length ∧ pdu.length ≤ 253) :
    Calls Try.prog 3 #[.agg #[.int .u16 id, .int .u8 unit, .slice ao n c], .slice so m mc] w fun e w' => e = .returned (.bool true) ∧ Below w.heap.size w w' := by
  have h1 : decide ((600 : Int) < n) = false := decide_eq_false (by omega)
  have h2 : decide ((300 : Int) < m) = false := decide_eq_false (by omega)
  have HF := hid_as hf
  have HN := hid_as hn
  have HL := hid_as hl
  have HS := hid_as hs
  have HMM := hid_as hmm
  have HML := hid_as hm
  have hbl : (mb id unit pdu).length = pdu.length + 7 := mb_length id unit pdu
  have HBL := hid_as hbl
  have HBY := hid_as (mb_bytes hf.i hf.u hf.b (by omega))
  have HRD := hid_as (rd_mb id unit pdu ms hl)
  clear hf hn hl hs hmm hbl
  go_enter Try.func3, Try.ntmps3
  go_wp2_with fail
  refine (known_law _).mono ?_
  rintro e w1 ⟨rfl, k1⟩
  obtain ⟨k1, B1, hs1⟩ := one_box k1
  have K1 := hid_as k1
  have B1 := hid_as B1
  obtain ⟨c0, c1, c2⟩ := B1.out
  have X1 := hid_as (wr_yes (HF.out.below k1) HL.out)
  clear k1
  go_wp2_with fail
  refine X1.out.mono ?_
  rintro e w2 ⟨v2, rfl, own2, k2⟩
  obtain ⟨g, cc, hv2, hcc⟩ : ∃ g cc, v2 = .slice (some ⟨g, 0, none⟩) (pdu.length + 7) cc ∧ pdu.length + 7 ≤ cc := by
    obtain ⟨g, cc, h, h'⟩ := own_some own2 (by intro e; have := congrArg List.length e; rw [mb_length] at this; simp at this)
    rw [mb_length] at h h'
    exact ⟨g, cc, h, h'⟩
  subst hv2
  have K2 := hid_as (below_and K1.out k2)
  have S2 := hid_as (own_sl own2)
  have hs2 : w.heap.size < w2.heap.size := Nat.lt_of_lt_of_le hs1 k2.size
  have X2 := hid_as (rw_yes (HF.out.below K2.out) HL.out)
  have B2 := hid_as (B1.out.below k2 hs1)
  clear k2 own2 c0 c1 c2 B1 X1
  obtain ⟨c0, c1, c2⟩ := B2.out
  go_wp2_with fail
  refine X2.out.mono ?_
  rintro e w3 ⟨v3, rfl, own3, k3⟩
  have K3 := hid_as (below_and K2.out k3)
  have hs3 : w.heap.size < w3.heap.size := Nat.lt_of_lt_of_le hs2 k3.size
  have B3 := hid_as (B2.out.below k3 hs2)
  have S3 := hid_as (S2.out.below k3)
  have X3 := hid_as (bytes_t S3.out (own_sl own3) HBY.out)
  have C3 := hid_as (copy_c S3.out (by have := HBL.out; have := HL.out; omega))
  clear k3 own3 c0 c1 c2 B2 X2 S2
  go_wp2_with fail
  refine X3.out.mono ?_
  rintro e w4 ⟨rfl, hw⟩
  subst w4
  clear X3
  go_wp2_with fail
  refine C3.out.mono ?_
  rintro e w5 ⟨v5, rfl, own5, k5⟩
  obtain ⟨i0, hi0, hz0, hz1, hz2⟩ := info_parts Try.infoByte
  have K5 := hid_as (below_and K3.out k5)
  obtain ⟨v6, w6, hAp, own6, g6⟩ := run_append_sl (P := Try.prog) (w := w5) w3.heap.size 23 23 5 i0 (.int .u8 0) 1 Try.underlying23 hi0 hz0 hz1 hz2 rfl v5 _ _ own5 (.slice so m mc) (u8s ms) (HS.out.below K5.out) (u8s_one ms) (by have := HBL.out; have := HL.out; have := HMM.out; have := HML.out; rw [u8s_len]; unfold maxLen; omega) (by have := HBL.out; have := HL.out; have := HMM.out; have := HML.out; rw [u8s_len]; omega) k5.size
  rw [← u8s_app] at own6
  have HA := hid_as hAp
  have k6 : Below w3.heap.size w3 w6 := k5.trans ((Below.refl _ w5).grown g6 k5.size (fun g hg' => (own5.lt g hg').1))
  have K6 := hid_as (below_and K3.out k6)
  have hs6 : w.heap.size < w6.heap.size := Nat.lt_of_lt_of_le hs3 k6.size
  have B6 := hid_as (B3.out.below k6 hs3)
  have O6 := hid_as (open_c (own_sl own6) (HBY.out.app hM) (by have := HBL.out; have := HL.out; have := HMM.out; have := HML.out; rw [List.length_append]; omega))
  clear hAp own5 own6 g6 k5 k6 C3 K5 B3 S3
  go_wp2_with (at_builtin; refine Lib.wpList_append_run _ rfl _ _ _ _ rfl _ _ rfl rfl _ _ HA.out ?_)
  refine O6.out.mono ?_
  rintro e w7 hend
  obtain ⟨k7, po, pc, rfl, s7⟩ := hend.is HRD.out
  have K7 := hid_as (below_and K6.out k7)
  have B7 := hid_as (B6.out.below k7 hs6)
  have F7 : Hid (IsFr w7 (.agg #[.int .u16 id, .int .u8 unit, .slice po pdu.length pc]) id unit pdu (.slice po pdu.length pc)) := ⟨rfl, HF.out.i, HF.out.u, HF.out.b, s7⟩
  have G7 := hid_as (HF.out.below K7.out)
  have d0 := fun (o : Obj) => (B7.out.grow o).c0
  have d1 := fun (o : Obj) => (B7.out.grow o).c1
  have d2 := fun (o : Obj) => (B7.out.grow o).c2
  have X := hid_as (fun (o : Obj) => frame_t (F7.out.below (below_new (Below.refl _ w7) o)) (G7.out.below (below_new (Below.refl _ w7) o)))
  clear hend k7 s7 O6 HA B6
  go_wp2_with fail
  refine (X.out _).mono ?_
  rintro e w8 ⟨rfl, k8⟩
  have K8 := hid_as (below_and (below_new K7.out _) k8)
  clear k8 d0 d1 d2 X
  go_wp2
  go_ret
  exact ⟨rfl, K8.out⟩
theorem writes_law {v pv u : Value} {id unit : Nat} {pdu ms : List Nat} {w : World} (h : IsFr w v id unit pdu pv) (hs : Sl w u (u8s ms)) (hM : Bytes ms) : Calls Try.prog 3 #[v, u] w fun e w' => e = .returned (.bool true) ∧ Below w.heap.size w w' := by
  obtain ⟨rfl, hi, hu, hb, s⟩ := h
  obtain ⟨ao, c, rfl⟩ := s.shape
  obtain ⟨so, mc, rfl⟩ := hs.shape
  rw [u8s_len] at s hs ⊢
  rw [u8s_len]
  by_cases hl : pdu.length ≤ 600
  case neg => exact writes_big _ _ ao so _ c _ mc w (by omega)
  by_cases hm : ms.length ≤ 300
  case neg => exact writes_more _ _ ao so _ c _ mc w hl (by omega)
  by_cases hf : 1 ≤ pdu.length ∧ pdu.length ≤ 253
  · exact writes_yes id unit _ c _ mc ao so pdu ms w ⟨rfl, hi, hu, hb, s⟩ rfl hl hs hM rfl hm hf
  · exact writes_no id unit _ c _ mc ao so pdu w ⟨rfl, hi, hu, hb, s⟩ rfl hl hm hf
end Go.Proofs.Ytmckfoabemmmkaa
