/- The walks: the check sum's bytes; the reference's Rtu (stage 7). -/
import Derived.Test.YtgmbboimndepnaaB2
import Derived.Test.YtgmbboimndepnaaP1
namespace Go.Proofs.Ytgmbboimndepnaa
open Go.RowKit
open Pdu
open Crc
theorem two_own (w : World) (x y : Nat) : (w.alloc (.cells #[.int .u8 x, .int .u8 y] 5)).ownsRow w.heap.size 5 1 (.slice (some ⟨w.heap.size, 0, none⟩) 2 2) 2 (u8s [x, y]) :=
  World.ownsRow_lit w #[.int .u8 (x : Int), .int .u8 (y : Int)] 2 (Nat.le_refl _) (by unfold maxLen; omega) rfl
set_option maxHeartbeats 1600000 in
theorem sum_c {v : Value} {bs : List Nat} {w : World} (h : Sl w v (u8s bs)) (hb : Bytes bs) (hm : bs.length ≤ 1000000) :
    Calls Try.prog 23 #[v] w fun e w' => ∃ v', e = .returned v' ∧ w'.ownsRow w.heap.size 5 1 v' 2 (u8s (s2 (s16 bs))) ∧ Below w.heap.size w w' := by
  have X := hid_as (sum16_c h hb hm)
  have hx := s16_lt hb
  generalize s16 bs = x at X hx ⊢
  have e1 : IntKind.u8.wrap ((x : Int) / 256) = (x : Int) / 256 := by rw [IntKind.wrap_u8]; omega
  have e2 : IntKind.u8.wrap (x : Int) = (x : Int) % 256 := by rw [IntKind.wrap_u8]
  clear h
  go_enter Try.func23, Try.ntmps23
  go_wp2_with fail
  refine X.out.mono ?_
  rintro e w1 ⟨rfl, hw⟩
  subst w1
  go_wp2
  go_ret
  exact ⟨_, rfl, two_own w (x % 256) (x / 256), below_new (Below.refl _ w) _⟩
set_option maxHeartbeats 1600000 in
theorem rtu_no (x : Value) (ao : Option Addr) (n cap : Nat) (w : World) (hf : ¬ (1 ≤ n ∧ n ≤ 253)) :
    Calls Try.prog 8 #[x, .slice ao n cap] w fun e w' => e = .returned (.tuple #[.slice none 0 0, .int .i64 51]) ∧ Below w.heap.size w w' := by
  by_cases h1 : 1 ≤ n
  · have d1 : decide ((n : Int) < 1) = false := decide_eq_false (by omega)
    have d2 : decide ((253 : Int) < n) = true := decide_eq_true (by omega)
    clear hf h1
    go_enter Try.func8, Try.ntmps8
    go_wp2
    go_ret2
    exact ⟨rfl, Below.refl _ w⟩
  · have d1 : decide ((n : Int) < 1) = true := decide_eq_true (by omega)
    clear hf h1
    go_enter Try.func8, Try.ntmps8
    go_wp2
    go_ret2
    exact ⟨rfl, Below.refl _ w⟩
set_option maxHeartbeats 1600000 in
theorem rtu_yes (unit n cap : Nat) (pdu : List Nat) (ao : Option Addr) (w : World) (hn : n = pdu.length) (hf : 1 ≤ n ∧ n ≤ 253) (hu : unit < 256) (hB : Bytes pdu) (hs : Sl w (.slice ao n cap) (u8s pdu)) :
    Calls Try.prog 8 #[.int .u8 unit, .slice ao n cap] w fun e w' => ∃ v', e = .returned (.tuple #[v', .int .i64 0]) ∧ w'.ownsRow w.heap.size 5 1 v' (rt unit pdu).length (u8s (rt unit pdu)) ∧ Below w.heap.size w w' := by
  obtain ⟨i0, hi0, hz0, hz1, hz2⟩ := info_parts Try.infoByte
  have d1 : decide ((n : Int) < 1) = false := decide_eq_false (by omega)
  have d2 : decide ((253 : Int) < n) = false := decide_eq_false (by omega)
  obtain ⟨v1, w1, hAp, own1, g1⟩ := run_append_sl (P := Try.prog) (w := w.alloc (.cells #[.int .u8 unit] 5)) w.heap.size 24 24 5 i0 (.int .u8 0) 1 Try.underlying24 hi0 hz0 hz1 hz2 rfl _ _ _ (lit_own w unit) (.slice ao n cap) (u8s pdu) (hs.below (below_new (Below.refl _ w) _)) (u8s_one _) (by rw [u8s_len]; unfold maxLen; omega) (by rw [u8s_len]; omega) (by simp)
  have k1 : Below w.heap.size w w1 := ((Below.refl _ w).alloc (Nat.le_refl _) _).grown g1 (by simp) (fun g hg' => ((lit_own w unit).lt g hg').1)
  rw [← u8s_app, u8s_len] at own1
  have hl : 1 + pdu.length = (unit :: pdu).length := by simp; omega
  rw [hl] at own1
  have O1 : Hid (w1.ownsRow w.heap.size 5 1 v1 (unit :: pdu).length (u8s (unit :: pdu))) := own1
  have K1 := hid_as k1
  have HA := hid_as hAp
  have HB := Bytes.cons hu hB
  have X2 := hid_as (ref16_c (own_sl O1.out) HB (by simp; omega))
  have hx := s16_lt HB
  obtain ⟨x, ex⟩ : ∃ x, x = s16 (unit :: pdu) := ⟨_, rfl⟩
  rw [← ex] at X2 hx
  have EX := hid_as ex
  have HL : Hid ((unit :: pdu).length ≤ 1000) := by show (unit :: pdu).length ≤ 1000; simp; omega
  have e1 : IntKind.u8.wrap ((x : Int) / 256) = (x : Int) / 256 := by rw [IntKind.wrap_u8]; omega
  have e2 : IntKind.u8.wrap (x : Int) = (x : Int) % 256 := by rw [IntKind.wrap_u8]
  obtain ⟨v3, w3, hAp3, own3, g3⟩ := run_append_sl (P := Try.prog) (w := w1.alloc (.cells #[.int .u8 ((x % 256 : Nat) : Int), .int .u8 ((x / 256 : Nat) : Int)] 5)) w.heap.size 24 24 5 i0 (.int .u8 0) 1 Try.underlying24 hi0 hz0 hz1 hz2 rfl v1 _ _ (O1.out.alloc _) (.slice (some ⟨w1.heap.size, 0, none⟩) 2 2) (u8s (s2 x)) (own_sl (two_own w1 (x % 256) (x / 256))) (u8s_one _) (by rw [u8s_len]; unfold maxLen; have := HL.out; simp only [s2, List.length_cons, List.length_nil] at *; omega) (by rw [u8s_len]; have := HL.out; simp only [s2, List.length_cons, List.length_nil] at *; omega) (by have := k1.size; simp; omega)
  have k3 : Below w.heap.size w1 w3 := own_grow O1.out k1.size g3
  have K3 := hid_as (k1.trans k3)
  rw [← u8s_app, u8s_len, ← List.length_append, ex] at own3
  have O3 : Hid (w3.ownsRow w.heap.size 5 1 v3 (rt unit pdu).length (u8s (rt unit pdu))) := own3
  have HA3 := hid_as hAp3
  simp only [Int.natCast_emod, Int.natCast_ediv, Int.cast_ofNat_Int] at HA3
  clear hs hn hB hAp own1 g1 k1 hl ex hAp3 own3 g3 k3 HB
  go_enter Try.func8, Try.ntmps8
  go_wp2_with (at_builtin; refine Lib.wpList_append_run _ rfl _ _ _ _ rfl _ _ rfl rfl _ _ HA.out ?_)
  refine X2.out.mono ?_
  rintro e w2 ⟨rfl, hw⟩
  subst w2
  go_wp2_with (at_builtin; refine Lib.wpList_append_run _ rfl _ _ _ _ rfl _ _ rfl rfl _ _ HA3.out ?_)
  go_ret2
  exact ⟨_, rfl, O3.out, K3.out⟩
end Go.Proofs.Ytgmbboimndepnaa
