/- The walks: Write, and the reference's Rtu. -/
import Derived.Test.YteadaknlflaclaaW1
namespace Go.Proofs.Yteadaknlflaclaa
open Go.RowKit
open Pdu
open Crc
theorem lies_two (W : World) (a b : Value) (t : TypeId) : Lies (W.alloc (.cells #[a, b] t)) W.heap.size 0 [a, b] := by
  intro k u hk
  rw [World.cell?_alloc_new, Nat.zero_add, ← Array.getElem?_toList]
  exact hk
theorem parts_two {W : World} {a b : Value} {xs ys : List Nat} (ha : Sl W a (u8s xs)) (hb : Sl W b (u8s ys)) : Parts W [a, b] [xs, ys] := by
  obtain ⟨ao, c, rfl⟩ := ha.shape
  obtain ⟨bo, d, rfl⟩ := hb.shape
  rw [u8s_len] at ha hb
  intro k hk
  match k, hk with
  | 0, _ => exact ⟨ao, c, by rw [u8s_len, u8s_len]; rfl, ha⟩
  | 1, _ => exact ⟨bo, d, by rw [u8s_len, u8s_len]; rfl, hb⟩
theorem Parts.below {w u : World} {pvs : List Value} {ls : List (List Nat)} (h : Parts w pvs ls) (k : Below w.heap.size w u) : Parts u pvs ls := fun i hi => by
  obtain ⟨ao, m, h1, h2⟩ := h i hi
  exact ⟨ao, m, h1, h2.below k⟩
theorem join_two {W : World} {a b : Value} {xs ys : List Nat} (ha : Sl W a (u8s xs)) (hb : Sl W b (u8s ys)) (hsz : xs.length + ys.length ≤ 60000) :
    Calls Try.prog 13 #[.slice (some ⟨W.heap.size, 0, none⟩) 2 2] (W.alloc (.cells #[a, b] 22)) fun e w' => ∃ v', e = .returned v' ∧ w'.ownsRow W.heap.size 5 1 v' (xs ++ ys).length (u8s (xs ++ ys)) ∧ Below W.heap.size W w' := by
  have e : [xs, ys].flatten = xs ++ ys := by simp
  refine (join_c (n := 2) (ls := [xs, ys]) rfl (lies_two W a b _) ((parts_two ha hb).below (below_new (Below.refl _ W) _)) (by rw [e, List.length_append]; omega) (by decide)).mono ?_
  rintro x w' ⟨v', rfl, own, k⟩
  rw [e] at own
  exact ⟨v', rfl, own_base own (by simp), below_and (below_new (Below.refl _ W) _) k⟩
set_option maxHeartbeats 1600000 in
theorem write_no (x : Value) (ao : Option Addr) (n cap : Nat) (w : World) (hf : ¬ (1 ≤ n ∧ n ≤ 253)) :
    Calls Try.prog 7 #[x, .slice ao n cap] w fun e w' => e = .returned (.tuple #[.slice none 0 0, .int .i64 51]) ∧ Below w.heap.size w w' := by
  by_cases h1 : 1 ≤ n
  · have d1 : ((n : Int) == 0) = false := by rw [beq_eq_false_iff_ne]; omega
    have d2 : decide ((253 : Int) < n) = true := decide_eq_true (by omega)
    clear hf h1
    go_enter Try.func7, Try.ntmps7
    go_wp2
    go_ret2
    exact ⟨rfl, Below.refl _ w⟩
  · obtain rfl : n = 0 := by omega
    clear hf h1
    go_enter Try.func7, Try.ntmps7
    go_wp2
    go_ret2
    exact ⟨rfl, Below.refl _ w⟩
set_option maxHeartbeats 1600000 in
theorem write_yes (unit n cap : Nat) (pdu : List Nat) (ao : Option Addr) (w : World) (hn : n = pdu.length) (hf : 1 ≤ n ∧ n ≤ 253) (hu : unit < 256) (hB : Bytes pdu) (hs : Sl w (.slice ao n cap) (u8s pdu)) :
    Calls Try.prog 7 #[.int .u8 unit, .slice ao n cap] w fun e w' => ∃ v', e = .returned (.tuple #[v', .int .i64 0]) ∧ w'.ownsRow w.heap.size 5 1 v' (rt unit pdu).length (u8s (rt unit pdu)) ∧ Below w.heap.size w w' := by
  have d1 : ((n : Int) == 0) = false := by rw [beq_eq_false_iff_ne]; omega
  have d2 : decide ((253 : Int) < n) = false := decide_eq_false (by omega)
  have X1 := hid_as (join_two (lit_sl w unit) (hs.below (below_new (Below.refl _ w) _)) (by rw [← hn]; simp; omega))
  simp only [World.size_alloc] at X1
  have HB := hid_as (Bytes.cons hu hB)
  have HN := hid_as hn
  have HF := hid_as hf
  clear hs hn hB hf
  go_enter Try.func7, Try.ntmps7
  go_wp2_with fail
  refine X1.out.mono ?_
  rintro e w1 ⟨v1, rfl, own1, k1⟩
  obtain ⟨ao1, c1, rfl⟩ := (own_sl own1).shape
  generalize (u8s ([unit] ++ pdu)).length = m1 at own1 ⊢
  have O1 : Hid (w1.ownsRow (w.heap.size + 1) 5 1 (.slice ao1 m1 c1) (unit :: pdu).length (u8s (unit :: pdu))) := own1
  have K1 : Hid (Below w.heap.size w w1) := ((Below.refl _ w).alloc (Nat.le_refl _) _).trans (k1.mono (by simp))
  have X2 := hid_as (sum_c (own_sl O1.out) HB.out (by have := HN.out; have := HF.out; simp; omega))
  clear own1 k1 X1
  go_wp2_with fail
  refine X2.out.mono ?_
  rintro e w2 ⟨v2, rfl, own2, k2⟩
  obtain ⟨ao2, c2, rfl⟩ := (own_sl own2).shape
  have X3 := hid_as (join_two ((own_sl O1.out).below k2) (own_sl own2) (by have := HN.out; have := HF.out; simp [s2]; omega))
  have K2 : Hid (Below w.heap.size w w2) := K1.out.trans (k2.mono K1.out.size)
  clear own2 k2 X2 O1 K1
  go_wp2_with fail
  refine X3.out.mono ?_
  rintro e w3 ⟨v3, rfl, own3, k3⟩
  have O3 : Hid (w3.ownsRow w.heap.size 5 1 v3 (rt unit pdu).length (u8s (rt unit pdu))) := own_base own3 K2.out.size
  have K3 : Hid (Below w.heap.size w w3) := K2.out.trans (k3.mono K2.out.size)
  clear own3 k3 X3 K2
  go_wp2
  go_ret2
  exact ⟨_, rfl, O3.out, K3.out⟩
set_option maxHeartbeats 1600000 in
theorem rtu_no (x : Value) (ao : Option Addr) (n cap : Nat) (w : World) (hf : ¬ (1 ≤ n ∧ n ≤ 253)) :
    Calls Try.prog 8 #[x, .slice ao n cap] w fun e w' => e = .returned (.tuple #[.slice none 0 0, .int .i64 51]) ∧ Below w.heap.size w w' := by
  by_cases h1 : 1 ≤ n
  · have d1 : decide ((n : Int) < 1) = false := decide_eq_false (by omega)
    have d2 : decide ((253 : Int) < n) = true := decide_eq_true (by omega)
    clear hf h1
    go_enter Try.func8, Try.ntmps8
    go_wp2
    go_ret2
    exact ⟨rfl, Below.refl _ w⟩
  · have d1 : decide ((n : Int) < 1) = true := decide_eq_true (by omega)
    clear hf h1
    go_enter Try.func8, Try.ntmps8
    go_wp2
    go_ret2
    exact ⟨rfl, Below.refl _ w⟩
set_option maxHeartbeats 1600000 in
theorem rtu_yes (unit n cap : Nat) (pdu : List Nat) (ao : Option Addr) (w : World) (hn : n = pdu.length) (hf : 1 ≤ n ∧ n ≤ 253) (hu : unit < 256) (hB : Bytes pdu) (hs : Sl w (.slice ao n cap) (u8s pdu)) :
    Calls Try.prog 8 #[.int .u8 unit, .slice ao n cap] w fun e w' => ∃ v', e = .returned (.tuple #[v', .int .i64 0]) ∧ w'.ownsRow w.heap.size 5 1 v' (rt unit pdu).length (u8s (rt unit pdu)) ∧ Below w.heap.size w w' := by
  obtain ⟨i0, hi0, hz0, hz1, hz2⟩ := info_parts Try.infoByte
  have d1 : decide ((n : Int) < 1) = false := decide_eq_false (by omega)
  have d2 : decide ((253 : Int) < n) = false := decide_eq_false (by omega)
  obtain ⟨v1, w1, hAp, own1, g1⟩ := run_append_sl (P := Try.prog) (w := w.alloc (.cells #[.int .u8 unit] 5)) w.heap.size 22 22 5 i0 (.int .u8 0) 1 Try.underlying22 hi0 hz0 hz1 hz2 rfl _ _ _ (lit_own w unit) (.slice ao n cap) (u8s pdu) (hs.below (below_new (Below.refl _ w) _)) (u8s_one _) (by rw [u8s_len]; unfold maxLen; omega) (by rw [u8s_len]; omega) (by simp)
  have k1 : Below w.heap.size w w1 := ((Below.refl _ w).alloc (Nat.le_refl _) _).grown g1 (by simp) (fun g hg' => ((lit_own w unit).lt g hg').1)
  rw [← u8s_app, u8s_len] at own1
  have hl : 1 + pdu.length = (unit :: pdu).length := by simp; omega
  rw [hl] at own1
  have O1 : Hid (w1.ownsRow w.heap.size 5 1 v1 (unit :: pdu).length (u8s (unit :: pdu))) := own1
  have K1 := hid_as k1
  have HA := hid_as hAp
  have HB := Bytes.cons hu hB
  have X2 := hid_as (ref16_c (own_sl O1.out) HB (by simp; omega))
  have hx := s16_lt HB
  obtain ⟨x, ex⟩ : ∃ x, x = s16 (unit :: pdu) := ⟨_, rfl⟩
  rw [← ex] at X2 hx
  have EX := hid_as ex
  have HL : Hid ((unit :: pdu).length ≤ 1000) := by show (unit :: pdu).length ≤ 1000; simp; omega
  have e1 : IntKind.u8.wrap ((x : Int) / 256) = (x : Int) / 256 := by rw [IntKind.wrap_u8]; omega
  have e2 : IntKind.u8.wrap (x : Int) = (x : Int) % 256 := by rw [IntKind.wrap_u8]
  obtain ⟨v3, w3, hAp3, own3, g3⟩ := run_append_sl (P := Try.prog) (w := w1.alloc (.cells #[.int .u8 ((x % 256 : Nat) : Int), .int .u8 ((x / 256 : Nat) : Int)] 5)) w.heap.size 22 22 5 i0 (.int .u8 0) 1 Try.underlying22 hi0 hz0 hz1 hz2 rfl v1 _ _ (O1.out.alloc _) (.slice (some ⟨w1.heap.size, 0, none⟩) 2 2) (u8s (s2 x)) (own_sl (two_own w1 (x % 256) (x / 256))) (u8s_one _) (by rw [u8s_len]; unfold maxLen; have := HL.out; simp only [s2, List.length_cons, List.length_nil] at *; omega) (by rw [u8s_len]; have := HL.out; simp only [s2, List.length_cons, List.length_nil] at *; omega) (by have := k1.size; simp; omega)
  have k3 : Below w.heap.size w1 w3 := own_grow O1.out k1.size g3
  have K3 := hid_as (k1.trans k3)
  rw [← u8s_app, u8s_len, ← List.length_append, ex] at own3
  have O3 : Hid (w3.ownsRow w.heap.size 5 1 v3 (rt unit pdu).length (u8s (rt unit pdu))) := own3
  have HA3 := hid_as hAp3
  simp only [Int.natCast_emod, Int.natCast_ediv, Int.cast_ofNat_Int] at HA3
  clear hs hn hB hAp own1 g1 k1 hl ex hAp3 own3 g3 k3 HB
  go_enter Try.func8, Try.ntmps8
  go_wp2_with (at_builtin; refine Lib.wpList_append_run _ rfl _ _ _ _ rfl _ _ rfl rfl _ _ HA.out ?_)
  refine X2.out.mono ?_
  rintro e w2 ⟨rfl, hw⟩
  subst w2
  go_wp2_with (at_builtin; refine Lib.wpList_append_run _ rfl _ _ _ _ rfl _ _ rfl rfl _ _ HA3.out ?_)
  go_ret2
  exact ⟨_, rfl, O3.out, K3.out⟩
end Go.Proofs.Yteadaknlflaclaa
