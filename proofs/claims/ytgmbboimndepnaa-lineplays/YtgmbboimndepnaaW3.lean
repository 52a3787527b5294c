/- The walks: Open. -/
import Derived.Test.YtgmbboimndepnaaW1
namespace Go.Proofs.Ytgmbboimndepnaa
open Go.RowKit
open Pdu
open Crc
/-- Zeros, and an error. -/
def nought (E : Nat) : Ending := .returned (.tuple #[.int .u8 0, .slice none 0 0, .int .i64 E])
set_option maxHeartbeats 1600000 in
theorem open_51 (ao : Option Addr) (n cap : Nat) (w : World) (h : ¬ (4 ≤ n ∧ n ≤ 256)) :
    Calls Try.prog 21 #[.slice ao n cap] w fun e w' => e = nought 51 ∧ Below w.heap.size w w' := by
  by_cases h1 : 4 ≤ n
  · have d1 : decide ((n : Int) < 4) = false := decide_eq_false (by omega)
    have d2 : decide ((256 : Int) < n) = true := decide_eq_true (by omega)
    clear h h1
    go_enter Try.func21, Try.ntmps21
    go_wp2
    refine bodyPost_ret (v := .tuple #[.int .u8 0, .slice none 0 0, .int .i64 51]) (by simp [results, Try.results21, go_sem]) rfl ⟨rfl, Below.refl _ w⟩
  · have d1 : decide ((n : Int) < 4) = true := decide_eq_true (by omega)
    clear h h1
    go_enter Try.func21, Try.ntmps21
    go_wp2
    refine bodyPost_ret (v := .tuple #[.int .u8 0, .slice none 0 0, .int .i64 51]) (by simp [results, Try.results21, go_sem]) rfl ⟨rfl, Below.refl _ w⟩
theorem kept_cellW {W w2 : World} {b i : Nat} {v : Value} (k : Below W.heap.size W w2) (h : b < W.heap.size) (hW : W.cell? ⟨b, i, none⟩ = some v) : w2.cell? ⟨b, i, none⟩ = some v := (k.cell (p := ⟨b, i, none⟩) h).trans hW
theorem sub_sl0 {W : World} {b off : Nat} {bs : List Nat} (h : Lies W b off (u8s bs)) (m c : Nat) (hi : m ≤ bs.length) (hc : m ≤ c) : Sl W (.slice (some ⟨b, off, none⟩) m c) (u8s (bs.take m)) := by
  have := sub_sl h 0 m c (by omega) hc
  simpa using this
set_option maxHeartbeats 1600000 in
theorem open_50 (b off n q cap : Nat) (bs : List Nat) (w : World) (h4 : 4 ≤ n) (h6 : n ≤ 256) (hq : q = n - 2) (hcap : n ≤ cap) (hn : n = bs.length) (hB : Bytes bs) (hc : Lies w b off (u8s bs)) (hs : bs.drop q ≠ s2 (s16 (bs.take q))) :
    Calls Try.prog 21 #[.slice (some ⟨b, off, none⟩) n cap] w fun e w' => e = nought 50 ∧ Below w.heap.size w w' := by
  have d1 : decide ((n : Int) < 4) = false := decide_eq_false (by omega)
  have d2 : decide ((256 : Int) < n) = false := decide_eq_false (by omega)
  have e1 : (n : Int) - 2 = (q : Int) := by omega
  have e2 : IntKind.i64.wrap ((n : Int) - 2) = (q : Int) := by rw [IntKind.wrap_i64]; omega
  have l1 : (q : Int) ≤ (cap : Int) := by omega
  have l2 : (q : Int) ≤ (n : Int) := by omega
  have l3 : ¬ (cap = q) := by omega
  have hbd : Sl w (.slice (some ⟨b, off, none⟩) q cap) (u8s (bs.take q)) := sub_sl0 hc q cap (by omega) (by omega)
  have htl : Sl w (.slice (some ⟨b, off + q, none⟩) (n - q) (cap - q)) (u8s (bs.drop q)) := by
    have := sub_sl hc q (n - q) (cap - q) (by omega) (by omega)
    rwa [List.take_of_length_le (by rw [List.length_drop]; omega)] at this
  have HBD := hid_as hbd
  have HTL := hid_as htl
  have HB := hid_as hB
  have HS := hid_as hs
  have HN := hid_as hn
  have HQ := hid_as hq
  have X1 := hid_as (fun (d : Nat) => sum_c (HBD.out.drewN d) (HB.out.take q) (by rw [List.length_take]; have := HN.out; omega))
  clear hbd htl hB hs hn hq hc
  go_enter Try.func21, Try.ntmps21
  go_wp2_with fail
  go_quiet (fail)
  go_wp2_with fail
  refine (X1.out _).mono ?_
  rintro e w1 ⟨v1, rfl, own1, k1⟩
  have K1 : Hid (Below w.heap.size w w1) := ⟨k1.os, k1.tape, k1.output, k1.size, k1.block⟩
  have X2 := hid_as (equal_c (HTL.out.below K1.out) (own_sl own1) (HB.out.drop q) (s2_bytes (s16_lt (HB.out.take q))))
  rw [decide_eq_false HS.out] at X2
  clear own1 k1 X1
  go_wp2_with fail
  refine X2.out.mono ?_
  rintro e w2 ⟨rfl, hw⟩
  subst w2
  go_wp2
  refine bodyPost_ret (v := .tuple #[.int .u8 0, .slice none 0 0, .int .i64 50]) (by simp [results, Try.results21, go_sem]) rfl ⟨rfl, K1.out⟩
set_option maxHeartbeats 1600000 in
theorem open_yes (b off n q cap : Nat) (bs : List Nat) (w : World) (h4 : 4 ≤ n) (h6 : n ≤ 256) (hq : q = n - 2) (hcap : n ≤ cap) (hn : n = bs.length) (hB : Bytes bs) (hc : Lies w b off (u8s bs)) (hs : bs.drop q = s2 (s16 (bs.take q))) :
    Calls Try.prog 21 #[.slice (some ⟨b, off, none⟩) n cap] w fun e w' => (∃ pv, e = .returned (.tuple #[.int .u8 (bs.getD 0 0 : Nat), pv, .int .i64 0]) ∧ w'.ownsRow w.heap.size 5 1 pv ((bs.take q).drop 1).length (u8s ((bs.take q).drop 1))) ∧ Below w.heap.size w w' := by
  have d1 : decide ((n : Int) < 4) = false := decide_eq_false (by omega)
  have d2 : decide ((256 : Int) < n) = false := decide_eq_false (by omega)
  have e1 : (n : Int) - 2 = (q : Int) := by omega
  have e2 : IntKind.i64.wrap ((n : Int) - 2) = (q : Int) := by rw [IntKind.wrap_i64]; omega
  have l1 : (q : Int) ≤ (cap : Int) := by omega
  have l2 : (q : Int) ≤ (n : Int) := by omega
  have l3 : ¬ (cap = q) := by omega
  have hbd : Sl w (.slice (some ⟨b, off, none⟩) q cap) (u8s (bs.take q)) := sub_sl0 hc q cap (by omega) (by omega)
  have htl : Sl w (.slice (some ⟨b, off + q, none⟩) (n - q) (cap - q)) (u8s (bs.drop q)) := by
    have := sub_sl hc q (n - q) (cap - q) (by omega) (by omega)
    rwa [List.take_of_length_le (by rw [List.length_drop]; omega)] at this
  have hpd : Sl w (.slice (some ⟨b, off + 1, none⟩) (q - 1) (cap - 1)) (u8s ((bs.take q).drop 1)) := by
    have := sub_sl hc 1 (q - 1) (cap - 1) (by omega) (by omega)
    rwa [show (bs.drop 1).take (q - 1) = (bs.take q).drop 1 by rw [List.drop_take]] at this
  have k0 : w.cell? ⟨b, off, none⟩ = some (.int .u8 (bs.getD 0 0 : Nat)) := hc.u8 0 (by omega)
  have hbw : b < w.heap.size := lt_of_cell k0
  have HBD := hid_as hbd
  have HTL := hid_as htl
  have HPD := hid_as hpd
  have HB := hid_as hB
  have HS := hid_as hs
  have HN := hid_as hn
  have HQ := hid_as hq
  have X1 := hid_as (fun (d : Nat) => sum_c (HBD.out.drewN d) (HB.out.take q) (by rw [List.length_take]; have := HN.out; omega))
  have hz : ((bs.take q).drop 1).length ≤ 1000000 := by rw [List.length_drop, List.length_take]; omega
  clear hbd htl hpd hB hs hn hq hc
  go_enter Try.func21, Try.ntmps21
  go_wp2_with fail
  go_quiet (fail)
  go_wp2_with fail
  refine (X1.out _).mono ?_
  rintro e w1 ⟨v1, rfl, own1, k1⟩
  have K1 : Hid (Below w.heap.size w w1) := ⟨k1.os, k1.tape, k1.output, k1.size, k1.block⟩
  have X2 := hid_as (equal_c (HTL.out.below K1.out) (own_sl own1) (HB.out.drop q) (s2_bytes (s16_lt (HB.out.take q))))
  rw [decide_eq_true HS.out] at X2
  clear own1 k1 X1
  go_wp2_with fail
  refine X2.out.mono ?_
  rintro e w2 ⟨rfl, hw⟩
  subst w2
  have CL := hid_as (fun (W : World) (h : Below w.heap.size w W) => clone_c (HPD.out.below h) hz)
  have cY : w1.cell? ⟨b, off, none⟩ = some (.int .u8 (bs.getD 0 0 : Nat)) := (K1.out.cell (p := ⟨b, off, none⟩) hbw).trans k0
  have hbw1 : b < w1.heap.size := Nat.lt_of_lt_of_le hbw K1.out.size
  have hszY : w.heap.size ≤ w1.heap.size := K1.out.size
  clear X2 HTL HBD k0
  have q0 : (0 : Int) < (q : Int) := by omega
  have q1 : (1 : Int) ≤ (q : Int) := by omega
  have q3 : 0 < q := by omega
  have q2 : ¬ (cap = 1) := by omega
  go_wp2_with fail
  go_region_held3 (fun w' => w'.cell? ⟨b, off, none⟩ = some (.int .u8 (bs.getD 0 0 : Nat))) (first | exact cY | exact cZ) (first
    | (go_at_call 24; (with_reducible refine (CL.out _ ?_).mono ?_); (first | exact K1.out.drew | exact K1.out | exact below_drewN K1.out _); rintro e w2 ⟨pv, rfl, own2, k2⟩; have cZ : w2.cell? ⟨b, off, none⟩ = some (.int .u8 (bs.getD 0 0 : Nat)) := kept_cellW k2 hbw1 cY; have KZ : Hid (Below w.heap.size w w2) := below_and K1.out.drew k2; have OZ := hid_as (own_base own2 hszY); clear own2 k2))
  all_goals
    go_wp2
    refine bodyPost_ret (v := .tuple #[.int .u8 (bs.getD 0 0 : Nat), pv, .int .i64 0]) (by simp [results, Try.results21, go_sem]) rfl ⟨⟨_, rfl, OZ.out⟩, KZ.out⟩
end Go.Proofs.Ytgmbboimndepnaa
