/- The walk of LineLong. -/
import Derived.Test.YtgmbboimndepnaaL8
import Derived.Laws.OwnMore
namespace Go.Proofs.Ytgmbboimndepnaa
open Go.RowKit
open Pdu
theorem zeros_sl (W : World) (N : Nat) : Sl (W.alloc (.cells (madeCells #[.int .u8 0] N) 5)) (.slice (some ⟨W.heap.size, 0, none⟩) N N) (u8s (List.replicate N 0)) :=
  lit_bytes W (List.replicate N 0) _ N (by rw [toList_madeCells_one]; simp [u8s]) (by simp)
set_option maxRecDepth 100000 in
set_option maxHeartbeats 1600000 in
theorem long_no (x : Value) (k : Value) (ao : Option Addr) (n c : Nat) (w : World) (hf : ¬ (1 ≤ n ∧ n ≤ 253)) : Calls Try.prog 5 #[x, k, .slice ao n c] w fun e w' => e = .returned (.bool true) ∧ Below w.heap.size w w' := by
  have X := hid_as (known_law w)
  by_cases h1 : 1 ≤ n
  · have d1 : decide ((n : Int) < 1) = false := decide_eq_false (by omega)
    have d2 : decide ((253 : Int) < n) = true := decide_eq_true (by omega)
    clear hf h1
    go_enter Try.func5, Try.ntmps5
    go_wp2_with fail
    refine X.out.mono ?_
    rintro e w1 ⟨rfl, k1⟩
    have K1 := hid_as k1
    clear k1
    go_wp2
    go_ret
    exact ⟨rfl, K1.out⟩
  · have d1 : decide ((n : Int) < 1) = true := decide_eq_true (by omega)
    clear hf h1
    go_enter Try.func5, Try.ntmps5
    go_wp2_with fail
    refine X.out.mono ?_
    rintro e w1 ⟨rfl, k1⟩
    have K1 := hid_as k1
    clear k1
    go_wp2
    go_ret
    exact ⟨rfl, K1.out⟩
set_option maxRecDepth 100000 in
set_option maxHeartbeats 8000000 in
theorem long_w (u : Nat) (k : Int) (ao : Option Addr) (n c : Nat) (ps : List Nat) (w : World) (hu : u < 256) (hs : Sl w (.slice ao n c) (u8s ps)) (hB : Bytes ps) (hn : n = ps.length) (hf : 1 ≤ n ∧ n ≤ 253) :
    Calls Try.prog 5 #[.int .u8 (u : Int), .int .i64 k, .slice ao n c] w fun e w' => e = .returned (.bool true) ∧ Below w.heap.size w w' := by
  obtain ⟨i0, hi0, hz0, hz1, hz2⟩ := info_parts Try.infoByte
  have hmk : ∀ (N : Nat) (W : World), N ≤ 10000 → (Instr.makeSlice 24 (.int .i64 (N : Int)) (.int .i64 (N : Int))).run Try.prog W = .ok (.slice (some ⟨W.heap.size, 0, none⟩) N N) (W.alloc (.cells (madeCells (Value.cells (.int .u8 0)) (N * 1)) 5)) := fun N W hN => by
    have h := run_make (P := Try.prog) W 24 5 i0 (.int .u8 0) Try.underlying24 hi0 hz0 .i64 .i64 N N (by omega) (by omega) (by rw [hz2]; omega) (by omega)
    rw [hz1] at h
    simpa using h
  have HM := hid_as hmk
  have X := hid_as (known_law w)
  have HS := hid_as hs
  have HF : Hid (1 ≤ ps.length ∧ ps.length ≤ 253) := by rw [← hn]; exact hf
  have HN := hid_as hn
  have d1 : decide ((n : Int) < 1) = false := decide_eq_false (by omega)
  have d2 : decide ((253 : Int) < n) = false := decide_eq_false (by omega)
  have PL := hid_as (fun (W : World) => place_c k 3000 (by decide) (by decide) W)
  clear hs hn hmk hf
  go_enter Try.func5, Try.ntmps5
  go_wp2_with fail
  refine X.out.mono ?_
  rintro e w1 ⟨rfl, k1⟩
  have K1 := hid_as k1
  clear k1 X
  go_wp2_with fail
  refine (PL.out w1).mono ?_
  rintro e wx ⟨⟨p, hp, rfl⟩, hw⟩
  subst wx
  obtain ⟨N, hN⟩ : ∃ N : Nat, N = 257 + p := ⟨_, rfl⟩
  have e1 : (257 : Int) + (p : Int) = (N : Int) := by omega
  have N1 := hid_as (new_c u 1 1 w1 hu (Or.inr ⟨by decide, rfl⟩))
  have hN1 : 257 ≤ N := by omega
  have hN2 : N ≤ 10000 := by omega
  clear PL hN hp
  go_wp2_with fail
  refine N1.out.mono ?_
  rintro e w2 ⟨rfl, ln2, k2, sz2⟩
  have I2 := hid_as (li_start ln2 K1.out k2 sz2)
  have hm := HM.out N w2 hN2
  have Z := hid_as (zeros_sl w2 N)
  have X2 := hid_as ((I2.out.new (.cells (madeCells #[.int .u8 0] N) 5)).feed Z.out (fun x hx => by rw [List.eq_of_mem_replicate hx]; decide) (by rw [List.length_replicate]; omega))
  have HH : Hid ((([] : List Nat) ++ List.replicate N 0).take 257 = List.replicate 257 0) := by
    show _ = _
    rw [List.nil_append, List.take_replicate, Nat.min_eq_left hN1]
  rw [HH.out] at X2
  clear ln2 k2 sz2 N1 HH
  go_wp2_with fail
  refine X2.out.mono ?_
  rintro e w3 ⟨rfl, _, i3⟩
  have X3 := hid_as i3.left
  rw [List.length_replicate] at X3
  have X4 := hid_as (i3.tick (by decide) (by decide))
  have q1 : tkT 0 (List.replicate 257 0) = 1 := rfl
  have q2 : tkH 1 0 (List.replicate 257 0) = [] := rfl
  have q3 : tkF u 1 0 (List.replicate 257 0) [] = [] := by
    unfold tkF
    rw [if_neg (by decide), if_neg (by decide), tickW_long (by rw [List.length_replicate]; decide)]
  rw [q1, q2, q3] at X4
  clear i3 X2 I2 Z hm q1 q2 q3
  go_wp2_with fail
  refine X3.out.mono ?_
  rintro e wx ⟨rfl, hw⟩
  subst wx
  go_wp2_with fail
  refine X4.out.mono ?_
  rintro e w4 ⟨rfl, _, B4, i4, _⟩
  have X5 := hid_as i4.left
  have X6 := hid_as i4.waits
  have I4 := hid_as i4
  have R := hid_as (rtu_yes u n c ps ao w4 HN.out (by rw [HN.out]; exact HF.out) hu hB (HS.out.below i4.k))
  clear i4 X3 X4
  go_wp2_with fail
  refine X5.out.mono ?_
  rintro e wx ⟨rfl, hw⟩
  subst wx
  go_wp2_with fail
  refine X6.out.mono ?_
  rintro e wx ⟨rfl, hw⟩
  subst wx
  clear X5 X6
  go_wp2_with fail
  refine R.out.mono ?_
  rintro e w5 ⟨v5, rfl, own5, k5⟩
  have I5 := hid_as (I4.out.below k5)
  have X7 := hid_as (I5.out.feed (own_sl own5) (rt_bytes hu hB) (by rw [rt_length]; omega))
  have HH : Hid ((([] : List Nat) ++ rt u ps).take 257 = rt u ps) := by
    show _ = _
    rw [List.nil_append, List.take_of_length_le]
    have := HF.out
    rw [rt_length]
    omega
  rw [HH.out] at X7
  clear own5 k5 R I4 HH
  go_wp2_with fail
  refine X7.out.mono ?_
  rintro e w6 ⟨rfl, _, i6⟩
  have X8 := hid_as (i6.tick (by decide) (by decide))
  have q2 : tkH 1 0 (rt u ps) = [] := rfl
  have q3 : tkF u 1 0 (rt u ps) [] = [⟨u, ps⟩] := by
    unfold tkF
    rw [if_neg (fun h => by have := congrArg List.length h; rw [rt_length] at this; cases this), if_neg (by decide), tickW_rt HF.out]
  rw [q2, q3] at X8
  clear i6 X7 I5 q2 q3
  go_wp2_with fail
  refine X8.out.mono ?_
  rintro e w7 ⟨rfl, _, B7, i7, _⟩
  have X9 := hid_as i7.nxt
  clear i7 X8
  go_wp2_with fail
  refine X9.out.mono ?_
  rintro e w8 ⟨po, pc, rfl, _, s8, i8⟩
  have I8 := hid_as i8
  have Y := hid_as (bytes_t s8 (HS.out.below i8.k) hB)
  clear s8 i8 X9
  go_wp2_with fail
  refine Y.out.mono ?_
  rintro e wx ⟨rfl, hw⟩
  subst wx
  go_wp2
  go_ret
  exact ⟨rfl, I8.out.k⟩
theorem long_law {u : Nat} {k : Int} {v : Value} {ps : List Nat} {w : World} (hu : u < 256) (hs : Sl w v (u8s ps)) (hB : Bytes ps) : Calls Try.prog 5 #[.int .u8 (u : Int), .int .i64 k, v] w fun e w' => e = .returned (.bool true) ∧ Below w.heap.size w w' := by
  obtain ⟨ao, c, rfl⟩ := hs.shape
  rw [u8s_len] at hs ⊢
  by_cases hf : 1 ≤ ps.length ∧ ps.length ≤ 253
  · exact long_w u k ao _ c ps w hu hs hB rfl hf
  · exact long_no _ _ ao _ c w hf
end Go.Proofs.Ytgmbboimndepnaa
