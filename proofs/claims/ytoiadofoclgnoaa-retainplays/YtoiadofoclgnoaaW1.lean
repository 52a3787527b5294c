/- The walks: put, get, sum, ends (stage 9). -/
import Derived.Test.YtoiadofoclgnoaaM2
namespace Go.Proofs.Ytoiadofoclgnoaa
open Go.RowKit
open Pdu
def PutR (g a x k : Nat) (l : List Nat) (w wr : World) : Prop := Row wr g (splice l a ((be8 x).take k)) ∧ Turn g w wr
theorem put_next {g a x k : Nat} {y : Int} {l : List Nat} {w wr : World} (h : PutR g a x k l w wr) (hk : k < 8) (ha : a + 8 ≤ l.length) (hy : y = ((be8 x).getD k 0 : Nat)) : PutR g a x (k + 1) l w (wr.setCell ⟨g, a + k, none⟩ (.int .u8 y)) := by
  subst hy
  have hl : ((be8 x).take k).length = k := by rw [List.length_take, be8_len]; omega
  refine ⟨?_, h.2.set _ _⟩
  have := h.1.set (a + k) ((be8 x).getD k 0)
  rw [take_snoc (by rw [be8_len]; exact hk), ← splice_snoc (by rw [hl]; omega), hl]
  exact this
set_option maxHeartbeats 1600000 in
theorem put_c {w : World} {g a x n c : Nat} {l : List Nat} (h : Row w g l) (hn : n = l.length) (ha : a + 8 ≤ l.length) (hm : l.length ≤ 1000000) (hx : x < 18446744073709551616) :
    Calls Try.prog 44 #[.slice (some ⟨g, 0, none⟩) n c, .int .i64 (a : Int), .int .u64 (x : Int)] w fun e w' => e = .returned (.tuple #[]) ∧ Row w' g (splice l a (be8 x)) ∧ Turn g w w' := by
  have H : Hid (PutR g a x 0 l w w) := ⟨by rw [List.take_zero, splice_nil]; exact h, Turn.refl g w⟩
  have hn1 : a + 8 ≤ n := by omega
  have hn2 : n ≤ 1000000 := by omega
  have HN := hid_as hn
  have HA := hid_as ha
  clear hn h hm ha
  go_enter Try.func44, Try.ntmps44
  go_wp2
  go_loopw [7] (fun i wr => ∃ k : Nat, k ≤ 8 ∧ i = .int .i64 k ∧ PutR g a x k l w wr) (fun i _ => 8 - (intOf i).toNat)
  case atStart => exact ⟨0, by omega, rfl, H.out⟩
  case round =>
    obtain ⟨k, hk, rfl, HP⟩ := hrel
    have P := hid_as HP
    clear HP H
    by_cases hk8 : k < 8
    · have hlen : (splice l a ((be8 x).take k)).length = n := by rw [splice_len (by rw [List.length_take, be8_len]; have := HA.out; omega), ← HN.out]
      obtain ⟨z, hz⟩ : ∃ z : Nat, wr.cell? ⟨g, a + k, none⟩ = some (.int .u8 (z : Int)) := ⟨_, P.out.1.cell (by rw [hlen]; omega)⟩
      have hf : wr.frozen? ⟨g, a + k, none⟩ = false := frozen_row P.out.1
      have HR := fun (y : Int) (hy : y = ((be8 x).getD k 0 : Nat)) => hid_as (put_next P.out hk8 HA.out hy)
      clear hlen
      have hc : k = 0 ∨ k = 1 ∨ k = 2 ∨ k = 3 ∨ k = 4 ∨ k = 5 ∨ k = 6 ∨ k = 7 := by omega
      rcases hc with rfl | rfl | rfl | rfl | rfl | rfl | rfl | rfl
      all_goals
        (try simp only [Nat.add_zero] at hz hf HR)
        go_wp2
        go_roundw
        case rel => exact ⟨_, by decide, rfl, (HR _ (by simp [be8]; try omega)).out⟩
        case measure => simp [intOf]
    · obtain rfl : k = 8 := by omega
      go_wp2
      go_end0
      refine ⟨rfl, ?_, P.out.2⟩
      have := P.out.1
      rwa [List.take_of_length_le (by rw [be8_len]; exact Nat.le_refl _)] at this
def GetR (a k : Nat) (l : List Nat) (v : Value) : Prop := v = .int .u64 (fold8 ((l.drop a).take k) : Nat)
set_option maxHeartbeats 1600000 in
theorem get_c {w : World} {g a n c : Nat} {l : List Nat} (h : Lies w g 0 (u8s l)) (hn : n = l.length) (ha : a + 8 ≤ l.length) (hm : l.length ≤ 1000000) (hb : Bytes l) :
    Calls Try.prog 52 #[.slice (some ⟨g, 0, none⟩) n c, .int .i64 (a : Int)] w fun e w' => e = .returned (.int .u64 (gv l a : Nat)) ∧ w' = w := by
  have hn1 : a + 8 ≤ n := by omega
  have hn2 : n ≤ 1000000 := by omega
  have HN := hid_as hn
  have H := hid_as h
  have HB := hid_as hb
  clear hn h hm ha hb
  go_enter Try.func52, Try.ntmps52
  go_wp2
  go_loop [5, 7] (fun v i => ∃ k : Nat, k ≤ 8 ∧ i = .int .i64 k ∧ v = .int .u64 (fold8 ((l.drop a).take k) : Nat)) (fun _ i => 8 - (intOf i).toNat)
  case atStart => exact ⟨0, by omega, rfl, rfl⟩
  case round =>
    obtain ⟨k, hk, rfl, rfl⟩ := hrel
    by_cases hk8 : k < 8
    · have hc := H.out.u8 (a + k) (by have := HN.out; omega)
      rw [Nat.zero_add] at hc
      have hy : l.getD (a + k) 0 < 256 := HB.out.at _
      have hxx : fold8 ((l.drop a).take k) < 72057594037927936 := by
        have h1 := fold8_lt ((HB.out.drop a).take k)
        have h2 : 256 ^ ((l.drop a).take k).length ≤ 256 ^ 7 := Nat.pow_le_pow_right (by decide) (Nat.le_trans (List.length_take_le ..) (by omega))
        have h4 : (256 : Nat) ^ 7 = 72057594037927936 := by decide
        omega
      have hs : fold8 ((l.drop a).take (k + 1)) = fold8 ((l.drop a).take k) * 256 + l.getD (a + k) 0 := by
        rw [take_snoc (by rw [List.length_drop]; have := HN.out; omega), fold8_snoc, getD_drop]
      have HS := hid_as hs
      have ho := or_64 hxx hy
      clear hs
      generalize fold8 ((l.drop a).take k) = f at *
      generalize l.getD (a + k) 0 = y at *
      have hk2 : (k : Int) < 8 := by omega
      go_wp2
      go_round
      case rel => exact ⟨k + 1, by omega, by go_num, int_is (by rw [HS.out]; first | exact ho | rfl)⟩
      case measure => simp [intOf]; omega
    · obtain rfl : k = 8 := by omega
      go_wp2
      go_ret
      exact ⟨rfl, rfl⟩
set_option maxHeartbeats 400000 in
theorem sumAt_c (n : Nat) (w : World) (h1 : 10 ≤ n) (h2 : n ≤ 1000000) : Calls Try.prog 45 #[.int .i64 (n : Int)] w fun e w' => e = .returned (.int .i64 ((n - 10 : Nat) : Int)) ∧ w' = w := by
  go_enter Try.func45, Try.ntmps45
  go_wp2
  go_ret
  exact ⟨congrArg Ending.returned (int_is (by omega)), rfl⟩
theorem tdiv8 (n : Nat) (h1 : 36 ≤ n) : ((n : Int) - 36).tdiv 8 = (((n - 36) / 8 : Nat) : Int) := by
  rw [Int.tdiv_eq_ediv_of_nonneg (by omega)]
  omega
set_option maxHeartbeats 400000 in
theorem fits_c (n : Nat) (w : World) (h1 : 36 ≤ n) (h2 : n ≤ 1000000) : Calls Try.prog 27 #[.int .i64 (n : Int)] w fun e w' => e = .returned (.int .i64 (((n - 36) / 8 : Nat) : Int)) ∧ w' = w := by
  go_enter Try.func27, Try.ntmps27
  go_wp2
  go_ret
  exact ⟨congrArg Ending.returned (int_is (by omega)), rfl⟩
/-- The sum that stands in a block. -/
def bsum (l : List Nat) : Nat := s32 ((l.drop 2).take (l.length - 12))
theorem bsum_lt {l : List Nat} (h : Bytes l) : bsum l < 4294967296 := s32_lt ((h.drop 2).take _)
set_option maxHeartbeats 800000 in
theorem sum_c {w : World} {g n c : Nat} {l : List Nat} (h : Lies w g 0 (u8s l)) (hn : n = l.length) (hc : n ≤ c) (h64 : 64 ≤ n) (hm : n ≤ 1000000) (hb : Bytes l) :
    Calls Try.prog 46 #[.slice (some ⟨g, 0, none⟩) n c] w fun e w' => e = .returned (.int .u64 (bsum l : Nat)) ∧ w' = w := by
  have SA := hid_as (sumAt_c n w (by omega) hm)
  have SU : Hid (Calls Try.prog 53 #[.slice (some ⟨g, 2, none⟩) (n - 10 - 2) (c - 2)] w fun e w' => e = .returned (.int .u32 (bsum l : Nat)) ∧ w' = w) := by
    refine sum32_c ?_ ((hb.drop 2).take _) (by omega) ?_
    · rw [List.length_take, List.length_drop]; omega
    · have := (sub_sl h 2 (n - 12) (c - 2) (by omega) (by omega))
      rw [hn] at this
      rcases this with ⟨h0, _⟩ | ⟨b, off, cap, e, _, hl⟩
      · have := congrArg List.length h0
        rw [u8s_len, List.length_take, List.length_drop] at this
        simp at this
        omega
      · simp only [Value.slice.injEq, Option.some.injEq, Addr.mk.injEq] at e
        obtain ⟨⟨e1, e2, _⟩, _⟩ := e
        subst e1 e2
        simpa using hl
  have hbl := bsum_lt hb
  have h3 : ((n - 10 : Nat) : Int) ≤ (c : Int) := by omega
  have h4 : (2 : Int) ≤ ((n - 10 : Nat) : Int) := by omega
  clear h hb hn
  generalize bsum l = z at *
  go_enter Try.func46, Try.ntmps46
  go_wp2_with fail
  refine SA.out.mono ?_
  rintro e w1 ⟨rfl, hw⟩
  subst w1
  go_wp2_with fail
  refine SU.out.mono ?_
  rintro e w1 ⟨rfl, hw⟩
  subst w1
  go_wp2
  go_ret
  exact ⟨rfl, rfl⟩
end Go.Proofs.Ytoiadofoclgnoaa
