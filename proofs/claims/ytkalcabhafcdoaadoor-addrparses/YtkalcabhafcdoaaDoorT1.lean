/- Numbers below a hundred as texts: the library's Itoa, the reference's dec (stage 10). -/
import Derived.Test.YtkalcabhafcdoaaDoorA2
import Derived.Lib.ItoaWalk
import Derived.Lib.Hide
namespace Go.Proofs.YtkalcabhafcdoaaDoor
open Go.RowKit
open Adr
namespace Adr
def dgs (n : Nat) : List UInt8 := [UInt8.ofNat (48 + n / 10), UInt8.ofNat (48 + n % 10)]
/-- A number below a hundred in digits. -/
def dd (n : Nat) : List UInt8 := if n < 10 then [UInt8.ofNat (48 + n)] else dgs n
def sm : List UInt8 := (List.range 100).flatMap dgs
theorem sm_at : ∀ i, i < 100 → (sm.drop (i * 2)).take (i * 2 + 2 - i * 2) = dgs i := by decide +kernel
theorem dd_one {n : Nat} (h : n < 10) : dd n = [UInt8.ofNat (48 + n)] := by unfold dd; rw [if_pos h]
theorem dd_two {n : Nat} (h : ¬ n < 10) : dd n = dgs n := by unfold dd; rw [if_neg h]
def tens : List UInt8 := [48, 49, 50, 51, 52, 53, 54, 55, 56, 57]
theorem tens_at : ∀ i, i < 10 → (tens.drop i).take (i + 1 - i) = [UInt8.ofNat (48 + i)] := by decide +kernel
end Adr
theorem sm_cut {B : ByteArray} (h : B.data.toList = sm) {i : Nat} (hi : i < 100) : B.extract (i * 2) (i * 2 + 2) = tx (dgs i) := by rw [tx_extract, h, sm_at i hi]
theorem ten_cut {B : ByteArray} {l : List UInt8} (h : B.data.toList = tens ++ l) {i : Nat} (hi : i < 10) : B.extract i (i + 1) = tx (dd i) := by
  rw [tx_extract, h, dd_one hi, List.drop_append_of_le_length (by show i ≤ 10; omega), List.take_append_of_le_length (by rw [List.length_drop]; show i + 1 - i ≤ 10 - i; omega), tens_at i hi]
theorem ret_str {a b : ByteArray} (h : a = b) : Ending.returned (.string a) = .returned (.string b) := by rw [h]
theorem sm_size {B : ByteArray} (h : B.data.toList = sm) : B.size = 200 := by rw [Lib.size_eq, h]; decide +kernel
set_option maxHeartbeats 800000 in
set_option maxRecDepth 100000 in
theorem small_two (i : Nat) (h : ¬ i < 10) (hi : i < 100) (w : World) : Calls Tryd.prog 35 #[.int .i64 i] w fun e w' => e = .returned (.string (tx (dgs i))) ∧ w' = w := by
  have h1 : ¬ (i : Int) < 10 := by omega
  go_enter Tryd.func35, Tryd.ntmps35
  go_name_bytes_deep 45 B hB
  have hB2 : B.data.toList = sm := by rw [← hB]; decide +kernel
  clear hB
  have hz := sm_size hB2
  have hsl : ∀ w, (Instr.slice 9 (.string B) (some (.int .i64 ((i : Int) * 2))) (some (.int .i64 ((i : Int) * 2 + 2))) none).run Tryd.prog w = .ok (.string (B.extract (i * 2) (i * 2 + 2))) w := fun w => by
    rw [run_slice_string w 9 B .i64 .i64 _ _ Tryd.underlying9 (by omega) (by omega) (by rw [hz]; omega), show ((i : Int) * 2).toNat = i * 2 by omega, show ((i : Int) * 2 + 2).toNat = i * 2 + 2 by omega]
  clear hz
  have hB3 := hid_as hB2
  clear hB2
  go_wp2
  go_ret
  refine ⟨?_, rfl⟩
  show Ending.returned (Value.string (B.extract (i * 2) (i * 2 + 2))) = _
  rw [sm_cut hB3.out hi]
set_option maxHeartbeats 800000 in
set_option maxRecDepth 100000 in
theorem small_c (i : Nat) (hi : i < 100) (w : World) : Calls Tryd.prog 35 #[.int .i64 i] w fun e w' => e = .returned (.string (tx (dd i))) ∧ w' = w := by
  by_cases h : i < 10
  · have h1 : (i : Int) < 10 := by omega
    go_enter Tryd.func35, Tryd.ntmps35
    go_name_bytes_deep 45 B hB
    clear hB
    go_wp2
    go_ret
    refine ⟨ret_str ?_, rfl⟩
    exact ten_cut (l := [97, 98, 99, 100, 101, 102, 103, 104, 105, 106, 107, 108, 109, 110, 111, 112, 113, 114, 115, 116, 117, 118, 119, 120, 121, 122]) (by rfl) h
  · rw [dd_two h]; exact small_two i h hi w
/-- Itoa, of a number below a hundred. -/
theorem itoa_c (i : Nat) (hi : i < 100) (w : World) : Calls Tryd.prog 24 #[.int .i64 i] w fun e w' => e = .returned (.string (tx (dd i))) ∧ w' = w := by
  have h0 : (0 : Int) ≤ i := by omega
  have h1 : (i : Int) < 100 := by omega
  go_enter Tryd.func24, Tryd.ntmps24
  go_wp2_with (first | (go_at_call 35; refine (small_c i hi _).mono ?_; rintro e w' ⟨rfl, hw⟩; subst w') | go_in)
  go_ret
  exact ⟨rfl, rfl⟩
theorem dec_one (i : Nat) (hi : i < 10) (w : World) : Calls Tryd.prog 25 #[.int .i64 i] w fun e w' => e = .returned (.string (tx (dd i))) ∧ w' = w := by
  have h1 : (i : Int) < 10 := by omega
  go_enter Tryd.func25, Tryd.ntmps25
  go_wp2
  go_ret
  refine ⟨ret_str ?_, rfl⟩
  exact ten_cut (l := []) (by rfl) hi
theorem dec_z (z : Int) (h0 : 0 ≤ z) (h1 : z < 10) (w : World) : Calls Tryd.prog 25 #[.int .i64 z] w fun e w' => e = .returned (.string (tx (dd z.toNat))) ∧ w' = w := by
  obtain ⟨i, rfl⟩ : ∃ i : Nat, z = i := ⟨z.toNat, by omega⟩
  exact dec_one i (by omega) w
theorem dd_size (n : Nat) : (tx (dd n)).size ≤ 2 := by
  rw [tx_size]
  unfold dd
  split <;> simp [dgs]
theorem tx_app (a b : List UInt8) : tx a ++ tx b = tx (a ++ b) := by simp [tx, ByteArray.mk_append_mk]
theorem dd_join {i : Nat} (h : ¬ i < 10) (hi : i < 100) : tx (dd (i / 10)) ++ tx (dd (i % 10)) = tx (dd i) := by
  rw [dd_one (n := i / 10) (by omega), dd_one (n := i % 10) (by omega), dd_two h]
  rfl
/-- The reference's dec, of a number below a hundred. -/
theorem dec_c (i : Nat) (hi : i < 100) (w : World) : Calls Tryd.prog 25 #[.int .i64 i] w fun e w' => e = .returned (.string (tx (dd i))) ∧ w' = w := by
  by_cases h : i < 10
  · exact dec_one i h w
  · have h1 : ¬ (i : Int) < 10 := by omega
    have D1 := hid_as (dec_z ((i : Int) / 10) (by omega) (by omega))
    have D2 := hid_as (dec_z ((i : Int) % 10) (by omega) (by omega))
    have J := hid_as (dd_join h hi)
    have hz : ¬ 9223372036854775807 < (tx (dd (i / 10))).size + (tx (dd (i % 10))).size := by have := dd_size (i / 10); have := dd_size (i % 10); omega
    go_enter Tryd.func25, Tryd.ntmps25
    go_wp2_with (go_at_call 25; (first | (with_reducible refine (D1.out _).mono ?_) | (with_reducible refine (D2.out _).mono ?_)); rintro e w' ⟨rfl, hw⟩; subst w')
    go_ret
    exact ⟨ret_str J.out, rfl⟩
/-- What a place's text is. -/
def txt (a n : Int) : List UInt8 := if hasI a n then (if btI a then (hed a.toNat).data.toList ++ dd (n / 8).toNat ++ [46] ++ dd (n % 8).toNat else (hed a.toNat).data.toList ++ dd n.toNat) else []
theorem txt_no {a n : Int} (h : hasI a n = false) : txt a n = [] := by unfold txt; rw [h]; rfl
theorem txt_bit {a n : Int} (h : hasI a n = true) (hb : btI a = true) : txt a n = (hed a.toNat).data.toList ++ dd (n / 8).toNat ++ [46] ++ dd (n % 8).toNat := by unfold txt; rw [if_pos h, if_pos hb]
theorem txt_reg {a n : Int} (h : hasI a n = true) (hb : btI a = false) : txt a n = (hed a.toNat).data.toList ++ dd n.toNat := by unfold txt; rw [if_pos h, hb]; rfl
end Go.Proofs.YtkalcabhafcdoaaDoor
