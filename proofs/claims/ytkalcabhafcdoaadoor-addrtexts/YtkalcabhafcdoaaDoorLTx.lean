/- The law of the places: one text and one number each, both of which lead back (stage 10). -/
import Derived.Test.YtkalcabhafcdoaaDoorM2
namespace Go.Proofs.YtkalcabhafcdoaaDoor
open Go.RowKit
open Adr
theorem coil_lt (a n : Int) : -1 ≤ coilI a n ∧ coilI a n ≤ 256 := by
  unfold coilI
  split
  · rename_i h
    obtain ⟨h0, h1, h2, _⟩ := hasI_yes h
    have := fst_le a.toNat
    omega
  · omega
theorem hplace_at (k m : Int) (v : Int) (hv : k % m = v) (h : 0 < m) (hm : m ≤ 128) (b0 : -9223372036854775808 ≤ k) (b1 : k ≤ 9223372036854775807) (w : World) : Calls Tryd.prog 17 #[.int .i64 k, .int .i64 m] w fun e w' => e = .returned (.int .i64 v) ∧ w' = w := by
  subst hv; exact hplace_c k m h hm b0 b1 w
theorem size_at (a v : Int) (h : szI a = v) (w : World) (hA : AreasAt w) : Calls Tryd.prog 11 #[.int .i64 a] w fun e w' => e = .returned (.int .i64 v) ∧ w' = w := by
  subst h; exact size_c a w hA
set_option maxHeartbeats 4000000 in
theorem texts_1 (area offset : Int) (n : Nat) (w : World) (hA : AreasAt w) (b0 : -9223372036854775808 ≤ area) (b1 : area ≤ 9223372036854775807) (c0 : -9223372036854775808 ≤ offset) (c1 : offset ≤ 9223372036854775807) (ha : area % 6 = 0) (hn : offset % 128 = n) : Calls Tryd.prog 4 #[.int .i64 area, .int .i64 offset] w fun e w' => e = .returned (.bool true) ∧ Below w.heap.size w w' := by
  have hlt : n < 128 := by omega
  have HT := hid_as (back_text 0 (by omega) n (by omega) (by show (n : Int) < 128; omega))
  have HN := hid_as (back_num 0 (by omega) n (by omega) (by show (n : Int) < 128; omega))
  have T := hid_as (fun w h => text_c area offset w h)
  have R := hid_as (fun w => rtext_c area offset w)
  have P1 := hid_as (fun w => hplace_at area 6 0 ha (by omega) (by omega) b0 b1 w)
  have P2 := hid_as (fun w => hplace_at offset 128 n hn (by omega) (by omega) c0 c1 w)
  have T2 := hid_as (fun w h => text_c 1 (n : Int) w h)
  have HP : Hid (∀ w, AreasAt w → Calls Tryd.prog 7 #[.string (tx (txt 1 (n : Int)))] w fun e w' => e = .returned (.tuple #[.int .i64 1, .int .i64 (n : Int), .int .i64 0]) ∧ Same w w') := hid_as (fun w h => parse_at (tx (txt 1 (n : Int))) 1 n 0 (by rw [tx_list]; exact HT.out) (by rw [tx_size]; have := txt_size 1 (n : Int); omega) w h)
  have HC := hid_as (fun w h => coil_c 1 (n : Int) w h)
  have HL : Hid (∀ w, AreasAt w → Calls Tryd.prog 18 #[.int .u8 2, .int .i64 (coilI 1 (n : Int))] w fun e w' => e = .returned (.tuple #[.int .i64 1, .int .i64 (n : Int)]) ∧ w' = w) := hid_as (fun w h => place_at 2 (coilI 1 (n : Int)) 1 (n : Int) HN.out (by have := coil_lt 1 (n : Int); omega) (by have := coil_lt 1 (n : Int); omega) w h)
  have K := Below.refl w.heap.size w
  clear ha hn HT HN
  go_enter Tryd.func4, Tryd.ntmps4
  go_wp2_with (first
    | (go_at_call 6; refine (known_c _ hA).mono ?_; rintro e w1 ⟨rfl, s1⟩; replace K := K.trans s1.below; clear s1)
    | (go_at_call 9; (first | (with_reducible refine (T.out _ (hA.below K)).mono ?_) | (with_reducible refine (T2.out _ (hA.below K)).mono ?_)); rintro e w1 ⟨rfl, s1⟩; replace K := K.trans (s1.below.mono K.size); clear s1)
    | (go_at_call 10; (with_reducible refine (R.out _).mono ?_); rintro e w1 ⟨rfl, s1⟩; replace K := K.trans (s1.mono K.size); clear s1)
    | (go_at_call 11; (first | (with_reducible refine (size_at 1 128 rfl _ (hA.below K)).mono ?_) | (with_reducible refine (size_c area _ (hA.below K)).mono ?_)); rintro e w' ⟨rfl, hw⟩; subst w')
    | (go_at_call 12; (with_reducible refine (rsize_c _ _).mono ?_); rintro e w' ⟨rfl, hw⟩; subst w')
    | (go_at_call 13; (with_reducible refine (bit_c _ _ (hA.below K)).mono ?_); rintro e w' ⟨rfl, hw⟩; subst w')
    | (go_at_call 14; (with_reducible refine (rbit_c _ _).mono ?_); rintro e w' ⟨rfl, hw⟩; subst w')
    | (go_at_call 15; (first | (with_reducible refine (HC.out _ ?_).mono ?_) | (with_reducible refine (coil_c area offset _ ?_).mono ?_)); (first | exact hA.below K | exact hA.below (K.alloc K.size _)); rintro e w' ⟨rfl, hw⟩; subst w')
    | (go_at_call 16; (with_reducible refine (rcoil_c _ _ _).mono ?_); rintro e w' ⟨rfl, hw⟩; subst w')
    | (go_at_call 17; (first | (with_reducible refine (P1.out _).mono ?_) | (with_reducible refine (P2.out _).mono ?_)); rintro e w' ⟨rfl, hw⟩; subst w')
    | (go_at_call 7; (with_reducible refine (HP.out _ (hA.below K)).mono ?_); rintro e w1 ⟨rfl, s1⟩; replace K := K.trans (s1.below.mono K.size); clear s1)
    | (go_at_call 18; (with_reducible refine (HL.out _ ?_).mono ?_); (first | exact hA.below K | exact hA.below (K.alloc K.size _)); rintro e w' ⟨rfl, hw⟩; subst w'))
  go_ret
  exact ⟨rfl, K.alloc K.size _⟩
set_option maxHeartbeats 4000000 in
theorem texts_2 (area offset : Int) (n : Nat) (w : World) (hA : AreasAt w) (b0 : -9223372036854775808 ≤ area) (b1 : area ≤ 9223372036854775807) (c0 : -9223372036854775808 ≤ offset) (c1 : offset ≤ 9223372036854775807) (ha : area % 6 = 1) (hn : offset % 128 = n) : Calls Tryd.prog 4 #[.int .i64 area, .int .i64 offset] w fun e w' => e = .returned (.bool true) ∧ Below w.heap.size w w' := by
  have hlt : n < 128 := by omega
  have HT := hid_as (back_text 1 (by omega) n (by omega) (by show (n : Int) < 128; omega))
  have HN := hid_as (back_num 1 (by omega) n (by omega) (by show (n : Int) < 128; omega))
  have T := hid_as (fun w h => text_c area offset w h)
  have R := hid_as (fun w => rtext_c area offset w)
  have P1 := hid_as (fun w => hplace_at area 6 1 ha (by omega) (by omega) b0 b1 w)
  have P2 := hid_as (fun w => hplace_at offset 128 n hn (by omega) (by omega) c0 c1 w)
  have T2 := hid_as (fun w h => text_c 2 (n : Int) w h)
  have HP : Hid (∀ w, AreasAt w → Calls Tryd.prog 7 #[.string (tx (txt 2 (n : Int)))] w fun e w' => e = .returned (.tuple #[.int .i64 2, .int .i64 (n : Int), .int .i64 0]) ∧ Same w w') := hid_as (fun w h => parse_at (tx (txt 2 (n : Int))) 2 n 0 (by rw [tx_list]; exact HT.out) (by rw [tx_size]; have := txt_size 2 (n : Int); omega) w h)
  have HC := hid_as (fun w h => coil_c 2 (n : Int) w h)
  have HL : Hid (∀ w, AreasAt w → Calls Tryd.prog 18 #[.int .u8 1, .int .i64 (coilI 2 (n : Int))] w fun e w' => e = .returned (.tuple #[.int .i64 2, .int .i64 (n : Int)]) ∧ w' = w) := hid_as (fun w h => place_at 1 (coilI 2 (n : Int)) 2 (n : Int) HN.out (by have := coil_lt 2 (n : Int); omega) (by have := coil_lt 2 (n : Int); omega) w h)
  have K := Below.refl w.heap.size w
  clear ha hn HT HN
  go_enter Tryd.func4, Tryd.ntmps4
  go_wp2_with (first
    | (go_at_call 6; refine (known_c _ hA).mono ?_; rintro e w1 ⟨rfl, s1⟩; replace K := K.trans s1.below; clear s1)
    | (go_at_call 9; (first | (with_reducible refine (T.out _ (hA.below K)).mono ?_) | (with_reducible refine (T2.out _ (hA.below K)).mono ?_)); rintro e w1 ⟨rfl, s1⟩; replace K := K.trans (s1.below.mono K.size); clear s1)
    | (go_at_call 10; (with_reducible refine (R.out _).mono ?_); rintro e w1 ⟨rfl, s1⟩; replace K := K.trans (s1.mono K.size); clear s1)
    | (go_at_call 11; (first | (with_reducible refine (size_at 2 128 rfl _ (hA.below K)).mono ?_) | (with_reducible refine (size_c area _ (hA.below K)).mono ?_)); rintro e w' ⟨rfl, hw⟩; subst w')
    | (go_at_call 12; (with_reducible refine (rsize_c _ _).mono ?_); rintro e w' ⟨rfl, hw⟩; subst w')
    | (go_at_call 13; (with_reducible refine (bit_c _ _ (hA.below K)).mono ?_); rintro e w' ⟨rfl, hw⟩; subst w')
    | (go_at_call 14; (with_reducible refine (rbit_c _ _).mono ?_); rintro e w' ⟨rfl, hw⟩; subst w')
    | (go_at_call 15; (first | (with_reducible refine (HC.out _ ?_).mono ?_) | (with_reducible refine (coil_c area offset _ ?_).mono ?_)); (first | exact hA.below K | exact hA.below (K.alloc K.size _)); rintro e w' ⟨rfl, hw⟩; subst w')
    | (go_at_call 16; (with_reducible refine (rcoil_c _ _ _).mono ?_); rintro e w' ⟨rfl, hw⟩; subst w')
    | (go_at_call 17; (first | (with_reducible refine (P1.out _).mono ?_) | (with_reducible refine (P2.out _).mono ?_)); rintro e w' ⟨rfl, hw⟩; subst w')
    | (go_at_call 7; (with_reducible refine (HP.out _ (hA.below K)).mono ?_); rintro e w1 ⟨rfl, s1⟩; replace K := K.trans (s1.below.mono K.size); clear s1)
    | (go_at_call 18; (with_reducible refine (HL.out _ ?_).mono ?_); (first | exact hA.below K | exact hA.below (K.alloc K.size _)); rintro e w' ⟨rfl, hw⟩; subst w'))
  go_ret
  exact ⟨rfl, K.alloc K.size _⟩
set_option maxHeartbeats 4000000 in
theorem texts_3 (area offset : Int) (n : Nat) (w : World) (hA : AreasAt w) (b0 : -9223372036854775808 ≤ area) (b1 : area ≤ 9223372036854775807) (c0 : -9223372036854775808 ≤ offset) (c1 : offset ≤ 9223372036854775807) (ha : area % 6 = 2) (hn : offset % 128 = n) : Calls Tryd.prog 4 #[.int .i64 area, .int .i64 offset] w fun e w' => e = .returned (.bool true) ∧ Below w.heap.size w w' := by
  have hlt : n < 128 := by omega
  have HT := hid_as (back_text 2 (by omega) n (by omega) (by show (n : Int) < 128; omega))
  have HN := hid_as (back_num 2 (by omega) n (by omega) (by show (n : Int) < 128; omega))
  have T := hid_as (fun w h => text_c area offset w h)
  have R := hid_as (fun w => rtext_c area offset w)
  have P1 := hid_as (fun w => hplace_at area 6 2 ha (by omega) (by omega) b0 b1 w)
  have P2 := hid_as (fun w => hplace_at offset 128 n hn (by omega) (by omega) c0 c1 w)
  have T2 := hid_as (fun w h => text_c 3 (n : Int) w h)
  have HP : Hid (∀ w, AreasAt w → Calls Tryd.prog 7 #[.string (tx (txt 3 (n : Int)))] w fun e w' => e = .returned (.tuple #[.int .i64 3, .int .i64 (n : Int), .int .i64 0]) ∧ Same w w') := hid_as (fun w h => parse_at (tx (txt 3 (n : Int))) 3 n 0 (by rw [tx_list]; exact HT.out) (by rw [tx_size]; have := txt_size 3 (n : Int); omega) w h)
  have HC := hid_as (fun w h => coil_c 3 (n : Int) w h)
  have HL : Hid (∀ w, AreasAt w → Calls Tryd.prog 18 #[.int .u8 1, .int .i64 (coilI 3 (n : Int))] w fun e w' => e = .returned (.tuple #[.int .i64 3, .int .i64 (n : Int)]) ∧ w' = w) := hid_as (fun w h => place_at 1 (coilI 3 (n : Int)) 3 (n : Int) HN.out (by have := coil_lt 3 (n : Int); omega) (by have := coil_lt 3 (n : Int); omega) w h)
  have K := Below.refl w.heap.size w
  clear ha hn HT HN
  go_enter Tryd.func4, Tryd.ntmps4
  go_wp2_with (first
    | (go_at_call 6; refine (known_c _ hA).mono ?_; rintro e w1 ⟨rfl, s1⟩; replace K := K.trans s1.below; clear s1)
    | (go_at_call 9; (first | (with_reducible refine (T.out _ (hA.below K)).mono ?_) | (with_reducible refine (T2.out _ (hA.below K)).mono ?_)); rintro e w1 ⟨rfl, s1⟩; replace K := K.trans (s1.below.mono K.size); clear s1)
    | (go_at_call 10; (with_reducible refine (R.out _).mono ?_); rintro e w1 ⟨rfl, s1⟩; replace K := K.trans (s1.mono K.size); clear s1)
    | (go_at_call 11; (first | (with_reducible refine (size_at 3 128 rfl _ (hA.below K)).mono ?_) | (with_reducible refine (size_c area _ (hA.below K)).mono ?_)); rintro e w' ⟨rfl, hw⟩; subst w')
    | (go_at_call 12; (with_reducible refine (rsize_c _ _).mono ?_); rintro e w' ⟨rfl, hw⟩; subst w')
    | (go_at_call 13; (with_reducible refine (bit_c _ _ (hA.below K)).mono ?_); rintro e w' ⟨rfl, hw⟩; subst w')
    | (go_at_call 14; (with_reducible refine (rbit_c _ _).mono ?_); rintro e w' ⟨rfl, hw⟩; subst w')
    | (go_at_call 15; (first | (with_reducible refine (HC.out _ ?_).mono ?_) | (with_reducible refine (coil_c area offset _ ?_).mono ?_)); (first | exact hA.below K | exact hA.below (K.alloc K.size _)); rintro e w' ⟨rfl, hw⟩; subst w')
    | (go_at_call 16; (with_reducible refine (rcoil_c _ _ _).mono ?_); rintro e w' ⟨rfl, hw⟩; subst w')
    | (go_at_call 17; (first | (with_reducible refine (P1.out _).mono ?_) | (with_reducible refine (P2.out _).mono ?_)); rintro e w' ⟨rfl, hw⟩; subst w')
    | (go_at_call 7; (with_reducible refine (HP.out _ (hA.below K)).mono ?_); rintro e w1 ⟨rfl, s1⟩; replace K := K.trans (s1.below.mono K.size); clear s1)
    | (go_at_call 18; (with_reducible refine (HL.out _ ?_).mono ?_); (first | exact hA.below K | exact hA.below (K.alloc K.size _)); rintro e w' ⟨rfl, hw⟩; subst w'))
  go_ret
  exact ⟨rfl, K.alloc K.size _⟩
set_option maxHeartbeats 4000000 in
theorem texts_4 (area offset : Int) (n : Nat) (w : World) (hA : AreasAt w) (b0 : -9223372036854775808 ≤ area) (b1 : area ≤ 9223372036854775807) (c0 : -9223372036854775808 ≤ offset) (c1 : offset ≤ 9223372036854775807) (ha : area % 6 = 3) (hn : offset % 64 = n) : Calls Tryd.prog 4 #[.int .i64 area, .int .i64 offset] w fun e w' => e = .returned (.bool true) ∧ Below w.heap.size w w' := by
  have hlt : n < 64 := by omega
  have HT := hid_as (back_text 3 (by omega) n (by omega) (by show (n : Int) < 64; omega))
  have HN := hid_as (back_num 3 (by omega) n (by omega) (by show (n : Int) < 64; omega))
  have T := hid_as (fun w h => text_c area offset w h)
  have R := hid_as (fun w => rtext_c area offset w)
  have P1 := hid_as (fun w => hplace_at area 6 3 ha (by omega) (by omega) b0 b1 w)
  have P2 := hid_as (fun w => hplace_at offset 64 n hn (by omega) (by omega) c0 c1 w)
  have T2 := hid_as (fun w h => text_c 4 (n : Int) w h)
  have HP : Hid (∀ w, AreasAt w → Calls Tryd.prog 7 #[.string (tx (txt 4 (n : Int)))] w fun e w' => e = .returned (.tuple #[.int .i64 4, .int .i64 (n : Int), .int .i64 0]) ∧ Same w w') := hid_as (fun w h => parse_at (tx (txt 4 (n : Int))) 4 n 0 (by rw [tx_list]; exact HT.out) (by rw [tx_size]; have := txt_size 4 (n : Int); omega) w h)
  have HC := hid_as (fun w h => coil_c 4 (n : Int) w h)
  have HL : Hid (∀ w, AreasAt w → Calls Tryd.prog 18 #[.int .u8 4, .int .i64 (coilI 4 (n : Int))] w fun e w' => e = .returned (.tuple #[.int .i64 4, .int .i64 (n : Int)]) ∧ w' = w) := hid_as (fun w h => place_at 4 (coilI 4 (n : Int)) 4 (n : Int) HN.out (by have := coil_lt 4 (n : Int); omega) (by have := coil_lt 4 (n : Int); omega) w h)
  have K := Below.refl w.heap.size w
  clear ha hn HT HN
  go_enter Tryd.func4, Tryd.ntmps4
  go_wp2_with (first
    | (go_at_call 6; refine (known_c _ hA).mono ?_; rintro e w1 ⟨rfl, s1⟩; replace K := K.trans s1.below; clear s1)
    | (go_at_call 9; (first | (with_reducible refine (T.out _ (hA.below K)).mono ?_) | (with_reducible refine (T2.out _ (hA.below K)).mono ?_)); rintro e w1 ⟨rfl, s1⟩; replace K := K.trans (s1.below.mono K.size); clear s1)
    | (go_at_call 10; (with_reducible refine (R.out _).mono ?_); rintro e w1 ⟨rfl, s1⟩; replace K := K.trans (s1.mono K.size); clear s1)
    | (go_at_call 11; (first | (with_reducible refine (size_at 4 64 rfl _ (hA.below K)).mono ?_) | (with_reducible refine (size_c area _ (hA.below K)).mono ?_)); rintro e w' ⟨rfl, hw⟩; subst w')
    | (go_at_call 12; (with_reducible refine (rsize_c _ _).mono ?_); rintro e w' ⟨rfl, hw⟩; subst w')
    | (go_at_call 13; (with_reducible refine (bit_c _ _ (hA.below K)).mono ?_); rintro e w' ⟨rfl, hw⟩; subst w')
    | (go_at_call 14; (with_reducible refine (rbit_c _ _).mono ?_); rintro e w' ⟨rfl, hw⟩; subst w')
    | (go_at_call 15; (first | (with_reducible refine (HC.out _ ?_).mono ?_) | (with_reducible refine (coil_c area offset _ ?_).mono ?_)); (first | exact hA.below K | exact hA.below (K.alloc K.size _)); rintro e w' ⟨rfl, hw⟩; subst w')
    | (go_at_call 16; (with_reducible refine (rcoil_c _ _ _).mono ?_); rintro e w' ⟨rfl, hw⟩; subst w')
    | (go_at_call 17; (first | (with_reducible refine (P1.out _).mono ?_) | (with_reducible refine (P2.out _).mono ?_)); rintro e w' ⟨rfl, hw⟩; subst w')
    | (go_at_call 7; (with_reducible refine (HP.out _ (hA.below K)).mono ?_); rintro e w1 ⟨rfl, s1⟩; replace K := K.trans (s1.below.mono K.size); clear s1)
    | (go_at_call 18; (with_reducible refine (HL.out _ ?_).mono ?_); (first | exact hA.below K | exact hA.below (K.alloc K.size _)); rintro e w' ⟨rfl, hw⟩; subst w'))
  go_ret
  exact ⟨rfl, K.alloc K.size _⟩
set_option maxHeartbeats 4000000 in
theorem texts_5 (area offset : Int) (n : Nat) (w : World) (hA : AreasAt w) (b0 : -9223372036854775808 ≤ area) (b1 : area ≤ 9223372036854775807) (c0 : -9223372036854775808 ≤ offset) (c1 : offset ≤ 9223372036854775807) (ha : area % 6 = 4) (hn : offset % 64 = n) : Calls Tryd.prog 4 #[.int .i64 area, .int .i64 offset] w fun e w' => e = .returned (.bool true) ∧ Below w.heap.size w w' := by
  have hlt : n < 64 := by omega
  have HT := hid_as (back_text 4 (by omega) n (by omega) (by show (n : Int) < 64; omega))
  have HN := hid_as (back_num 4 (by omega) n (by omega) (by show (n : Int) < 64; omega))
  have T := hid_as (fun w h => text_c area offset w h)
  have R := hid_as (fun w => rtext_c area offset w)
  have P1 := hid_as (fun w => hplace_at area 6 4 ha (by omega) (by omega) b0 b1 w)
  have P2 := hid_as (fun w => hplace_at offset 64 n hn (by omega) (by omega) c0 c1 w)
  have T2 := hid_as (fun w h => text_c 5 (n : Int) w h)
  have HP : Hid (∀ w, AreasAt w → Calls Tryd.prog 7 #[.string (tx (txt 5 (n : Int)))] w fun e w' => e = .returned (.tuple #[.int .i64 5, .int .i64 (n : Int), .int .i64 0]) ∧ Same w w') := hid_as (fun w h => parse_at (tx (txt 5 (n : Int))) 5 n 0 (by rw [tx_list]; exact HT.out) (by rw [tx_size]; have := txt_size 5 (n : Int); omega) w h)
  have HC := hid_as (fun w h => coil_c 5 (n : Int) w h)
  have HL : Hid (∀ w, AreasAt w → Calls Tryd.prog 18 #[.int .u8 3, .int .i64 (coilI 5 (n : Int))] w fun e w' => e = .returned (.tuple #[.int .i64 5, .int .i64 (n : Int)]) ∧ w' = w) := hid_as (fun w h => place_at 3 (coilI 5 (n : Int)) 5 (n : Int) HN.out (by have := coil_lt 5 (n : Int); omega) (by have := coil_lt 5 (n : Int); omega) w h)
  have K := Below.refl w.heap.size w
  clear ha hn HT HN
  go_enter Tryd.func4, Tryd.ntmps4
  go_wp2_with (first
    | (go_at_call 6; refine (known_c _ hA).mono ?_; rintro e w1 ⟨rfl, s1⟩; replace K := K.trans s1.below; clear s1)
    | (go_at_call 9; (first | (with_reducible refine (T.out _ (hA.below K)).mono ?_) | (with_reducible refine (T2.out _ (hA.below K)).mono ?_)); rintro e w1 ⟨rfl, s1⟩; replace K := K.trans (s1.below.mono K.size); clear s1)
    | (go_at_call 10; (with_reducible refine (R.out _).mono ?_); rintro e w1 ⟨rfl, s1⟩; replace K := K.trans (s1.mono K.size); clear s1)
    | (go_at_call 11; (first | (with_reducible refine (size_at 5 64 rfl _ (hA.below K)).mono ?_) | (with_reducible refine (size_c area _ (hA.below K)).mono ?_)); rintro e w' ⟨rfl, hw⟩; subst w')
    | (go_at_call 12; (with_reducible refine (rsize_c _ _).mono ?_); rintro e w' ⟨rfl, hw⟩; subst w')
    | (go_at_call 13; (with_reducible refine (bit_c _ _ (hA.below K)).mono ?_); rintro e w' ⟨rfl, hw⟩; subst w')
    | (go_at_call 14; (with_reducible refine (rbit_c _ _).mono ?_); rintro e w' ⟨rfl, hw⟩; subst w')
    | (go_at_call 15; (first | (with_reducible refine (HC.out _ ?_).mono ?_) | (with_reducible refine (coil_c area offset _ ?_).mono ?_)); (first | exact hA.below K | exact hA.below (K.alloc K.size _)); rintro e w' ⟨rfl, hw⟩; subst w')
    | (go_at_call 16; (with_reducible refine (rcoil_c _ _ _).mono ?_); rintro e w' ⟨rfl, hw⟩; subst w')
    | (go_at_call 17; (first | (with_reducible refine (P1.out _).mono ?_) | (with_reducible refine (P2.out _).mono ?_)); rintro e w' ⟨rfl, hw⟩; subst w')
    | (go_at_call 7; (with_reducible refine (HP.out _ (hA.below K)).mono ?_); rintro e w1 ⟨rfl, s1⟩; replace K := K.trans (s1.below.mono K.size); clear s1)
    | (go_at_call 18; (with_reducible refine (HL.out _ ?_).mono ?_); (first | exact hA.below K | exact hA.below (K.alloc K.size _)); rintro e w' ⟨rfl, hw⟩; subst w'))
  go_ret
  exact ⟨rfl, K.alloc K.size _⟩
set_option maxHeartbeats 4000000 in
theorem texts_6 (area offset : Int) (n : Nat) (w : World) (hA : AreasAt w) (b0 : -9223372036854775808 ≤ area) (b1 : area ≤ 9223372036854775807) (c0 : -9223372036854775808 ≤ offset) (c1 : offset ≤ 9223372036854775807) (ha : area % 6 = 5) (hn : offset % 64 = n) : Calls Tryd.prog 4 #[.int .i64 area, .int .i64 offset] w fun e w' => e = .returned (.bool true) ∧ Below w.heap.size w w' := by
  have hlt : n < 64 := by omega
  have HT := hid_as (back_text 5 (by omega) n (by omega) (by show (n : Int) < 64; omega))
  have HN := hid_as (back_num 5 (by omega) n (by omega) (by show (n : Int) < 64; omega))
  have T := hid_as (fun w h => text_c area offset w h)
  have R := hid_as (fun w => rtext_c area offset w)
  have P1 := hid_as (fun w => hplace_at area 6 5 ha (by omega) (by omega) b0 b1 w)
  have P2 := hid_as (fun w => hplace_at offset 64 n hn (by omega) (by omega) c0 c1 w)
  have T2 := hid_as (fun w h => text_c 6 (n : Int) w h)
  have HP : Hid (∀ w, AreasAt w → Calls Tryd.prog 7 #[.string (tx (txt 6 (n : Int)))] w fun e w' => e = .returned (.tuple #[.int .i64 6, .int .i64 (n : Int), .int .i64 0]) ∧ Same w w') := hid_as (fun w h => parse_at (tx (txt 6 (n : Int))) 6 n 0 (by rw [tx_list]; exact HT.out) (by rw [tx_size]; have := txt_size 6 (n : Int); omega) w h)
  have HC := hid_as (fun w h => coil_c 6 (n : Int) w h)
  have HL : Hid (∀ w, AreasAt w → Calls Tryd.prog 18 #[.int .u8 3, .int .i64 (coilI 6 (n : Int))] w fun e w' => e = .returned (.tuple #[.int .i64 6, .int .i64 (n : Int)]) ∧ w' = w) := hid_as (fun w h => place_at 3 (coilI 6 (n : Int)) 6 (n : Int) HN.out (by have := coil_lt 6 (n : Int); omega) (by have := coil_lt 6 (n : Int); omega) w h)
  have K := Below.refl w.heap.size w
  clear ha hn HT HN
  go_enter Tryd.func4, Tryd.ntmps4
  go_wp2_with (first
    | (go_at_call 6; refine (known_c _ hA).mono ?_; rintro e w1 ⟨rfl, s1⟩; replace K := K.trans s1.below; clear s1)
    | (go_at_call 9; (first | (with_reducible refine (T.out _ (hA.below K)).mono ?_) | (with_reducible refine (T2.out _ (hA.below K)).mono ?_)); rintro e w1 ⟨rfl, s1⟩; replace K := K.trans (s1.below.mono K.size); clear s1)
    | (go_at_call 10; (with_reducible refine (R.out _).mono ?_); rintro e w1 ⟨rfl, s1⟩; replace K := K.trans (s1.mono K.size); clear s1)
    | (go_at_call 11; (first | (with_reducible refine (size_at 6 64 rfl _ (hA.below K)).mono ?_) | (with_reducible refine (size_c area _ (hA.below K)).mono ?_)); rintro e w' ⟨rfl, hw⟩; subst w')
    | (go_at_call 12; (with_reducible refine (rsize_c _ _).mono ?_); rintro e w' ⟨rfl, hw⟩; subst w')
    | (go_at_call 13; (with_reducible refine (bit_c _ _ (hA.below K)).mono ?_); rintro e w' ⟨rfl, hw⟩; subst w')
    | (go_at_call 14; (with_reducible refine (rbit_c _ _).mono ?_); rintro e w' ⟨rfl, hw⟩; subst w')
    | (go_at_call 15; (first | (with_reducible refine (HC.out _ ?_).mono ?_) | (with_reducible refine (coil_c area offset _ ?_).mono ?_)); (first | exact hA.below K | exact hA.below (K.alloc K.size _)); rintro e w' ⟨rfl, hw⟩; subst w')
    | (go_at_call 16; (with_reducible refine (rcoil_c _ _ _).mono ?_); rintro e w' ⟨rfl, hw⟩; subst w')
    | (go_at_call 17; (first | (with_reducible refine (P1.out _).mono ?_) | (with_reducible refine (P2.out _).mono ?_)); rintro e w' ⟨rfl, hw⟩; subst w')
    | (go_at_call 7; (with_reducible refine (HP.out _ (hA.below K)).mono ?_); rintro e w1 ⟨rfl, s1⟩; replace K := K.trans (s1.below.mono K.size); clear s1)
    | (go_at_call 18; (with_reducible refine (HL.out _ ?_).mono ?_); (first | exact hA.below K | exact hA.below (K.alloc K.size _)); rintro e w' ⟨rfl, hw⟩; subst w'))
  go_ret
  exact ⟨rfl, K.alloc K.size _⟩
theorem texts_all (area offset : Int) (w : World) (hA : AreasAt w) (b0 : -9223372036854775808 ≤ area) (b1 : area ≤ 9223372036854775807) (c0 : -9223372036854775808 ≤ offset) (c1 : offset ≤ 9223372036854775807) : Calls Tryd.prog 4 #[.int .i64 area, .int .i64 offset] w fun e w' => e = .returned (.bool true) ∧ Below w.heap.size w w' := by
  have h : area % 6 = 0 ∨ area % 6 = 1 ∨ area % 6 = 2 ∨ area % 6 = 3 ∨ area % 6 = 4 ∨ area % 6 = 5 := by omega
  rcases h with h | h | h | h | h | h
  · exact texts_1 area offset (offset % 128).toNat w hA b0 b1 c0 c1 h (by omega)
  · exact texts_2 area offset (offset % 128).toNat w hA b0 b1 c0 c1 h (by omega)
  · exact texts_3 area offset (offset % 128).toNat w hA b0 b1 c0 c1 h (by omega)
  · exact texts_4 area offset (offset % 64).toNat w hA b0 b1 c0 c1 h (by omega)
  · exact texts_5 area offset (offset % 64).toNat w hA b0 b1 c0 c1 h (by omega)
  · exact texts_6 area offset (offset % 64).toNat w hA b0 b1 c0 c1 h (by omega)
end Go.Proofs.YtkalcabhafcdoaaDoor
