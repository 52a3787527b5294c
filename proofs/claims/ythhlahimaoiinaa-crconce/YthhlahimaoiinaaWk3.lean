/- The walks: the document's own sums. -/
import Derived.Test.YthhlahimaoiinaaWk2
namespace Go.Proofs.Ythhlahimaoiinaa
open Go.RowKit
open Crc
set_option maxHeartbeats 4000000 in
theorem ref16_at (b off n cap : Nat) (bs : List Nat) (w : World) (hn : n = bs.length) (hb : Bytes bs) (hm : n ≤ 1000000) (hc : Lies w b off bs) :
    Calls Try.prog 10 #[.slice (some ⟨b, off, none⟩) n cap] w fun e w' => e = .returned (.int .u16 (s16 bs : Nat)) ∧ w' = w := by
  have HN : Hid (n = bs.length) := hn
  clear hn
  go_enter Try.func10, Try.ntmps10
  go_wp2
  go_loop [3, 4] (fun t i => ∃ k : Nat, k ≤ n ∧ i = .int .i64 k ∧ t = .int .u16 (s16 (bs.take k) : Nat)) (fun _ i => n - (intOf i).toNat)
  case atStart => exact ⟨0, by omega, rfl, rfl⟩
  case round =>
    obtain ⟨k, hk, rfl, rfl⟩ := hrel
    obtain ⟨x, hx⟩ : ∃ x, x = bs.getD k 0 := ⟨_, rfl⟩
    obtain ⟨s, hs⟩ : ∃ s, s = s16 (bs.take k) := ⟨_, rfl⟩
    have hx8 : x < 256 := by rw [hx]; exact hb.at k
    have hsl : s < 65536 := by rw [hs]; exact s16_lt (hb.take k)
    have hcell : k < n → w.cell? ⟨b, off + k, none⟩ = some (.int .u8 x) := fun h => by rw [hx]; exact hc k (lt_of_hid h HN)
    have hxor : bits .xor .u16 (s : Int) (x : Int) = ((s ^^^ x : Nat) : Int) := xor_16 hsl (by omega)
    have hlt : s ^^^ x < 65536 := Nat.xor_lt_two_pow (n := 16) hsl (by omega)
    have HX : Hid (x = bs.getD k 0) := hx
    have HS : Hid (s = s16 (bs.take k)) := hs
    rw [← hs]
    clear hx hs
    go_wp2
    · have hkn : k < n := by assumption
      go_loop [3, 5] (fun t i => ∃ j : Nat, j ≤ 8 ∧ i = .int .i64 j ∧ t = .int .u16 (its 40961 j (s ^^^ x) : Nat)) (fun _ i => 8 - (intOf i).toNat)
      case atStart => exact ⟨0, by omega, rfl, rfl⟩
      case round =>
        obtain ⟨j, hj, rfl, rfl⟩ := hrel
        go_wp2
        · have ho : (bits BinOp.and IntKind.u16 (↑(its 40961 j (s ^^^ x))) 1 == 1) = true := by assumption
          go_round
          case rel => exact ⟨j + 1, by omega, by go_num, int_is (step_odd_16 hlt ho)⟩
          case measure => simp [intOf]; omega
        · have ho : (bits BinOp.and IntKind.u16 (↑(its 40961 j (s ^^^ x))) 1 == 1) = false := by assumption
          go_round
          case rel => exact ⟨j + 1, by omega, by go_num, int_is (step_even_16 ho)⟩
          case measure => simp [intOf]; omega
        · obtain rfl : j = 8 := by omega
          go_round
          case rel => exact ⟨k + 1, by omega, by go_num, int_is (congrArg _ (sum_step HN HX HS hkn))⟩
          case measure => simp [intOf]; omega
    · obtain rfl : k = n := by omega
      go_ret
      exact ⟨congrArg (fun t : Nat => Ending.returned (.int .u16 (t : Int))) (sum_end HN HS), rfl⟩

set_option maxHeartbeats 4000000 in
theorem ref32_at (b off n cap : Nat) (bs : List Nat) (w : World) (hn : n = bs.length) (hb : Bytes bs) (hm : n ≤ 1000000) (hc : Lies w b off bs) :
    Calls Try.prog 13 #[.slice (some ⟨b, off, none⟩) n cap] w fun e w' => e = .returned (.int .u32 (bits .xor .u32 4294967295 (r32 bs : Nat))) ∧ w' = w := by
  have HN : Hid (n = bs.length) := hn
  clear hn
  go_enter Try.func13, Try.ntmps13
  go_wp2
  go_loop [3, 4] (fun t i => ∃ k : Nat, k ≤ n ∧ i = .int .i64 k ∧ t = .int .u32 (r32 (bs.take k) : Nat)) (fun _ i => n - (intOf i).toNat)
  case atStart => exact ⟨0, by omega, rfl, rfl⟩
  case round =>
    obtain ⟨k, hk, rfl, rfl⟩ := hrel
    obtain ⟨x, hx⟩ : ∃ x, x = bs.getD k 0 := ⟨_, rfl⟩
    obtain ⟨s, hs⟩ : ∃ s, s = r32 (bs.take k) := ⟨_, rfl⟩
    have hx8 : x < 256 := by rw [hx]; exact hb.at k
    have hsl : s < 4294967296 := by rw [hs]; exact r32_lt (hb.take k)
    have hcell : k < n → w.cell? ⟨b, off + k, none⟩ = some (.int .u8 x) := fun h => by rw [hx]; exact hc k (lt_of_hid h HN)
    have hxor : bits .xor .u32 (s : Int) (x : Int) = ((s ^^^ x : Nat) : Int) := xor_32 hsl (by omega)
    have hlt : s ^^^ x < 4294967296 := Nat.xor_lt_two_pow (n := 32) hsl (by omega)
    have HX : Hid (x = bs.getD k 0) := hx
    have HS : Hid (s = r32 (bs.take k)) := hs
    rw [← hs]
    clear hx hs
    go_wp2
    · have hkn : k < n := by assumption
      go_loop [3, 5] (fun t i => ∃ j : Nat, j ≤ 8 ∧ i = .int .i64 j ∧ t = .int .u32 (its 3988292384 j (s ^^^ x) : Nat)) (fun _ i => 8 - (intOf i).toNat)
      case atStart => exact ⟨0, by omega, rfl, rfl⟩
      case round =>
        obtain ⟨j, hj, rfl, rfl⟩ := hrel
        go_wp2
        · have ho : (bits BinOp.and IntKind.u32 (↑(its 3988292384 j (s ^^^ x))) 1 == 1) = true := by assumption
          go_round
          case rel => exact ⟨j + 1, by omega, by go_num, int_is (step_odd_32 hlt ho)⟩
          case measure => simp [intOf]; omega
        · have ho : (bits BinOp.and IntKind.u32 (↑(its 3988292384 j (s ^^^ x))) 1 == 1) = false := by assumption
          go_round
          case rel => exact ⟨j + 1, by omega, by go_num, int_is (step_even_32 ho)⟩
          case measure => simp [intOf]; omega
        · obtain rfl : j = 8 := by omega
          go_round
          case rel => exact ⟨k + 1, by omega, by go_num, int_is (congrArg _ (sum_step HN HX HS hkn))⟩
          case measure => simp [intOf]; omega
    · obtain rfl : k = n := by omega
      go_ret
      exact ⟨congrArg (fun t : Nat => Ending.returned (.int .u32 (bits .xor .u32 4294967295 (t : Int)))) (sum_end HN HS), rfl⟩

end Go.Proofs.Ythhlahimaoiinaa
