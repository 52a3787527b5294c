/- The walks: the sums, byte by byte. -/
import Derived.Test.YthhlahimaoiinaaWk1
namespace Go.Proofs.Ythhlahimaoiinaa
open Go.RowKit
open Crc
/-- The bytes bs lie in block b from off on. -/
def Lies (w : World) (b off : Nat) (bs : List Nat) : Prop := ∀ k, k < bs.length → w.cell? ⟨b, off + k, none⟩ = some (.int .u8 (bs.getD k 0 : Nat))
def Bytes (bs : List Nat) : Prop := ∀ x ∈ bs, x < 256
theorem Bytes.at {bs : List Nat} (h : Bytes bs) (k : Nat) : bs.getD k 0 < 256 := by
  by_cases hk : k < bs.length
  · rw [List.getD_eq_getElem?_getD, List.getElem?_eq_getElem hk]
    exact h _ (List.getElem_mem hk)
  · rw [List.getD_eq_getElem?_getD, List.getElem?_eq_none (by omega)]
    decide
theorem Bytes.take {bs : List Nat} (h : Bytes bs) (k : Nat) : Bytes (bs.take k) := fun x hx => h x (List.mem_of_mem_take hx)
abbrev s16 (bs : List Nat) : Nat := sum 40961 65535 bs
theorem s16_lt {bs : List Nat} (h : Bytes bs) : s16 bs < 65536 := sum_lt (m := 16) (by decide) bs (fun x hx => Nat.lt_of_lt_of_le (h x hx) (by decide)) 65535 (by decide)
abbrev r32 (bs : List Nat) : Nat := sum 3988292384 4294967295 bs
theorem r32_lt {bs : List Nat} (h : Bytes bs) : r32 bs < 4294967296 := sum_lt (m := 32) (by decide) bs (fun x hx => Nat.lt_of_lt_of_le (h x hx) (by decide)) 4294967295 (by decide)

theorem lt_of_hid {k n m : Nat} (h : k < n) (hn : Hid (n = m)) : k < m := hn ▸ h
theorem sum_step {p c n k x s : Nat} {bs : List Nat} (hn : Hid (n = bs.length)) (hx : Hid (x = bs.getD k 0)) (hs : Hid (s = sum p c (bs.take k))) (hk : k < n) : its p 8 (s ^^^ x) = sum p c (bs.take (k + 1)) := by
  rw [sum_take_succ p c bs k (lt_of_hid hk hn), ← (show s = _ from hs), ← (show x = _ from hx)]
  rfl
theorem sum_end {p c n s : Nat} {bs : List Nat} (hn : Hid (n = bs.length)) (hs : Hid (s = sum p c (bs.take n))) : s = sum p c bs := by
  rw [show s = _ from hs, show n = _ from hn, List.take_length]

set_option maxHeartbeats 2000000 in
theorem sum16_at (b off n cap : Nat) (bs : List Nat) (w : World) (hn : n = bs.length) (hb : Bytes bs) (hm : n ≤ 1000000) (hc : Lies w b off bs) :
    Calls Try.prog 11 #[.slice (some ⟨b, off, none⟩) n cap] w fun e w' => e = .returned (.int .u16 (s16 bs : Nat)) ∧ w' = w := by
  have HN : Hid (n = bs.length) := hn
  clear hn
  go_enter Try.func11, Try.ntmps11
  go_wp2
  go_loop [3, 8] (fun t i => ∃ k : Nat, k ≤ n ∧ i = .int .i64 k ∧ t = .int .u16 (s16 (bs.take k) : Nat)) (fun _ i => n - (intOf i).toNat)
  case atStart => exact ⟨0, by omega, rfl, rfl⟩
  case round =>
    obtain ⟨k, hk, rfl, rfl⟩ := hrel
    obtain ⟨x, hx⟩ : ∃ x, x = bs.getD k 0 := ⟨_, rfl⟩
    obtain ⟨s, hs⟩ : ∃ s, s = s16 (bs.take k) := ⟨_, rfl⟩
    have hx8 : x < 256 := by rw [hx]; exact hb.at k
    have hsl : s < 65536 := by rw [hs]; exact s16_lt (hb.take k)
    have hcell : k < n → w.cell? ⟨b, off + k, none⟩ = some (.int .u8 x) := fun h => by rw [hx]; exact hc k (lt_of_hid h HN)
    have hxor : bits .xor .u16 (s : Int) (x : Int) = ((s ^^^ x : Nat) : Int) := xor_16 hsl (by omega)
    have hlt : s ^^^ x < 65536 := Nat.xor_lt_two_pow (n := 16) hsl (by omega)
    have HX : Hid (x = bs.getD k 0) := hx
    have HS : Hid (s = s16 (bs.take k)) := hs
    rw [← hs]
    clear hx hs
    go_wp2_with (go_at_call 19; refine (halve16_c (s ^^^ x) hlt _).mono ?_; rintro e w' ⟨rfl, hw⟩; subst w')
    · have hkn : k < n := by assumption
      go_round
      case rel => exact ⟨k + 1, by omega, by go_num, int_is (congrArg _ (sum_step HN HX HS hkn))⟩
      case measure => simp [intOf]; omega
    · obtain rfl : k = n := by omega
      go_ret
      exact ⟨congrArg (fun t : Nat => Ending.returned (.int .u16 (t : Int))) (sum_end HN HS), rfl⟩

set_option maxHeartbeats 2000000 in
theorem sum32_at (b off n cap : Nat) (bs : List Nat) (w : World) (hn : n = bs.length) (hb : Bytes bs) (hm : n ≤ 1000000) (hc : Lies w b off bs) :
    Calls Try.prog 12 #[.slice (some ⟨b, off, none⟩) n cap] w fun e w' => e = .returned (.int .u32 (bits .xor .u32 4294967295 (r32 bs : Nat))) ∧ w' = w := by
  have HN : Hid (n = bs.length) := hn
  clear hn
  go_enter Try.func12, Try.ntmps12
  go_wp2
  go_loop [3, 8] (fun t i => ∃ k : Nat, k ≤ n ∧ i = .int .i64 k ∧ t = .int .u32 (r32 (bs.take k) : Nat)) (fun _ i => n - (intOf i).toNat)
  case atStart => exact ⟨0, by omega, rfl, rfl⟩
  case round =>
    obtain ⟨k, hk, rfl, rfl⟩ := hrel
    obtain ⟨x, hx⟩ : ∃ x, x = bs.getD k 0 := ⟨_, rfl⟩
    obtain ⟨s, hs⟩ : ∃ s, s = r32 (bs.take k) := ⟨_, rfl⟩
    have hx8 : x < 256 := by rw [hx]; exact hb.at k
    have hsl : s < 4294967296 := by rw [hs]; exact r32_lt (hb.take k)
    have hcell : k < n → w.cell? ⟨b, off + k, none⟩ = some (.int .u8 x) := fun h => by rw [hx]; exact hc k (lt_of_hid h HN)
    have hxor : bits .xor .u32 (s : Int) (x : Int) = ((s ^^^ x : Nat) : Int) := xor_32 hsl (by omega)
    have hlt : s ^^^ x < 4294967296 := Nat.xor_lt_two_pow (n := 32) hsl (by omega)
    have HX : Hid (x = bs.getD k 0) := hx
    have HS : Hid (s = r32 (bs.take k)) := hs
    rw [← hs]
    clear hx hs
    go_wp2_with (go_at_call 20; refine (halve32_c (s ^^^ x) hlt _).mono ?_; rintro e w' ⟨rfl, hw⟩; subst w')
    · have hkn : k < n := by assumption
      go_round
      case rel => exact ⟨k + 1, by omega, by go_num, int_is (congrArg _ (sum_step HN HX HS hkn))⟩
      case measure => simp [intOf]; omega
    · obtain rfl : k = n := by omega
      go_ret
      exact ⟨congrArg (fun t : Nat => Ending.returned (.int .u32 (bits .xor .u32 4294967295 (t : Int)))) (sum_end HN HS), rfl⟩
end Go.Proofs.Ythhlahimaoiinaa
