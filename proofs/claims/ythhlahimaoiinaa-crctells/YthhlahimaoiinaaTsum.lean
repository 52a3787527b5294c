/- The walk: a table's sum. -/
import Derived.Test.YthhlahimaoiinaaDo
namespace Go.Proofs.Ythhlahimaoiinaa
open Go.RowKit
open Crc

theorem tab_step {n k x s y : Nat} {bs : List Nat} (hn : Hid (n = bs.length)) (hx : Hid (x = bs.getD k 0)) (hs : Hid (s = s16 (bs.take k))) (hy : Hid (y = (s % 256) ^^^ x)) (hk : k < n) (hsl : s < 65536) (hx8 : x < 256) :
    bits .xor .u16 ((s : Int) / 256) ((its 40961 8 y : Nat) : Int) = ((s16 (bs.take (k + 1)) : Nat) : Int) := by
  have hy2 : its 40961 8 y < 2 ^ 16 := by
    apply its_lt (by decide)
    rw [show y = _ from hy]
    refine Nat.xor_lt_two_pow (by omega) ?_
    omega
  have e : s / 256 ^^^ its 40961 8 y = upd 40961 s x := by rw [show y = _ from hy]; exact (upd_table 40961 s x).symm
  rw [show (s : Int) / 256 = ((s / 256 : Nat) : Int) by omega, xor_16 (by omega) hy2]
  exact congrArg (fun t : Nat => (t : Int)) (e.trans (sum_step hn hx hs hk))

set_option maxRecDepth 100000 in
set_option maxHeartbeats 1600000 in
theorem tsum_at (b o d : Nat) (hd : d = 0 ∨ d = 1) (c off n cap : Nat) (bs : List Nat) (w : World) (h : Tab w b o d) (hn : n = bs.length) (hb : Bytes bs) (hm : n ≤ 1000000) (hc : Lies w c off bs) (hne : c ≠ b) :
    Calls Try.prog 9 #[.pointer (some ⟨b, o, none⟩), .slice (some ⟨c, off, none⟩) n cap] w fun e w' => e = .returned (.int .u16 (s16 bs : Nat)) ∧ Only b o (o + 260) w w' ∧ Tab w' b o 1 := by
  have hmf : ∀ (fn : Fn) (first cap : Array Value) (w : World), (Instr.makeFunc fn first cap).run Try.prog w = .ok (.func fn first cap) w := fun _ _ _ _ => rfl
  have HD : Hid (_) := do_c b o d hd w h
  have HN : Hid (n = bs.length) := hn
  have HC : Hid (Lies w c off bs) := hc
  clear hn h hc
  go_enter Try.func9, Try.ntmps9
  go_wp2_with (go_at_call 17; refine Calls.mono HD ?_; rintro e w1 ⟨rfl, hon⟩)
  have hc1 : Lies w1 c off bs := fun i hi => (hon.1.other (a := ⟨c, off + i, none⟩) hne).trans (HC i hi)
  have ht := hon.2
  have HO : Hid (Only b o (o + 260) w w1 ∧ Tab w1 b o 1) := hon
  clear hon
  go_loop [5, 16] (fun t i => ∃ k : Nat, k ≤ n ∧ i = .int .i64 k ∧ t = .int .u16 (s16 (bs.take k) : Nat)) (fun _ i => n - (intOf i).toNat)
  case atStart => exact ⟨0, by omega, rfl, rfl⟩
  case round =>
    obtain ⟨k, hk, rfl, rfl⟩ := hrel
    obtain ⟨x, hx⟩ : ∃ x, x = bs.getD k 0 := ⟨_, rfl⟩
    obtain ⟨s, hs⟩ : ∃ s, s = s16 (bs.take k) := ⟨_, rfl⟩
    have hx8 : x < 256 := by rw [hx]; exact hb.at k
    have hsl : s < 65536 := by rw [hs]; exact s16_lt (hb.take k)
    have hcell : k < n → w1.cell? ⟨c, off + k, none⟩ = some (.int .u8 x) := fun h => by rw [hx]; exact hc1 k (lt_of_hid h HN)
    obtain ⟨y, hy⟩ : ∃ y, y = (s % 256) ^^^ x := ⟨_, rfl⟩
    have hyl : y < 256 := by rw [hy]; exact Nat.xor_lt_two_pow (n := 8) (by omega) hx8
    have hxor : bits .xor .u8 ((s : Int) % 256) (x : Int) = (y : Int) := by rw [hy]; exact xor_8 (a := s % 256) (by omega) hx8
    have htab : w1.cell? ⟨b, o + 4 + y, none⟩ = some (.int .u16 (its 40961 8 y : Nat)) := by have := ht.sums y hyl; rwa [Nat.one_mul] at this
    have HY : Hid (y = (s % 256) ^^^ x) := hy
    have HX : Hid (x = bs.getD k 0) := hx
    have HS : Hid (s = s16 (bs.take k)) := hs
    rw [← hs]
    clear hx hs hy hc1 ht
    go_wp2
    · have hkn : k < n := by assumption
      go_round
      case rel => exact ⟨k + 1, by omega, by go_num, int_is (tab_step HN HX HS HY hkn hsl hx8)⟩
      case measure => simp [intOf]; omega
    · obtain rfl : k = n := by omega
      go_ret
      exact ⟨congrArg (fun t : Nat => Ending.returned (.int .u16 (t : Int))) (sum_end HN HS), HO⟩

set_option maxRecDepth 100000 in
set_option maxHeartbeats 1600000 in
theorem tsum_none (b o d : Nat) (hd : d = 0 ∨ d = 1) (ao : Option Addr) (cap : Nat) (w : World) (h : Tab w b o d) :
    Calls Try.prog 9 #[.pointer (some ⟨b, o, none⟩), .slice ao 0 cap] w fun e w' => e = .returned (.int .u16 65535) ∧ Only b o (o + 260) w w' ∧ Tab w' b o 1 := by
  have hmf : ∀ (fn : Fn) (first cap : Array Value) (w : World), (Instr.makeFunc fn first cap).run Try.prog w = .ok (.func fn first cap) w := fun _ _ _ _ => rfl
  have HD : Hid (_) := do_c b o d hd w h
  clear h
  go_enter Try.func9, Try.ntmps9
  go_wp2_with (go_at_call 17; refine Calls.mono HD ?_; rintro e w1 ⟨rfl, hon⟩)
  have HO : Hid (Only b o (o + 260) w w1 ∧ Tab w1 b o 1) := hon
  clear hon
  go_loop [5, 16] (fun t i => i = .int .i64 0 ∧ t = .int .u16 65535) (fun _ _ => 0)
  case atStart => exact ⟨rfl, rfl⟩
  case round =>
    obtain ⟨rfl, rfl⟩ := hrel
    go_wp2
    go_ret
    exact ⟨rfl, HO⟩

theorem tsum_c {b o d : Nat} (hd : d = 0 ∨ d = 1) {v : Value} {bs : List Nat} {w : World} (h : Tab w b o d) (hs : Slice w v bs) (hm : bs.length ≤ 1000000) (hne : Apart v bs b) :
    Calls Try.prog 9 #[.pointer (some ⟨b, o, none⟩), v] w fun e w' => e = .returned (.int .u16 (s16 bs : Nat)) ∧ Only b o (o + 260) w w' ∧ Tab w' b o 1 := by
  obtain ⟨hb, ⟨rfl, ao, cap, rfl, _⟩ | ⟨c, off, cap, rfl, hc⟩⟩ := hs
  · exact tsum_none b o d hd ao cap w h
  · by_cases he : bs = []
    · subst he
      exact tsum_none b o d hd _ cap w h
    · exact tsum_at b o d hd c off _ cap bs w h rfl hb hm hc (hne he _ _ _ rfl)
end Go.Proofs.Ythhlahimaoiinaa
