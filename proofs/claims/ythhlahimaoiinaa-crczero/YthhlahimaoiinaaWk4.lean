/- The walks: the sums of no bytes. -/
import Derived.Test.YthhlahimaoiinaaWk3
namespace Go.Proofs.Ythhlahimaoiinaa
open Go.RowKit
open Crc
set_option maxHeartbeats 2000000 in
theorem sum16_none (ao : Option Addr) (cap : Nat) (w : World) : Calls Try.prog 11 #[.slice ao 0 cap] w fun e w' => e = .returned (.int .u16 65535) ∧ w' = w := by
  go_enter Try.func11, Try.ntmps11
  go_wp2
  go_loop [3, 8] (fun t i => i = .int .i64 0 ∧ t = .int .u16 65535) (fun _ _ => 0)
  case atStart => exact ⟨rfl, rfl⟩
  case round =>
    obtain ⟨rfl, rfl⟩ := hrel
    go_wp2
    go_ret
    exact ⟨rfl, rfl⟩

set_option maxHeartbeats 2000000 in
theorem sum32_none (ao : Option Addr) (cap : Nat) (w : World) : Calls Try.prog 12 #[.slice ao 0 cap] w fun e w' => e = .returned (.int .u32 (bits .xor .u32 4294967295 4294967295)) ∧ w' = w := by
  go_enter Try.func12, Try.ntmps12
  go_wp2
  go_loop [3, 8] (fun t i => i = .int .i64 0 ∧ t = .int .u32 4294967295) (fun _ _ => 0)
  case atStart => exact ⟨rfl, rfl⟩
  case round =>
    obtain ⟨rfl, rfl⟩ := hrel
    go_wp2
    go_ret
    exact ⟨rfl, rfl⟩

set_option maxHeartbeats 2000000 in
theorem ref16_none (ao : Option Addr) (cap : Nat) (w : World) : Calls Try.prog 10 #[.slice ao 0 cap] w fun e w' => e = .returned (.int .u16 65535) ∧ w' = w := by
  go_enter Try.func10, Try.ntmps10
  go_wp2
  go_loop [3, 4] (fun t i => i = .int .i64 0 ∧ t = .int .u16 65535) (fun _ _ => 0)
  case atStart => exact ⟨rfl, rfl⟩
  case round =>
    obtain ⟨rfl, rfl⟩ := hrel
    go_wp2
    go_ret
    exact ⟨rfl, rfl⟩

set_option maxHeartbeats 2000000 in
theorem ref32_none (ao : Option Addr) (cap : Nat) (w : World) : Calls Try.prog 13 #[.slice ao 0 cap] w fun e w' => e = .returned (.int .u32 (bits .xor .u32 4294967295 4294967295)) ∧ w' = w := by
  go_enter Try.func13, Try.ntmps13
  go_wp2
  go_loop [3, 4] (fun t i => i = .int .i64 0 ∧ t = .int .u32 4294967295) (fun _ _ => 0)
  case atStart => exact ⟨rfl, rfl⟩
  case round =>
    obtain ⟨rfl, rfl⟩ := hrel
    go_wp2
    go_ret
    exact ⟨rfl, rfl⟩

/-- A slice value of these bytes, in this world. -/
def Slice (w : World) (v : Value) (bs : List Nat) : Prop := Bytes bs ∧ ((bs = [] ∧ ∃ ao cap, v = .slice ao 0 cap ∧ (ao = none → cap = 0)) ∨ ∃ b off cap, v = .slice (some ⟨b, off, none⟩) bs.length cap ∧ Lies w b off bs)
theorem sum16_c {v : Value} {bs : List Nat} {w : World} (h : Slice w v bs) (hm : bs.length ≤ 1000000) : Calls Try.prog 11 #[v] w fun e w' => e = .returned (.int .u16 (s16 bs : Nat)) ∧ w' = w := by
  obtain ⟨hb, ⟨rfl, ao, cap, rfl, _⟩ | ⟨b, off, cap, rfl, hc⟩⟩ := h
  · exact sum16_none ao cap w
  · exact sum16_at b off _ cap bs w rfl hb hm hc
theorem sum32_c {v : Value} {bs : List Nat} {w : World} (h : Slice w v bs) (hm : bs.length ≤ 1000000) : Calls Try.prog 12 #[v] w fun e w' => e = .returned (.int .u32 (bits .xor .u32 4294967295 (r32 bs : Nat))) ∧ w' = w := by
  obtain ⟨hb, ⟨rfl, ao, cap, rfl, _⟩ | ⟨b, off, cap, rfl, hc⟩⟩ := h
  · exact sum32_none ao cap w
  · exact sum32_at b off _ cap bs w rfl hb hm hc
theorem ref16_c {v : Value} {bs : List Nat} {w : World} (h : Slice w v bs) (hm : bs.length ≤ 1000000) : Calls Try.prog 10 #[v] w fun e w' => e = .returned (.int .u16 (s16 bs : Nat)) ∧ w' = w := by
  obtain ⟨hb, ⟨rfl, ao, cap, rfl, _⟩ | ⟨b, off, cap, rfl, hc⟩⟩ := h
  · exact ref16_none ao cap w
  · exact ref16_at b off _ cap bs w rfl hb hm hc
theorem ref32_c {v : Value} {bs : List Nat} {w : World} (h : Slice w v bs) (hm : bs.length ≤ 1000000) : Calls Try.prog 13 #[v] w fun e w' => e = .returned (.int .u32 (bits .xor .u32 4294967295 (r32 bs : Nat))) ∧ w' = w := by
  obtain ⟨hb, ⟨rfl, ao, cap, rfl, _⟩ | ⟨b, off, cap, rfl, hc⟩⟩ := h
  · exact ref32_none ao cap w
  · exact ref32_at b off _ cap bs w rfl hb hm hc
end Go.Proofs.Ythhlahimaoiinaa
