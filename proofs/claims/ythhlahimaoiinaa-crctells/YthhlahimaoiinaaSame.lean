/- The walks: two byte lists held against one another; a place out of any number. -/
import Derived.Test.YthhlahimaoiinaaTab
import Derived.Laws.BytesArg
namespace Go.Proofs.Ythhlahimaoiinaa
open Go.RowKit
open Crc
def ints (bs : List Nat) : List Int := bs.map fun (x : Nat) => (x : Int)
theorem str_none (a : Addr) (c : Nat) (w : World) : (convert 22 9 (.slice (some a) 0 c)).run Try.prog w = .ok (.string (strOfNums [])) w := by
  rw [run_convert_bytes_string w 22 9 5 _ 0 c Try.underlying22 Try.underlying5 Try.underlying9]
  have hl : (loadCells a 0).run Try.prog w = .ok (([] : List Int).map (Value.int .u8)).toArray w := rfl
  rw [run_bytesToString w _ 0 c [] hl]
  rfl
theorem str_c {v : Value} {bs : List Nat} {w : World} (h : Slice w v bs) : (convert 22 9 v).run Try.prog w = .ok (.string (strOfNums (ints bs))) w := by
  obtain ⟨hb, ⟨rfl, ao, cap, rfl, h0⟩ | ⟨c, off, cap, rfl, hc⟩⟩ := h
  · match ao with
    | none => exact run_convert_bytes_nil w 22 5 Try.underlying22 Try.underlying5 0 cap 9 Try.underlying9
    | some a => exact str_none a cap w
  · refine run_convert_bytes_arg w 22 5 Try.underlying22 Try.underlying5 c off bs.length cap (ints bs) (by simp [ints]) (fun i hi => ?_) 9 Try.underlying9
    rw [hc i hi]
    simp [ints, List.getD, List.getElem?_eq_getElem hi]

set_option maxHeartbeats 1600000 in
theorem same_c {v u : Value} {bs : List Nat} {w : World} (h : Slice w v bs) (k : Slice w u bs) : Calls Try.prog 15 #[v, u] w fun e w' => e = .returned (.bool true) ∧ w' = w := by
  have h1 := str_c h
  have h2 := str_c k
  clear h k
  go_enter Try.func15, Try.ntmps15
  go_wp2
  go_ret
  exact ⟨by simp, rfl⟩

set_option maxHeartbeats 1600000 in
theorem place_c (k : Int) (n : Nat) (hn : 0 < n) (hm : n ≤ 1000000) (w : World) : Calls Try.prog 16 #[.int .i64 k, .int .i64 n] w fun e w' => (∃ p : Nat, p < n ∧ e = .returned (.int .i64 p)) ∧ w' = w := by
  have hne : ¬ (n : Int) = 0 := by omega
  obtain ⟨t, ht⟩ : ∃ t, k.tmod n = t := ⟨_, rfl⟩
  have hb : t.natAbs < n := by
    rw [← ht, Int.natAbs_tmod]
    exact Nat.mod_lt _ (by omega)
  by_cases h0 : t < 0
  · have h1 : -(n : Int) < t := by omega
    clear hb
    go_enter Try.func16, Try.ntmps16
    go_wp2
    go_ret
    exact ⟨⟨(t + n).toNat, by omega, by rw [Int.toNat_of_nonneg (by omega)]; rfl⟩, rfl⟩
  · have h1 : t < n := by omega
    clear hb
    go_enter Try.func16, Try.ntmps16
    go_wp2
    go_ret
    exact ⟨⟨t.toNat, by omega, by rw [Int.toNat_of_nonneg (by omega)]; rfl⟩, rfl⟩
end Go.Proofs.Ythhlahimaoiinaa
