/- The walks: join, sum. -/
import Derived.Test.YteadaknlflaclaaB2
import Derived.Test.YteadaknlflaclaaP1
namespace Go.Proofs.Yteadaknlflaclaa
open Go.RowKit
open Pdu
open Crc
/-- The k-th of the slices pvs holds the k-th of the lists ls. -/
def Parts (w : World) (pvs : List Value) (ls : List (List Nat)) : Prop := ∀ k, k < ls.length → ∃ ao m, pvs[k]? = some (.slice ao (pt ls k).length m) ∧ Sl w (.slice ao (pt ls k).length m) (u8s (pt ls k))
/-- How many bytes the first k parts have. -/
def tot (ls : List (List Nat)) (k : Nat) : Nat := (ls.take k).flatten.length
theorem tot_step {ls : List (List Nat)} {k : Nat} (h : k < ls.length) : tot ls (k + 1) = tot ls k + (pt ls k).length := by
  unfold tot
  rw [flat_take ls k h, List.length_append]
theorem tot_le (ls : List (List Nat)) (k : Nat) : tot ls k ≤ ls.flatten.length := flat_le ls k
set_option maxHeartbeats 1600000 in
theorem join_c {w : World} {g n c : Nat} {pvs : List Value} {ls : List (List Nat)} (hn : n = ls.length) (hL : Lies w g 0 pvs) (hS : Parts w pvs ls) (hsz : ls.flatten.length ≤ 60000) (hn1 : n ≤ 1000) :
    Calls Try.prog 13 #[.slice (some ⟨g, 0, none⟩) n c] w fun e w' => ∃ v', e = .returned v' ∧ w'.ownsRow w.heap.size 5 1 v' ls.flatten.length (u8s ls.flatten) ∧ Below w.heap.size w w' := by
  obtain ⟨i0, hi0, hz0, hz1, hz2⟩ := info_parts Try.infoByte
  obtain ⟨T, hT⟩ : ∃ T, T = ls.flatten.length := ⟨_, rfl⟩
  have hmk : ∀ W : World, (Instr.makeSlice 22 (.int .i64 0) (.int .i64 (T : Int))).run Try.prog W = .ok (.slice (some ⟨W.heap.size, 0, none⟩) 0 T) (W.alloc (.cells (madeCells (Value.cells (.int .u8 0)) (T * 1)) 5)) := fun W => by
    have h := run_make (P := Try.prog) W 22 5 i0 (.int .u8 0) Try.underlying22 hi0 hz0 .i64 .i64 0 T (by omega) (by omega) (by rw [hz2]; omega) (by omega)
    rw [hz1] at h
    simpa using h
  have HN := hid_as hn
  have HL := hid_as hL
  have HS := hid_as hS
  have HT := hid_as hT
  rw [← hT] at hsz ⊢
  clear hn hL hS hT
  go_enter Try.func13, Try.ntmps13
  go_wp2
  go_loop [3, 11] (fun t i => ∃ k : Nat, k ≤ n ∧ i = .int .i64 k ∧ t = .int .i64 (tot ls k : Nat)) (fun _ i => n - (intOf i).toNat)
  case atStart => exact ⟨0, by omega, rfl, rfl⟩
  case round =>
    obtain ⟨k, hk, rfl, rfl⟩ := hrel
    by_cases hkn : k < n
    · have hkl : k < ls.length := by rw [← HN.out]; exact hkn
      obtain ⟨ao, m, hpk, _⟩ := HS.out k hkl
      have hcell : w.cell? ⟨g, k, none⟩ = some (.slice ao (pt ls k).length m) := by have := HL.out k _ hpk; rwa [Nat.zero_add] at this
      have hf := tot_step hkl
      have hle := tot_le ls (k + 1)
      rw [← HT.out] at hle
      have hb : tot ls k + (pt ls k).length ≤ 60000 := by omega
      have HF := hid_as hf
      clear hf hle hpk hmk
      go_wp2
      go_round
      case rel => exact ⟨k + 1, by omega, by go_num, by rw [HF.out]; go_num⟩
      case measure => simp [intOf]; omega
    · obtain rfl : k = n := by omega
      have e : tot ls k = T := by unfold tot; rw [HN.out, List.take_length, HT.out]
      rw [e]
      clear e hkn hk
      go_wp2
      go_loopw [6, 24] (fun v i wr => ∃ j : Nat, j ≤ k ∧ i = .int .i64 j ∧ wr.ownsRow w.heap.size 5 1 v (ls.take j).flatten.length (u8s (ls.take j).flatten) ∧ Below w.heap.size w wr) (fun _ i _ => k - (intOf i).toNat)
      case atStart =>
        refine ⟨0, by omega, rfl, ?_, below_new (Below.refl _ w) _⟩
        have h := made_own w T w.heap.size (Nat.le_refl _) (by omega)
        simpa using h
      case round =>
        obtain ⟨j, hj, rfl, hown, hbe⟩ := hrel
        have HO := hid_as hown
        have HB := hid_as hbe
        clear hown hbe hmk
        by_cases hjn : j < k
        · have hkl : j < ls.length := by rw [← HN.out]; exact hjn
          obtain ⟨ao, m, hpk, hsl⟩ := HS.out j hkl
          have hcw : w.cell? ⟨g, j, none⟩ = some (.slice ao (pt ls j).length m) := by have := HL.out j _ hpk; rwa [Nat.zero_add] at this
          have hcell : wr.cell? ⟨g, j, none⟩ = some (.slice ao (pt ls j).length m) := (HB.out.cell (p := ⟨g, j, none⟩) (lt_of_cell hcw)).trans hcw
          have hf := flat_take ls j hkl
          have hle := flat_le ls (j + 1)
          rw [← HT.out, hf, List.length_append] at hle
          obtain ⟨v', w', hAp, own', g'⟩ := run_append_sl (P := Try.prog) (w := wr) w.heap.size 22 22 5 i0 (.int .u8 0) 1 Try.underlying22 hi0 hz0 hz1 hz2 rfl u6 _ _ HO.out (.slice ao (pt ls j).length m) (u8s (pt ls j)) (hsl.below HB.out) (u8s_one _) (by rw [u8s_len]; unfold maxLen; omega) (by rw [u8s_len]; omega) HB.out.size
          rw [← u8s_app, u8s_len, ← List.length_append, ← hf] at own'
          have HA := hid_as hAp
          have HO2 := hid_as own'
          have HB2 := hid_as (HB.out.grown g' HB.out.size (fun g hg' => (HO.out.lt g hg').1))
          clear hAp own' g' hf hle hpk hsl hcw HO HB
          go_wp2_with (at_builtin; refine Lib.wpList_append_run _ rfl _ _ _ _ rfl _ _ rfl rfl _ _ HA.out ?_)
          go_roundw
          case rel => exact ⟨j + 1, by omega, by go_num, HO2.out, HB2.out⟩
          case measure => simp [intOf]; omega
        · obtain rfl : j = k := by omega
          go_wp2
          go_ret
          refine ⟨_, rfl, ?_, HB.out⟩
          have h := HO.out
          rw [HN.out, List.take_length] at h
          rw [HT.out]
          exact h
theorem two_own (w : World) (x y : Nat) : (w.alloc (.cells #[.int .u8 x, .int .u8 y] 5)).ownsRow w.heap.size 5 1 (.slice (some ⟨w.heap.size, 0, none⟩) 2 2) 2 (u8s [x, y]) :=
  World.ownsRow_lit w #[.int .u8 (x : Int), .int .u8 (y : Int)] 2 (Nat.le_refl _) (by unfold maxLen; omega) rfl
set_option maxHeartbeats 1600000 in
theorem sum_c {v : Value} {bs : List Nat} {w : World} (h : Sl w v (u8s bs)) (hb : Bytes bs) (hm : bs.length ≤ 1000000) :
    Calls Try.prog 14 #[v] w fun e w' => ∃ v', e = .returned v' ∧ w'.ownsRow w.heap.size 5 1 v' 2 (u8s (s2 (s16 bs))) ∧ Below w.heap.size w w' := by
  have X := hid_as (sum16_c h hb hm)
  have hx := s16_lt hb
  generalize s16 bs = x at X hx ⊢
  have e1 : IntKind.u8.wrap ((x : Int) / 256) = (x : Int) / 256 := by rw [IntKind.wrap_u8]; omega
  have e2 : IntKind.u8.wrap (x : Int) = (x : Int) % 256 := by rw [IntKind.wrap_u8]
  clear h
  go_enter Try.func14, Try.ntmps14
  go_wp2_with fail
  refine X.out.mono ?_
  rintro e w1 ⟨rfl, hw⟩
  subst w1
  go_wp2
  go_ret
  exact ⟨_, rfl, two_own w (x % 256) (x / 256), below_new (Below.refl _ w) _⟩
end Go.Proofs.Yteadaknlflaclaa
