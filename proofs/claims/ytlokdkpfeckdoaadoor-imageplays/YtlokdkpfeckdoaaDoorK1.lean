/- Two images alike: the law's own look (stage 11). -/
import Derived.Test.YtlokdkpfeckdoaaDoorI3
import Derived.Test.YtlokdkpfeckdoaaDoorI5
import Derived.Test.YtlokdkpfeckdoaaDoorJ1
namespace Go.Proofs.YtlokdkpfeckdoaaDoor
open Go.RowKit
open Adr
theorem regs_same {v u : Value} {xs : List Nat} {w : World} (h : Sl w v (u16s xs)) (k : Sl w u (u16s xs)) (hm : xs.length ≤ 1000000) : Calls Tryd.prog 22 #[v, u] w fun e w' => e = .returned (.bool true) ∧ Same w w' := by
  refine (hregs_c h k hm).mono ?_
  rintro e w' ⟨rfl, m, rfl⟩
  rw [decide_eq_true rfl]
  exact ⟨rfl, Same.drewN _ _⟩
theorem alls_le (f : Nat → Nat) (a : Int) : (alls f a).length ≤ 128 := by
  rw [alls_len]
  have := szI_le a
  omega
set_option maxHeartbeats 1600000 in
theorem alike_c {w : World} {gm gr : Nat} {s : IS} (hA : AreasAt w) (tm : Im w gm s) (tr : Im w gr s) : Calls Tryd.prog 21 #[.pointer (some ⟨gm, 0, none⟩), .pointer (some ⟨gr, 0, none⟩)] w fun e w' => e = .returned (.bool true) ∧ Below w.heap.size w w' := by
  have A := hid_as hA
  have TM := hid_as tm
  have TR := hid_as tr
  clear hA tm tr
  go_enter Tryd.func21, Tryd.ntmps21
  go_wp2
  go_loopw [5] (fun i wr => ∃ k : Nat, k ≤ 8 ∧ i = .int .i64 k ∧ Hid (Below w.heap.size w wr)) (fun i _ => 8 - (intOf i).toNat)
  case atStart => exact ⟨0, by omega, rfl, Below.refl _ _⟩
  case round =>
    obtain ⟨k, hk, rfl, B0⟩ := hrel
    by_cases hk8 : k < 8
    · have hk7 : (k : Int) ≤ 7 := by omega
      have AL := hid_as (all_c (k : Int) (A.out.below B0.out) (TM.out.below B0.out))
      go_wp2_with fail
      refine AL.out.mono ?_
      rintro e w1 ⟨v, rfl, sl, k1⟩
      have B1 := hid_as (below_and B0.out k1)
      have RA := hid_as (rall_c (k : Int) (TR.out.below B1.out))
      have S1 := hid_as sl
      obtain ⟨ao, c, rfl⟩ := sl.shape
      rw [u16s_len, alls_len] at *
      clear sl k1 AL B0
      go_wp2_with fail
      refine RA.out.mono ?_
      rintro e w2 ⟨v2, rfl, sl2, k2⟩
      have B2 := hid_as (below_and B1.out k2)
      have RG := hid_as (regs_same (S1.out.below k2) sl2 (Nat.le_trans (alls_le _ _) (by decide)))
      obtain ⟨ao2, c2, rfl⟩ := sl2.shape
      rw [u16s_len, alls_len] at *
      clear sl2 k2 RA B1 S1
      go_wp2_with fail
      refine RG.out.mono ?_
      rintro e w3 ⟨rfl, k3⟩
      have B3 := hid_as (below_and B2.out k3.below)
      have A3 := hid_as (A.out.below B3.out)
      have M3 := hid_as (TM.out.below B3.out)
      have R3 := hid_as (TR.out.below B3.out)
      clear k3 RG B2
      obtain ⟨n, hn⟩ : ∃ n : Nat, n = (szI (k : Int)).toNat := ⟨_, rfl⟩
      rw [← hn]
      have hn8 : n ≤ 128 := by have := szI_le (k : Int); omega
      clear hn
      go_wp2
      go_loopw [7] (fun i wx => ∃ j : Nat, j ≤ n ∧ i = .int .i64 j ∧ wx = w3) (fun i _ => n - (intOf i).toNat)
      case atStart => exact ⟨0, by omega, rfl, rfl⟩
      case round =>
        obtain ⟨j, hj, rfl, rfl⟩ := hrel
        by_cases hjn : j < n
        · have hj' : (j : Int) < (n : Int) := by omega
          have W := hid_as (work_c (k : Int) (j : Int) A3.out M3.out)
          have G := hid_as (rwork_c (k : Int) (j : Int) R3.out)
          generalize gv s.k (k : Int) (j : Int) = x at *
          generalize ge (k : Int) (j : Int) = y at *
          go_wp2_with (first | (go_at_call 25; refine W.out.mono ?_; rintro e w' ⟨rfl, hw⟩; subst w') | (go_at_call 34; refine G.out.mono ?_; rintro e w' ⟨rfl, hw⟩; subst w'))
          go_roundw
          case rel => exact ⟨j + 1, by omega, by go_num, trivial⟩
          case measure => simp [intOf]; omega
        · obtain rfl : j = n := by omega
          go_wp2
          go_roundw
          case rel => exact ⟨k + 1, by omega, by go_num, B3⟩
          case measure => simp [intOf]; omega
    · obtain rfl : k = 8 := by omega
      have SC := hid_as (fun d => scans_c ((TM.out.below B0.out).same (Same.drewN _ d)))
      have hc := (TR.out.below B0.out).num
      go_wp2
      go_region_held3 (fun w' => w'.cell? ⟨gr, 1792, none⟩ = some (.int .u64 (s.n : Int))) (go_keep) ((go_at_call 26; refine (SC.out 1).mono ?_; rintro e w' ⟨rfl, hw⟩; subst w'))
      go_wp2
      go_ret
      exact ⟨rfl, below_and B0.out (Same.drew _).below⟩
end Go.Proofs.YtlokdkpfeckdoaaDoor
