/- The walks of Publish, Scans, the reference's Publish (stage 11). -/
import Derived.Test.YtlokdkpfeckdoaaDoorI4
import Derived.Laws.LoneSync
namespace Go.Proofs.YtlokdkpfeckdoaaDoor
open Go.RowKit
open Adr
namespace Adr
/-- The areas that are published, in their order. -/
def av : Nat → Nat
  | 0 => 2
  | 1 => 3
  | 2 => 5
  | _ => 6
theorem av_lt (k : Nat) : av k < 7 := by unfold av; split <;> omega
/-- Behind so many of them. -/
def pubN (s : IS) : Nat → IS
  | 0 => s
  | k + 1 => (pubN s k).area (av k)
theorem pub_eq (s : IS) : s.pub = (pubN s 4).more := rfl
theorem pubN_n (s : IS) : ∀ k, (pubN s k).n = s.n
  | 0 => rfl
  | k + 1 => pubN_n s k
end Adr
set_option maxHeartbeats 800000 in
theorem load64_c (a : Addr) (x : Nat) (w : World) (hc : w.cell? a = some (.int .u64 (x : Int))) : Calls Tryd.prog 32 #[.pointer (some a)] w fun e w' => e = .returned (.int .u64 (x : Int)) ∧ w' = w := by
  have hl := run_call_load (P := Tryd.prog) Tryd.func42 (by kernel_rfl) (by kernel_rfl) (by kernel_rfl) .u64 (by kernel_rfl) hc
  go_enter Tryd.func32, Tryd.ntmps32
  go_wp2
  go_ret
  exact ⟨rfl, rfl⟩
set_option maxHeartbeats 800000 in
theorem add64_c (a : Addr) (x : Nat) (w : World) (hc : w.cell? a = some (.int .u64 (x : Int))) (hz : w.frozen? a = false) (hx : x < 1000000) : Calls Tryd.prog 30 #[.pointer (some a), .int .u64 1] w fun e w' => e = .returned (.int .u64 ((x + 1 : Nat) : Int)) ∧ w' = w.setCell a (.int .u64 ((x + 1 : Nat) : Int)) := by
  have hl := run_call_add (P := Tryd.prog) Tryd.func40 (by kernel_rfl) (by kernel_rfl) (by kernel_rfl) .u64 (by kernel_rfl) (y := 1) (s := ((x + 1 : Nat) : Int)) hc hz (by
    have e : IntKind.u64.wrap ((x : Int) + 1) = ((x + 1 : Nat) : Int) := by rw [IntKind.wrap_u64]; omega
    simp [Op.intArith, e])
  go_enter Tryd.func30, Tryd.ntmps30
  go_wp2
  go_ret
  exact ⟨rfl, rfl⟩
theorem idx4_0 (W : World) : (Instr.index 60 (.agg #[.int .i64 2, .int .i64 3, .int .i64 5, .int .i64 6]) (.int .i64 0)).run Tryd.prog W = .ok (.int .i64 2) W := by kernel_rfl
theorem idx4_1 (W : World) : (Instr.index 60 (.agg #[.int .i64 2, .int .i64 3, .int .i64 5, .int .i64 6]) (.int .i64 1)).run Tryd.prog W = .ok (.int .i64 3) W := by kernel_rfl
theorem idx4_2 (W : World) : (Instr.index 60 (.agg #[.int .i64 2, .int .i64 3, .int .i64 5, .int .i64 6]) (.int .i64 2)).run Tryd.prog W = .ok (.int .i64 5) W := by kernel_rfl
theorem idx4_3 (W : World) : (Instr.index 60 (.agg #[.int .i64 2, .int .i64 3, .int .i64 5, .int .i64 6]) (.int .i64 3)).run Tryd.prog W = .ok (.int .i64 6) W := by kernel_rfl
theorem idx4 (W : World) {k : Nat} (hk : k < 4) : (Instr.index 60 (.agg #[.int .i64 2, .int .i64 3, .int .i64 5, .int .i64 6]) (.int .i64 (k : Int))).run Tryd.prog W = .ok (.int .i64 (av k : Int)) W := by
  have hc : k = 0 ∨ k = 1 ∨ k = 2 ∨ k = 3 := by omega
  rcases hc with rfl | rfl | rfl | rfl
  · exact idx4_0 W
  · exact idx4_1 W
  · exact idx4_2 W
  · exact idx4_3 W
set_option maxHeartbeats 800000 in
theorem scans_c {w : World} {g : Nat} {s : IS} (t : Im w g s) : Calls Tryd.prog 26 #[.pointer (some ⟨g, 0, none⟩)] w fun e w' => e = .returned (.int .u64 (s.n : Int)) ∧ w' = w := by
  have X := hid_as (load64_c ⟨g, 1792, none⟩ s.n w t.num)
  clear t
  go_enter Tryd.func26, Tryd.ntmps26
  go_wp2_with (go_at_call 32; refine X.out.mono ?_; rintro e w' ⟨rfl, hw⟩; subst w')
  go_ret
  exact ⟨rfl, rfl⟩
set_option maxHeartbeats 1600000 in
theorem pub_c {w : World} {g : Nat} {s : IS} (t : Im w g s) (hn : s.n < 1000000) : Calls Tryd.prog 14 #[.pointer (some ⟨g, 0, none⟩)] w fun e w' => e = .returned (.tuple #[]) ∧ Im w' g s.pub ∧ Turn g w w' := by
  have T0 : Hid (Im w g (pubN s 0) ∧ Turn g w w) := ⟨t, Turn.refl _ _⟩
  have HN := hid_as hn
  clear t hn
  go_enter Tryd.func14, Tryd.ntmps14
  go_wp2
  go_loopw [3, 5] (fun _ i wr => ∃ k : Nat, k ≤ 4 ∧ i = .int .i64 k ∧ Hid (Im wr g (pubN s k) ∧ Turn g w wr)) (fun _ i _ => 4 - (intOf i).toNat)
  case atStart => exact ⟨0, by omega, rfl, T0⟩
  case round =>
    obtain ⟨k, hk, rfl, T⟩ := hrel
    by_cases hk4 : k < 4
    · have hx := fun W => idx4 W hk4
      have P := hid_as (fun (W : World) (h : Same wr W) => (⟨(T.out.1.same h).published (av k) (av_lt k), (T.out.2.trans (Turn.ofBelow h.below)).cells (u16f (pubN s k).k (av k * 128) 128) (av k * 128)⟩ : Im (W.setCells g (av k * 128) (u16f (pubN s k).k (av k * 128) 128)) g ((pubN s k).area (av k)) ∧ Turn g w (W.setCells g (av k * 128) (u16f (pubN s k).k (av k * 128) 128))))
      have ha := av_lt k
      have hr := T.out.1.wrk.range (av k * 128) 128 (by omega)
      have ht := T.out.1.thereO (av k * 128) 128 (by omega)
      have hl := u16f_len (pubN s k).k (av k * 128) 128
      have ho := u16f_one (pubN s k).k (av k * 128) 128
      have hu := undRow
      generalize u16f (pubN s k).k (av k * 128) 128 = cs at P hr hl ho
      have hi : (Tryd.prog.info? 46).map (·.size) = some cs.length := by rw [hl]; exact infoRow
      have E : Hid ((pubN s k).area (av k) = pubN s (k + 1)) := (rfl : (pubN s k).area (av k) = pubN s (k + 1))
      generalize av k = a at *
      have ha0 : (0 : Int) ≤ (a : Int) := by omega
      have ha7 : (a : Int) < 7 := by omega
      go_wp2
      go_region_held3 (fun w' => w'.rangeAt g (896 + a * 128) cs ∧ w'.there g (a * 128) 128) (go_keep_ranges) (fail)
      go_wp2
      go_roundw
      case rel => exact ⟨k + 1, by omega, by go_num, E.out ▸ P.out _ (Same.drew _)⟩
      case measure => simp [intOf]; omega
    · obtain rfl : k = 4 := by omega
      have X := hid_as (add64_c ⟨g, 1792, none⟩ (pubN s 4).n wr T.out.1.num (T.out.1.free _) (by rw [pubN_n]; exact HN.out))
      go_wp2_with (go_at_call 30; refine X.out.mono ?_; rintro e w' ⟨rfl, hw⟩; subst w')
      refine bodyPost_end (results_none Tryd.results14 _ _ _) rfl ?_
      exact ⟨rfl, T.out.1.setN _, T.out.2.set _ _⟩
end Go.Proofs.YtlokdkpfeckdoaaDoor
