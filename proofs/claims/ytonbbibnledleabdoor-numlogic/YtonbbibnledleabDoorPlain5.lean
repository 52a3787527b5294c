/- A wrapped number lies in its range and stays. -/
import Derived.Test.YtonbbibnledleabDoorPlain2
namespace Go.Proofs.YtonbbibnledleabDoor
namespace Num
open Go.RowKit
theorem wr_lo (k n : Int) : lo k ≤ wr k n := by
  rcases kind_cases k with rfl | rfl | rfl | rfl | rfl | rfl | rfl | rfl | rfl | rfl | rfl | h | h
  · show 0 ≤ (if n = 0 then (0 : Int) else 1); split <;> omega
  any_goals (show _ ≤ sw _ _; unfold sw lo; simp; omega)
  any_goals (show _ ≤ uw _ _; unfold uw lo; simp; omega)
  all_goals rw [wr_none (by omega), lo_none (by omega)]; exact Int.le_refl _
theorem wr_hi (k n : Int) : wr k n ≤ hi k := by
  rcases kind_cases k with rfl | rfl | rfl | rfl | rfl | rfl | rfl | rfl | rfl | rfl | rfl | h | h
  · show (if n = 0 then (0 : Int) else 1) ≤ 1; split <;> omega
  any_goals (show sw _ _ ≤ _; unfold sw hi; simp; omega)
  any_goals (show uw _ _ ≤ _; unfold uw hi; simp; omega)
  all_goals rw [wr_none (by omega), hi_none (by omega)]; exact Int.le_refl _
theorem wr_wr (k n : Int) : wr k (wr k n) = wr k n := by
  rcases kind_cases k with rfl | rfl | rfl | rfl | rfl | rfl | rfl | rfl | rfl | rfl | rfl | h | h
  · by_cases h : n = 0
    · subst h; rfl
    · have e : wr 1 n = 1 := by show (if n = 0 then (0 : Int) else 1) = 1; rw [if_neg h]
      rw [e]; rfl
  any_goals (show sw _ (sw _ _) = sw _ _; unfold sw; omega)
  any_goals (show uw _ (uw _ _) = uw _ _; unfold uw; omega)
  all_goals rw [wr_none (by omega), wr_none (by omega)]
/- The difference of a number and its wrap, moved up by what the width leaves, is nothing. -/
theorem up_s8 (n : Int) : (IntKind.u64.wrap (IntKind.u64.wrap (wrap64 (sw 256 n - n)) * 72057594037927936) == 0) = true := by
  rw [IntKind.wrap_u64, IntKind.wrap_u64, beq_iff_eq]; unfold sw wrap64; omega
theorem up_s16 (n : Int) : (IntKind.u64.wrap (IntKind.u64.wrap (wrap64 (sw 65536 n - n)) * 281474976710656) == 0) = true := by
  rw [IntKind.wrap_u64, IntKind.wrap_u64, beq_iff_eq]; unfold sw wrap64; omega
theorem up_s32 (n : Int) : (IntKind.u64.wrap (IntKind.u64.wrap (wrap64 (sw 4294967296 n - n)) * 4294967296) == 0) = true := by
  rw [IntKind.wrap_u64, IntKind.wrap_u64, beq_iff_eq]; unfold sw wrap64; omega
theorem up_u8 (n : Int) : (IntKind.u64.wrap (IntKind.u64.wrap (wrap64 (uw 256 n - n)) * 72057594037927936) == 0) = true := by
  rw [IntKind.wrap_u64, IntKind.wrap_u64, beq_iff_eq]; unfold uw wrap64; omega
theorem up_u16 (n : Int) : (IntKind.u64.wrap (IntKind.u64.wrap (wrap64 (uw 65536 n - n)) * 281474976710656) == 0) = true := by
  rw [IntKind.wrap_u64, IntKind.wrap_u64, beq_iff_eq]; unfold uw wrap64; omega
theorem up_u32 (n : Int) : (IntKind.u64.wrap (IntKind.u64.wrap (wrap64 (uw 4294967296 n - n)) * 4294967296) == 0) = true := by
  rw [IntKind.wrap_u64, IntKind.wrap_u64, beq_iff_eq]; unfold uw wrap64; omega
end Num
end Go.Proofs.YtonbbibnledleabDoor
