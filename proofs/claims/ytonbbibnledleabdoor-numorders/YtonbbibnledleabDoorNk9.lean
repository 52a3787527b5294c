/- The law of order, whole. -/
import Derived.Test.YtonbbibnledleabDoorProg
import Derived.Test.YtonbbibnledleabDoorPlain
import Derived.Test.YtonbbibnledleabDoorNk5
import Derived.Test.YtonbbibnledleabDoorNk6
import Derived.Test.YtonbbibnledleabDoorNk7
import Derived.Test.YtonbbibnledleabDoorNk8
import Derived.WalkKit
import Derived.WalkSpells
import Derived.WalkLawsBesides
namespace Go.Proofs.YtonbbibnledleabDoor
open Go.RowKit
open Num

theorem orders_all (kind a b c : Int) (w : World) (hN : NamesAt w) : Calls Tryd.prog 3 #[.int .i64 kind, .int .i64 a, .int .i64 b, .int .i64 c] w fun e w' => e = .returned (.bool true) ∧ Kept w w' := by
  obtain ⟨v, hv⟩ : ∃ v, kind % 11 = v := ⟨_, rfl⟩
  have v0 : 0 ≤ v := by omega
  have v1 : v < 11 := by omega
  have h : 1 ≤ 1 + v ∧ 1 + v ≤ 11 := by omega
  rcases Int.lt_trichotomy (wr (1 + v) a) (wr (1 + v) b) with q | q | q
  · by_cases r : wr (1 + v) b < wr (1 + v) c
    · exact orders_lt1 kind v a b c w hN hv v0 v1 (by rw [isb_lt h]; simp; omega) (by rw [isb_eq h]; simp; omega) (by rw [isb_gt h]; simp; omega) (by rw [isb_le h]; simp; omega) (by rw [isb_ge h]; simp; omega) (by rw [isb_ne h]; simp; omega) (by rw [isb_gt h]; simp; omega) (by simp; omega) (by rw [isb_lt h]; simp; omega) (by rw [isb_lt h]; simp; omega)
    · exact orders_lt0 kind v a b c w hN hv v0 v1 (by rw [isb_lt h]; simp; omega) (by rw [isb_eq h]; simp; omega) (by rw [isb_gt h]; simp; omega) (by rw [isb_le h]; simp; omega) (by rw [isb_ge h]; simp; omega) (by rw [isb_ne h]; simp; omega) (by rw [isb_gt h]; simp; omega) (by simp; omega) (by rw [isb_lt h]; simp; omega)
  · exact orders_eq kind v a b c w hN hv v0 v1 (by rw [isb_lt h]; simp; omega) (by rw [isb_eq h]; simp; omega) (by rw [isb_gt h]; simp; omega) (by rw [isb_le h]; simp; omega) (by rw [isb_ge h]; simp; omega) (by rw [isb_ne h]; simp; omega) (by rw [isb_gt h]; simp; omega) (by simp; omega)
  · exact orders_gt kind v a b c w hN hv v0 v1 (by rw [isb_lt h]; simp; omega) (by rw [isb_eq h]; simp; omega) (by rw [isb_gt h]; simp; omega) (by rw [isb_le h]; simp; omega) (by rw [isb_ge h]; simp; omega) (by rw [isb_ne h]; simp; omega) (by rw [isb_gt h]; simp; omega) (by simp; omega)
end Go.Proofs.YtonbbibnledleabDoor
