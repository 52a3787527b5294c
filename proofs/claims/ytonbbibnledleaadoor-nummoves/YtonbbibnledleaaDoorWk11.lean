/- The walk of the kind that a word names. -/
import Derived.Test.YtonbbibnledleaaDoorProg
import Derived.Test.YtonbbibnledleaaDoorPlain
import Derived.Test.YtonbbibnledleaaDoorPlain4
import Derived.Test.YtonbbibnledleaaDoorWk1
import Derived.WalkKit
import Derived.WalkSpells
import Derived.WalkLawsBesides
namespace Go.Proofs.YtonbbibnledleaaDoor
open Go.RowKit
open Num

theorem idx0 (w : World) : (Instr.index 48 (.agg cells12) (.int .i64 0)).run Tryd.prog w = .ok (.string (word 0)) w := by kernel_rfl
theorem idx1 (w : World) : (Instr.index 48 (.agg cells12) (.int .i64 1)).run Tryd.prog w = .ok (.string (word 1)) w := by kernel_rfl
theorem idx2 (w : World) : (Instr.index 48 (.agg cells12) (.int .i64 2)).run Tryd.prog w = .ok (.string (word 2)) w := by kernel_rfl
theorem idx3 (w : World) : (Instr.index 48 (.agg cells12) (.int .i64 3)).run Tryd.prog w = .ok (.string (word 3)) w := by kernel_rfl
theorem idx4 (w : World) : (Instr.index 48 (.agg cells12) (.int .i64 4)).run Tryd.prog w = .ok (.string (word 4)) w := by kernel_rfl
theorem idx5 (w : World) : (Instr.index 48 (.agg cells12) (.int .i64 5)).run Tryd.prog w = .ok (.string (word 5)) w := by kernel_rfl
theorem idx6 (w : World) : (Instr.index 48 (.agg cells12) (.int .i64 6)).run Tryd.prog w = .ok (.string (word 6)) w := by kernel_rfl
theorem idx7 (w : World) : (Instr.index 48 (.agg cells12) (.int .i64 7)).run Tryd.prog w = .ok (.string (word 7)) w := by kernel_rfl
theorem idx8 (w : World) : (Instr.index 48 (.agg cells12) (.int .i64 8)).run Tryd.prog w = .ok (.string (word 8)) w := by kernel_rfl
theorem idx9 (w : World) : (Instr.index 48 (.agg cells12) (.int .i64 9)).run Tryd.prog w = .ok (.string (word 9)) w := by kernel_rfl
theorem idx10 (w : World) : (Instr.index 48 (.agg cells12) (.int .i64 10)).run Tryd.prog w = .ok (.string (word 10)) w := by kernel_rfl
theorem idx11 (w : World) : (Instr.index 48 (.agg cells12) (.int .i64 11)).run Tryd.prog w = .ok (.string (word 11)) w := by kernel_rfl
theorem idx (k : Nat) (hk : k < 12) (w : World) : (Instr.index 48 (.agg cells12) (.int .i64 k)).run Tryd.prog w = .ok (.string (word k)) w := by
  have hc : k = 0 ∨ k = 1 ∨ k = 2 ∨ k = 3 ∨ k = 4 ∨ k = 5 ∨ k = 6 ∨ k = 7 ∨ k = 8 ∨ k = 9 ∨ k = 10 ∨ k = 11 := by omega
  rcases hc with rfl | rfl | rfl | rfl | rfl | rfl | rfl | rfl | rfl | rfl | rfl | rfl
  · exact idx0 w
  · exact idx1 w
  · exact idx2 w
  · exact idx3 w
  · exact idx4 w
  · exact idx5 w
  · exact idx6 w
  · exact idx7 w
  · exact idx8 w
  · exact idx9 w
  · exact idx10 w
  · exact idx11 w

set_option maxHeartbeats 2000000 in
theorem kind_n (s : ByteArray) (w : World) (hN : NamesAt w) : Calls Tryd.prog 20 #[.string s] w fun e w' => e = .returned (.int .i64 (kd s)) ∧ w' = w := by
  obtain ⟨tt, fr, hg1⟩ := hN
  go_enter Tryd.func20, Tryd.ntmps20
  go_wp2_with (refine wpList_load_row rfl 48 _ rfl 0 rfl tt _ fr _ hg1 Tryd.underlying48 rfl (by kernel_rfl) ?_)
  clear hg1
  go_loop [6] (fun i => ∃ k : Nat, k ≤ 12 ∧ i = .int .i64 k ∧ Hid (∀ j, j < k → ¬ s = word j)) (fun i => 12 - (intOf i).toNat)
  case atStart => exact ⟨0, by omega, rfl, fun j hj => by omega⟩
  case round =>
    obtain ⟨k, hk, rfl, hs⟩ := hrel
    by_cases hlt : k < 12
    · have ix := fun w => idx k hlt w
      by_cases he : s = word k
      · subst he
        go_wp2
        go_ret
        exact ⟨ret_int (kd_found _ k hlt rfl).symm, rfl⟩
      · have he2 : ((word k).toList == s.toList) = false := beq_eq_false_iff_ne.2 (fun q => he (text_inj q).symm)
        have he3 : Hid (∀ j, j < k + 1 → ¬ s = word j) := fun j hj q => by
          by_cases e : j = k
          · subst e; exact he q
          · exact hs.out j (by omega) q
        clear he
        go_wp2
        go_round
        case rel => exact ⟨k + 1, by omega, by go_num, he3⟩
        case measure => simp [intOf]; omega
    · go_wp2
      go_ret
      refine ⟨ret_int ?_, rfl⟩
      rw [kd_none s (fun j h1 h2 => hs.out j (by omega))]
end Go.Proofs.YtonbbibnledleaaDoor
