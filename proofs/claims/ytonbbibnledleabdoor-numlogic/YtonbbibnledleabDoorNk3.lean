/- The walks of words and of the known answers. -/
import Derived.Test.YtonbbibnledleabDoorProg
import Derived.Test.YtonbbibnledleabDoorPlain
import Derived.Test.YtonbbibnledleabDoorPlain4
import Derived.Test.YtonbbibnledleabDoorNk2
import Derived.WalkKit
import Derived.WalkSpells
import Derived.WalkLawsBesides
namespace Go.Proofs.YtonbbibnledleabDoor
open Go.RowKit
open Num

set_option maxHeartbeats 2000000 in
theorem name_n (k : Int) (w : World) (hN : NamesAt w) : Calls Tryd.prog 15 #[.int .i64 k] w fun e w' => e = .returned (.string (word k.toNat)) ∧ w' = w := by
  have c1 := hN.cell 1
  have c2 := hN.cell 2
  have c3 := hN.cell 3
  have c4 := hN.cell 4
  have c5 := hN.cell 5
  have c6 := hN.cell 6
  have c7 := hN.cell 7
  have c8 := hN.cell 8
  have c9 := hN.cell 9
  have c10 := hN.cell 10
  have c11 := hN.cell 11
  simp only [cells12] at c1 c2 c3 c4 c5 c6 c7 c8 c9 c10 c11
  clear hN
  rcases kind_cases k with rfl | rfl | rfl | rfl | rfl | rfl | rfl | rfl | rfl | rfl | rfl | h | h
  all_goals
    go_enter Tryd.func15, Tryd.ntmps15
    go_wp2
    go_ret
  all_goals first | exact ⟨rfl, rfl⟩ | exact ⟨ret_str (word_none (by omega)).symm, rfl⟩

theorem idx0 (w : World) : (Instr.index 40 (.agg cells12) (.int .i64 0)).run Tryd.prog w = .ok (.string (word 0)) w := by kernel_rfl

theorem idx1 (w : World) : (Instr.index 40 (.agg cells12) (.int .i64 1)).run Tryd.prog w = .ok (.string (word 1)) w := by kernel_rfl

theorem idx2 (w : World) : (Instr.index 40 (.agg cells12) (.int .i64 2)).run Tryd.prog w = .ok (.string (word 2)) w := by kernel_rfl

theorem idx3 (w : World) : (Instr.index 40 (.agg cells12) (.int .i64 3)).run Tryd.prog w = .ok (.string (word 3)) w := by kernel_rfl

theorem idx4 (w : World) : (Instr.index 40 (.agg cells12) (.int .i64 4)).run Tryd.prog w = .ok (.string (word 4)) w := by kernel_rfl

theorem idx5 (w : World) : (Instr.index 40 (.agg cells12) (.int .i64 5)).run Tryd.prog w = .ok (.string (word 5)) w := by kernel_rfl

theorem idx6 (w : World) : (Instr.index 40 (.agg cells12) (.int .i64 6)).run Tryd.prog w = .ok (.string (word 6)) w := by kernel_rfl

theorem idx7 (w : World) : (Instr.index 40 (.agg cells12) (.int .i64 7)).run Tryd.prog w = .ok (.string (word 7)) w := by kernel_rfl

theorem idx8 (w : World) : (Instr.index 40 (.agg cells12) (.int .i64 8)).run Tryd.prog w = .ok (.string (word 8)) w := by kernel_rfl

theorem idx9 (w : World) : (Instr.index 40 (.agg cells12) (.int .i64 9)).run Tryd.prog w = .ok (.string (word 9)) w := by kernel_rfl

theorem idx10 (w : World) : (Instr.index 40 (.agg cells12) (.int .i64 10)).run Tryd.prog w = .ok (.string (word 10)) w := by kernel_rfl

theorem idx11 (w : World) : (Instr.index 40 (.agg cells12) (.int .i64 11)).run Tryd.prog w = .ok (.string (word 11)) w := by kernel_rfl

theorem idx (k : Nat) (hk : k < 12) (w : World) : (Instr.index 40 (.agg cells12) (.int .i64 k)).run Tryd.prog w = .ok (.string (word k)) w := by
  have hc : k = 0 ∨ k = 1 ∨ k = 2 ∨ k = 3 ∨ k = 4 ∨ k = 5 ∨ k = 6 ∨ k = 7 ∨ k = 8 ∨ k = 9 ∨ k = 10 ∨ k = 11 := by omega
  rcases hc with rfl | rfl | rfl | rfl | rfl | rfl | rfl | rfl | rfl | rfl | rfl | rfl
  · exact idx0 w
  · exact idx1 w
  · exact idx2 w
  · exact idx3 w
  · exact idx4 w
  · exact idx5 w
  · exact idx6 w
  · exact idx7 w
  · exact idx8 w
  · exact idx9 w
  · exact idx10 w
  · exact idx11 w

set_option maxHeartbeats 2000000 in
theorem kind_n (s : ByteArray) (w : World) (hN : NamesAt w) : Calls Tryd.prog 16 #[.string s] w fun e w' => e = .returned (.int .i64 (kd s)) ∧ w' = w := by
  obtain ⟨tt, fr, hg1⟩ := hN
  go_enter Tryd.func16, Tryd.ntmps16
  go_wp2_with (refine wpList_load_row rfl 40 _ rfl 0 rfl tt _ fr _ hg1 Tryd.underlying40 rfl (by kernel_rfl) ?_)
  clear hg1
  go_loop [6] (fun i => ∃ k : Nat, k ≤ 12 ∧ i = .int .i64 k ∧ Hid (∀ j, j < k → ¬ s = word j)) (fun i => 12 - (intOf i).toNat)
  case atStart => exact ⟨0, by omega, rfl, fun j hj => by omega⟩
  case round =>
    obtain ⟨k, hk, rfl, hs⟩ := hrel
    by_cases hlt : k < 12
    · have ix := fun w => idx k hlt w
      by_cases he : s = word k
      · subst he
        go_wp2
        go_ret
        exact ⟨ret_int (kd_found _ k hlt rfl).symm, rfl⟩
      · have he2 : ((word k).toList == s.toList) = false := beq_eq_false_iff_ne.2 (fun q => he (text_inj q).symm)
        have he3 : Hid (∀ j, j < k + 1 → ¬ s = word j) := fun j hj q => by
          by_cases e : j = k
          · subst e; exact he q
          · exact hs.out j (by omega) q
        clear he
        go_wp2
        go_round
        case rel => exact ⟨k + 1, by omega, by go_num, he3⟩
        case measure => simp [intOf]; omega
    · go_wp2
      go_ret
      refine ⟨ret_int ?_, rfl⟩
      rw [kd_none s (fun j h1 h2 => hs.out j (by omega))]

theorem k1 : apv 6 3 (-7) 2 = -3 := by decide +kernel

theorem k2 : apf 6 3 2 = 0 := by decide +kernel

theorem k3 : apv 7 3 (-7) 2 = -1 := by decide +kernel

theorem k4 : apv 6 3 (-32768) (-1) = -32768 := by decide +kernel

theorem k5 : apf 6 3 0 = 1 := by decide +kernel

theorem k6 : wr 2 200 = -56 := by decide +kernel

theorem k7 : wd 7 = 32 := by decide +kernel

theorem k8 : kd ⟨#[87, 79, 82, 68]⟩ = 9 := by decide +kernel

theorem k9 : (word 11).toList = [84, 73, 77, 69] := by rw [ByteArray.toList_eq]; rfl

set_option maxHeartbeats 2000000 in
theorem known_n (w : World) (hN : NamesAt w) : Calls Tryd.prog 5 #[] w fun e w' => e = .returned (.bool true) ∧ w' = w := by
  have e1 := k1
  have e2 := k2
  have e3 := k3
  have e4 := k4
  have e5 := k5
  have e6 := k6
  have e7 := k7
  have e8 := k8
  have e9 := k9
  go_enter Tryd.func5, Tryd.ntmps5
  go_wp2_with (first | (go_at_call 8; refine (apply_n _ _ _ _ _).mono ?_; rintro e w' ⟨rfl, rfl⟩) | (go_at_call 9; refine (wrap_n _ _ _).mono ?_; rintro e w' ⟨rfl, rfl⟩) | (go_at_call 17; refine (width_n _ _).mono ?_; rintro e w' ⟨rfl, rfl⟩) | (go_at_call 15; refine (name_n _ _ hN).mono ?_; rintro e w' ⟨rfl, rfl⟩) | (go_at_call 16; refine (kind_n _ _ hN).mono ?_; rintro e w' ⟨rfl, rfl⟩))
  go_ret
  exact ⟨rfl, rfl⟩
end Go.Proofs.YtonbbibnledleabDoor
