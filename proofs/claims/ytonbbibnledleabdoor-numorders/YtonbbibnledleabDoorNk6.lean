/- The law of order: less, all three. -/
import Derived.Test.YtonbbibnledleabDoorProg
import Derived.Test.YtonbbibnledleabDoorPlain
import Derived.Test.YtonbbibnledleabDoorNk4
import Derived.WalkKit
import Derived.WalkSpells
import Derived.WalkLawsBesides
namespace Go.Proofs.YtonbbibnledleabDoor
open Go.RowKit
open Num

set_option maxHeartbeats 2000000 in
theorem orders_lt1 (kind v a b c : Int) (w : World) (hN : NamesAt w) (hv : kind % 11 = v) (v0 : 0 ≤ v) (v1 : v < 11) (f1 : isb 10 (1 + v) a b = true) (f2 : isb 14 (1 + v) a b = false) (f3 : isb 11 (1 + v) a b = false) (f4 : isb 12 (1 + v) a b = true) (f5 : isb 13 (1 + v) a b = false) (f6 : isb 15 (1 + v) a b = true) (f7 : isb 11 (1 + v) b a = true) (f8 : (wr (1 + v) a == wr (1 + v) b) = false) (f9 : isb 10 (1 + v) b c = true) (f10 : isb 10 (1 + v) a c = true) : Calls Tryd.prog 3 #[.int .i64 kind, .int .i64 a, .int .i64 b, .int .i64 c] w fun e w' => e = .returned (.bool true) ∧ Kept w w' := by
  have HV : Hid (kind % 11 = v) := hv
  clear hv
  go_enter Tryd.func3, Tryd.ntmps3
  go_wp2_with (first | (go_at_call 5; refine (known_n _ hN).mono ?_; rintro e w' ⟨rfl, hw⟩; subst w') | (go_at_call 6; refine (place_at _ _ _ HV.out _ (by decide) (by decide)).mono ?_; rintro e w' ⟨rfl, hw⟩; subst w') | (go_at_call 7; refine (is_n _ _ _ (1 + v) w.heap.size _ (by simp [go_sem])).mono ?_; rintro e w' ⟨rfl, hw⟩; subst w'))
  generalize hw2 : (w.alloc (Obj.cells #[Value.int IntKind.i64 (1 + v)] 3)).alloc (Obj.cells #[Value.bool true, Value.bool false, Value.bool false] 4) = w2
  have K2 : Hid (Kept w w2) := by subst hw2; exact ((Kept.refl w).alloc _).alloc _
  have c1 : w2.cell? ⟨w.heap.size, 0, none⟩ = some (.int .i64 (1 + v)) := by subst hw2; simp [go_sem]
  have d0 : w2.cell? ⟨w.heap.size + 1, 0, none⟩ = some (.bool true) := by subst hw2; simp [go_sem]
  have d1 : w2.cell? ⟨w.heap.size + 1, 1, none⟩ = some (.bool false) := by subst hw2; simp [go_sem]
  have d2 : w2.cell? ⟨w.heap.size + 1, 2, none⟩ = some (.bool false) := by subst hw2; simp [go_sem]
  clear hw2
  go_loop [14, 40] (fun n i => (n = .int .i64 0 ∧ i = .int .i64 0) ∨ (n = .int .i64 1 ∧ i = .int .i64 1) ∨ (n = .int .i64 1 ∧ i = .int .i64 2) ∨ (n = .int .i64 1 ∧ i = .int .i64 3)) (fun _ i => 3 - (intOf i).toNat)
  case atStart => exact Or.inl ⟨rfl, rfl⟩
  case round =>
    rcases hrel with ⟨rfl, rfl⟩ | ⟨rfl, rfl⟩ | ⟨rfl, rfl⟩ | ⟨rfl, rfl⟩
    · go_wp2
      go_round
      case rel => exact Or.inr (Or.inl ⟨rfl, rfl⟩)
      case measure => simp [intOf]
    · go_wp2
      go_round
      case rel => exact Or.inr (Or.inr (Or.inl ⟨rfl, rfl⟩))
      case measure => simp [intOf]
    · go_wp2
      go_round
      case rel => exact Or.inr (Or.inr (Or.inr ⟨rfl, rfl⟩))
      case measure => simp [intOf]
    · clear d0 d1 d2
      have A1 := fun n op x y => is_n op x y (1 + v) w.heap.size (w2.drewN n) (by simp [go_sem, c1])
      have A4 := fun n x => wrap_n (1 + v) x (w2.drewN n)
      generalize wr (1 + v) = wk at *
      go_wp2_with fail
      refine wp_region_quiet_lit (by as_aux_lemma => kernel_rfl) ?_ ?_
      · refine lexB_by 51 (by as_aux_lemma => kernel_rfl) (by as_aux_lemma => kernel_rfl) (by as_aux_lemma => kernel_rfl) ?_
        refine lex_chunk 0 4 (by as_aux_lemma => kernel_rfl) ?_
        refine lex_chunk 4 4 (by as_aux_lemma => kernel_rfl) ?_
        refine lex_chunk 8 4 (by as_aux_lemma => kernel_rfl) ?_
        refine lex_chunk 12 4 (by as_aux_lemma => kernel_rfl) ?_
        refine lex_chunk 16 4 (by as_aux_lemma => kernel_rfl) ?_
        refine lex_chunk 20 4 (by as_aux_lemma => kernel_rfl) ?_
        refine lex_chunk 24 4 (by as_aux_lemma => kernel_rfl) ?_
        refine lex_chunk 28 4 (by as_aux_lemma => kernel_rfl) ?_
        refine lex_chunk 32 4 (by as_aux_lemma => kernel_rfl) ?_
        refine lex_chunk 36 4 (by as_aux_lemma => kernel_rfl) ?_
        refine lex_chunk 40 4 (by as_aux_lemma => kernel_rfl) ?_
        refine lex_chunk 44 4 (by as_aux_lemma => kernel_rfl) ?_
        refine lex_chunk 48 3 (by as_aux_lemma => kernel_rfl) ?_
        intro k h1 h2
        omega
      repeat (first | go_big_quiet_step ((first | (go_at_call 7; exact Calls.quiet_of_same (A1 _ _ _ _)) | (go_at_call 9; exact Calls.quiet_of_same (A4 _ _)))) | quiet_step ((first | (go_at_call 7; exact Calls.quiet_of_same (A1 _ _ _ _)) | (go_at_call 9; exact Calls.quiet_of_same (A4 _ _)))))
      refine wpQuiet_nil ?_
      intro _ hw'
      obtain ⟨nq, hw''⟩ := hw'
      subst hw''
      go_wp2_with (first | (go_at_call 7; refine (A1 _ _ _ _).mono ?_; rintro e w' ⟨rfl, hw⟩; subst w'))
      go_ret
      exact ⟨rfl, kept_draws K2.out nq⟩

end Go.Proofs.YtonbbibnledleabDoor
