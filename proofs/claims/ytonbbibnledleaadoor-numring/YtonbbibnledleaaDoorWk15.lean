/- The law of the ring. -/
import Derived.Test.YtonbbibnledleaaDoorProg
import Derived.Test.YtonbbibnledleaaDoorPlain
import Derived.Test.YtonbbibnledleaaDoorPlain6
import Derived.Test.YtonbbibnledleaaDoorLex
import Derived.Test.YtonbbibnledleaaDoorWk9
import Derived.Test.YtonbbibnledleaaDoorWk12
import Derived.Test.YtonbbibnledleaaDoorWk13
import Derived.Laws.EntriesVeiled
import Derived.Deep.QuietTactic
import Derived.BigQuiet
import Derived.WalkKit
import Derived.WalkSpells
import Derived.WalkLawsBesides
namespace Go.Proofs.YtonbbibnledleaaDoor
open Go.RowKit
open Num

theorem kept_drewN {a w : World} (h : Kept a w) (n : Nat) : Kept a (w.drewN n) := ⟨h.os, h.tape, h.output, h.size, h.block⟩
theorem beq_of_eq {a b : Int} (h : a = b) : (a == b) = true := by simp [h]
set_option maxHeartbeats 2000000 in
theorem do_n (op x y k : Int) (b : Nat) (w : World) (hc : w.cell? ⟨b, 0, none⟩ = some (.int .i64 k)) : Calls Tryd.prog 32 #[.int .i64 op, .int .i64 x, .int .i64 y, .pointer (some ⟨b, 0, none⟩)] w fun e w' => e = .returned (.int .i64 (apv op k x y)) ∧ w' = w := by
  go_enter Tryd.func32, Tryd.ntmps32
  go_wp2_with (go_at_call 25; refine (apply_n _ _ _ _ _).mono ?_; rintro e w' ⟨rfl, rfl⟩)
  go_ret
  exact ⟨rfl, rfl⟩
set_option maxHeartbeats 2000000 in
theorem add_n (x y k : Int) (b c : Nat) (w : World) (hc : w.cell? ⟨b, 0, none⟩ = some (.int .i64 k)) (hd : w.cell? ⟨c, 0, none⟩ = some (.func (.func 32) #[] #[.pointer (some ⟨b, 0, none⟩)])) : Calls Tryd.prog 33 #[.int .i64 x, .int .i64 y, .pointer (some ⟨c, 0, none⟩)] w fun e w' => e = .returned (.int .i64 (apv 8 k x y)) ∧ w' = w := by
  go_enter Tryd.func33, Tryd.ntmps33
  go_wp2_with (go_at_call 32; refine (do_n _ _ _ _ _ _ hc).mono ?_; rintro e w' ⟨rfl, rfl⟩)
  go_ret
  exact ⟨rfl, rfl⟩
set_option maxHeartbeats 2000000 in
theorem mul_n (x y k : Int) (b c : Nat) (w : World) (hc : w.cell? ⟨b, 0, none⟩ = some (.int .i64 k)) (hd : w.cell? ⟨c, 0, none⟩ = some (.func (.func 32) #[] #[.pointer (some ⟨b, 0, none⟩)])) : Calls Tryd.prog 34 #[.int .i64 x, .int .i64 y, .pointer (some ⟨c, 0, none⟩)] w fun e w' => e = .returned (.int .i64 (apv 5 k x y)) ∧ w' = w := by
  go_enter Tryd.func34, Tryd.ntmps34
  go_wp2_with (go_at_call 32; refine (do_n _ _ _ _ _ _ hc).mono ?_; rintro e w' ⟨rfl, rfl⟩)
  go_ret
  exact ⟨rfl, rfl⟩
set_option maxHeartbeats 2000000 in
theorem ring_all (kind a b c : Int) (w : World) (hN : NamesAt w) : Calls Tryd.prog 7 #[.int .i64 kind, .int .i64 a, .int .i64 b, .int .i64 c] w fun e w' => e = .returned (.bool true) ∧ Kept w w' := by
  obtain ⟨v, hv⟩ : ∃ v, kind % 6 = v := ⟨_, rfl⟩
  have v0 : 0 ≤ v := by omega
  have v1 : v < 6 := by omega
  have HV : Hid (kind % 6 = v) := hv
  clear hv
  have h : 2 ≤ 2 + v ∧ 2 + v ≤ 11 := by omega
  have e1 := beq_of_eq (r1 h a b)
  have e2 := beq_of_eq (r2 h a b)
  have e3 := beq_of_eq (r3 h a b c)
  have e4 := beq_of_eq (r4 h a b c)
  have e5 := beq_of_eq (r5 h a b c)
  have e6 := beq_of_eq (r6 h a b)
  have e7 := beq_of_eq (r7 h a)
  clear h
  go_enter Tryd.func7, Tryd.ntmps7
  go_wp2_with (first | (go_at_call 9; refine (known_n _ hN).mono ?_; rintro e w' ⟨rfl, hw⟩; subst w') | (go_at_call 22; refine (place_at _ _ _ HV.out _ (by decide) (by decide)).mono ?_; rintro e w' ⟨rfl, hw⟩; subst w'))
  generalize hw2 : (w.alloc (Obj.cells #[Value.int IntKind.i64 (2 + v)] 3)).alloc (Obj.cells #[Value.func (Fn.func 32) #[] #[Value.pointer (some { block := w.heap.size, off := 0 })]] 40) = w2
  have K2 : Hid (Kept w w2) := by subst hw2; exact ((Kept.refl w).alloc _).alloc _
  have c1 : w2.cell? ⟨w.heap.size, 0, none⟩ = some (.int .i64 (2 + v)) := by subst hw2; simp [go_sem]
  have c2 : w2.cell? ⟨w.heap.size + 1, 0, none⟩ = some (.func (.func 32) #[] #[.pointer (some ⟨w.heap.size, 0, none⟩)]) := by subst hw2; simp [go_sem]
  clear hw2
  have A1 := fun n x y => add_n x y (2 + v) w.heap.size (w.heap.size + 1) (w2.drewN n) (by simp [go_sem, c1]) (by simp [go_sem, c2])
  have A2 := fun n x y => mul_n x y (2 + v) w.heap.size (w.heap.size + 1) (w2.drewN n) (by simp [go_sem, c1]) (by simp [go_sem, c2])
  have A3 := fun n x y => do_n 9 x y (2 + v) w.heap.size (w2.drewN n) (by simp [go_sem, c1])
  have A4 := fun n x => wrap_n (2 + v) x (w2.drewN n)
  have A5 := fun n x => neg_n (2 + v) x (w2.drewN n)
  generalize apv 8 (2 + v) = ad at *
  generalize apv 5 (2 + v) = mu at *
  generalize apv 9 (2 + v) = su at *
  generalize wr (2 + v) = wk at *
  generalize ngv (2 + v) = ng at *
  refine wp_region_quiet_lit (by as_aux_lemma => kernel_rfl) ?_ ?_
  · clear A1 A2 A3 A4 A5 e1 e2 e3 e4 e5 e6 e7 c1 c2 K2
    refine lexB_by 97 (by as_aux_lemma => kernel_rfl) (by as_aux_lemma => kernel_rfl) (by as_aux_lemma => kernel_rfl) ?_
    refine lex_chunk 0 4 (by as_aux_lemma => kernel_rfl) ?_
    refine lex_chunk 4 4 (by as_aux_lemma => kernel_rfl) ?_
    refine lex_chunk 8 4 (by as_aux_lemma => kernel_rfl) ?_
    refine lex_chunk 12 4 (by as_aux_lemma => kernel_rfl) ?_
    refine lex_chunk 16 4 (by as_aux_lemma => kernel_rfl) ?_
    refine lex_chunk 20 4 (by as_aux_lemma => kernel_rfl) ?_
    refine lex_chunk 24 4 (by as_aux_lemma => kernel_rfl) ?_
    refine lex_chunk 28 4 (by as_aux_lemma => kernel_rfl) ?_
    refine lex_chunk 32 4 (by as_aux_lemma => kernel_rfl) ?_
    refine lex_chunk 36 4 (by as_aux_lemma => kernel_rfl) ?_
    refine lex_chunk 40 4 (by as_aux_lemma => kernel_rfl) ?_
    refine lex_chunk 44 4 (by as_aux_lemma => kernel_rfl) ?_
    refine lex_chunk 48 4 (by as_aux_lemma => kernel_rfl) ?_
    refine lex_chunk 52 4 (by as_aux_lemma => kernel_rfl) ?_
    refine lex_chunk 56 4 (by as_aux_lemma => kernel_rfl) ?_
    refine lex_chunk 60 4 (by as_aux_lemma => kernel_rfl) ?_
    refine lex_chunk 64 4 (by as_aux_lemma => kernel_rfl) ?_
    refine lex_chunk 68 4 (by as_aux_lemma => kernel_rfl) ?_
    refine lex_chunk 72 4 (by as_aux_lemma => kernel_rfl) ?_
    refine lex_chunk 76 4 (by as_aux_lemma => kernel_rfl) ?_
    refine lex_chunk 80 4 (by as_aux_lemma => kernel_rfl) ?_
    refine lex_chunk 84 4 (by as_aux_lemma => kernel_rfl) ?_
    refine lex_chunk 88 4 (by as_aux_lemma => kernel_rfl) ?_
    refine lex_chunk 92 4 (by as_aux_lemma => kernel_rfl) ?_
    refine lex_chunk 96 1 (by as_aux_lemma => kernel_rfl) ?_
    intro k h1 h2
    omega
  repeat (first | go_big_quiet_step ((first | (go_at_call 33; exact Calls.quiet_of_same (A1 _ _ _)) | (go_at_call 34; exact Calls.quiet_of_same (A2 _ _ _)) | (go_at_call 32; exact Calls.quiet_of_same (A3 _ _ _)) | (go_at_call 23; exact Calls.quiet_of_same (A4 _ _)) | (go_at_call 27; exact Calls.quiet_of_same (A5 _ _)))) | quiet_step ((first | (go_at_call 33; exact Calls.quiet_of_same (A1 _ _ _)) | (go_at_call 34; exact Calls.quiet_of_same (A2 _ _ _)) | (go_at_call 32; exact Calls.quiet_of_same (A3 _ _ _)) | (go_at_call 23; exact Calls.quiet_of_same (A4 _ _)) | (go_at_call 27; exact Calls.quiet_of_same (A5 _ _)))))
  refine wpQuiet_nil ?_
  intro _ hw'
  obtain ⟨nq, hw''⟩ := hw'
  subst hw''
  go_wp2
  go_ret
  exact ⟨rfl, kept_drewN K2.out nq⟩
end Go.Proofs.YtonbbibnledleaaDoor
