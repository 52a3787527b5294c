/- The law of logic. -/
import Derived.Test.YtonbbibnledleabDoorProg
import Derived.Test.YtonbbibnledleabDoorPlain
import Derived.Test.YtonbbibnledleabDoorNk10
import Derived.WalkKit
import Derived.WalkSpells
import Derived.WalkLawsBesides
namespace Go.Proofs.YtonbbibnledleabDoor
open Go.RowKit
open Num

set_option maxHeartbeats 2000000 in
theorem logic_any (kind v k a b c : Int) (w : World) (hN : NamesAt w) (hv : kind % 4 = v) (v0 : 0 ≤ v) (v1 : v < 4)
    (hcell : (w.alloc (Obj.cells #[Value.int IntKind.i64 1, Value.int IntKind.i64 8, Value.int IntKind.i64 9, Value.int IntKind.i64 10] 3)).cell? ⟨w.heap.size, v.toNat, none⟩ = some (.int .i64 k))
    (e1 : (ntv k (ntv k a) == wr k a) = true) (e2 : (ntv k (apv 16 k a b) == apv 18 k (ntv k a) (ntv k b)) = true) (e3 : (apv 16 k a (apv 18 k b c) == apv 18 k (apv 16 k a b) (apv 16 k a c)) = true)
    (e4 : (apv 17 k a b == apv 16 k (apv 18 k a b) (ntv k (apv 16 k a b))) = true) (e5 : (apv 17 k (apv 17 k a b) b == wr k a) = true) (e6 : (apv 16 k a (ntv k a) == 0) = true) :
    Calls Tryd.prog 4 #[.int .i64 kind, .int .i64 a, .int .i64 b, .int .i64 c] w fun e w' => e = .returned (.bool true) ∧ Kept w w' := by
  have HV : Hid (kind % 4 = v) := hv
  clear hv
  go_enter Tryd.func4, Tryd.ntmps4
  go_wp2_with (first | (go_at_call 5; refine (known_n _ hN).mono ?_; rintro e w' ⟨rfl, hw⟩; subst w') | (go_at_call 6; refine (place_at _ _ _ HV.out _ (by decide) (by decide)).mono ?_; rintro e w' ⟨rfl, hw⟩; subst w'))
  clear hcell
  generalize hw2 : ((w.alloc (Obj.cells #[Value.int IntKind.i64 1, Value.int IntKind.i64 8, Value.int IntKind.i64 9, Value.int IntKind.i64 10] 3)).alloc (Obj.cells #[Value.int IntKind.i64 k] 3)).alloc (Obj.cells #[Value.func (Fn.func 10) #[] #[Value.pointer (some { block := w.heap.size + 1, off := 0 })]] 31) = w2
  have K2 : Hid (Kept w w2) := by subst hw2; exact (((Kept.refl w).alloc _).alloc _).alloc _
  have c1 : w2.cell? ⟨w.heap.size + 1, 0, none⟩ = some (.int .i64 k) := by subst hw2; simp [go_sem]
  have c2 : w2.cell? ⟨w.heap.size + 1 + 1, 0, none⟩ = some (.func (.func 10) #[] #[.pointer (some ⟨w.heap.size + 1, 0, none⟩)]) := by subst hw2; simp [go_sem]
  clear hw2
  have B1 := fun n x y => and_n x y k (w.heap.size + 1) (w.heap.size + 1 + 1) (w2.drewN n) (by simp [go_sem, c1]) (by simp [go_sem, c2])
  have B2 := fun n x y => or_n x y k (w.heap.size + 1) (w.heap.size + 1 + 1) (w2.drewN n) (by simp [go_sem, c1]) (by simp [go_sem, c2])
  have B3 := fun n x => no_n x k (w.heap.size + 1) (w2.drewN n) (by simp [go_sem, c1])
  have B4 := fun n x y => do_n 17 x y k (w.heap.size + 1) (w2.drewN n) (by simp [go_sem, c1])
  have B5 := fun n x => wrap_n k x (w2.drewN n)
  generalize apv 16 k = an at *
  generalize apv 18 k = orr at *
  generalize apv 17 k = xo at *
  generalize wr k = wk at *
  generalize ntv k = nt at *
  refine wp_region_quiet_lit (by as_aux_lemma => kernel_rfl) ?_ ?_
  · clear B1 B2 B3 B4 B5 e1 e2 e3 e4 e5 e6 c1 c2 K2
    refine lexB_by 88 (by as_aux_lemma => kernel_rfl) (by as_aux_lemma => kernel_rfl) (by as_aux_lemma => kernel_rfl) ?_
    refine lex_chunk 0 4 (by as_aux_lemma => kernel_rfl) ?_
    refine lex_chunk 4 4 (by as_aux_lemma => kernel_rfl) ?_
    refine lex_chunk 8 4 (by as_aux_lemma => kernel_rfl) ?_
    refine lex_chunk 12 4 (by as_aux_lemma => kernel_rfl) ?_
    refine lex_chunk 16 4 (by as_aux_lemma => kernel_rfl) ?_
    refine lex_chunk 20 4 (by as_aux_lemma => kernel_rfl) ?_
    refine lex_chunk 24 4 (by as_aux_lemma => kernel_rfl) ?_
    refine lex_chunk 28 4 (by as_aux_lemma => kernel_rfl) ?_
    refine lex_chunk 32 4 (by as_aux_lemma => kernel_rfl) ?_
    refine lex_chunk 36 4 (by as_aux_lemma => kernel_rfl) ?_
    refine lex_chunk 40 4 (by as_aux_lemma => kernel_rfl) ?_
    refine lex_chunk 44 4 (by as_aux_lemma => kernel_rfl) ?_
    refine lex_chunk 48 4 (by as_aux_lemma => kernel_rfl) ?_
    refine lex_chunk 52 4 (by as_aux_lemma => kernel_rfl) ?_
    refine lex_chunk 56 4 (by as_aux_lemma => kernel_rfl) ?_
    refine lex_chunk 60 4 (by as_aux_lemma => kernel_rfl) ?_
    refine lex_chunk 64 4 (by as_aux_lemma => kernel_rfl) ?_
    refine lex_chunk 68 4 (by as_aux_lemma => kernel_rfl) ?_
    refine lex_chunk 72 4 (by as_aux_lemma => kernel_rfl) ?_
    refine lex_chunk 76 4 (by as_aux_lemma => kernel_rfl) ?_
    refine lex_chunk 80 4 (by as_aux_lemma => kernel_rfl) ?_
    refine lex_chunk 84 4 (by as_aux_lemma => kernel_rfl) ?_
    intro k h1 h2
    omega
  repeat (first | go_big_quiet_step ((first | (go_at_call 11; exact Calls.quiet_of_same (B1 _ _ _)) | (go_at_call 12; exact Calls.quiet_of_same (B2 _ _ _)) | (go_at_call 13; exact Calls.quiet_of_same (B3 _ _)) | (go_at_call 10; exact Calls.quiet_of_same (B4 _ _ _)) | (go_at_call 9; exact Calls.quiet_of_same (B5 _ _)))) | quiet_step ((first | (go_at_call 11; exact Calls.quiet_of_same (B1 _ _ _)) | (go_at_call 12; exact Calls.quiet_of_same (B2 _ _ _)) | (go_at_call 13; exact Calls.quiet_of_same (B3 _ _)) | (go_at_call 10; exact Calls.quiet_of_same (B4 _ _ _)) | (go_at_call 9; exact Calls.quiet_of_same (B5 _ _)))))
  refine wpQuiet_nil ?_
  intro _ hw'
  obtain ⟨nq, hw''⟩ := hw'
  subst hw''
  go_wp2
  go_ret
  exact ⟨rfl, kept_moved K2.out nq⟩

theorem logic_at (w : World) (v : Int) (j : Nat) (hj : v.toNat = j) (k : Int) (hk : (#[Value.int IntKind.i64 1, Value.int IntKind.i64 8, Value.int IntKind.i64 9, Value.int IntKind.i64 10] : Array Value)[j]? = some (.int .i64 k)) :
    (w.alloc (Obj.cells #[Value.int IntKind.i64 1, Value.int IntKind.i64 8, Value.int IntKind.i64 9, Value.int IntKind.i64 10] 3)).cell? ⟨w.heap.size, v.toNat, none⟩ = some (.int .i64 k) := by
  rw [hj, ← hk]
  exact cell_of_row _ _ _ _ 3 (0, 0) (MapKept.heap_alloc w _).1

theorem logic_all (kind a b c : Int) (w : World) (hN : NamesAt w) : Calls Tryd.prog 4 #[.int .i64 kind, .int .i64 a, .int .i64 b, .int .i64 c] w fun e w' => e = .returned (.bool true) ∧ Kept w w' := by
  have hc : kind % 4 = 0 ∨ kind % 4 = 1 ∨ kind % 4 = 2 ∨ kind % 4 = 3 := by omega
  rcases hc with h | h | h | h
  · exact logic_any kind 0 1 a b c w hN h (by decide) (by decide) (logic_at w 0 0 rfl 1 rfl) (beq_of_eq (q1_bool a)) (beq_of_eq (q2_bool a b)) (beq_of_eq (q3_bool a b c)) (beq_of_eq (q4_bool a b)) (beq_of_eq (q5_bool a b)) (beq_of_eq (q6_bool a))
  · have g : (8 : Int) = 8 ∨ (8 : Int) = 9 ∨ (8 : Int) = 10 := by decide
    have hk : ∀ n, wr 8 n = n % 2 ^ 8 := fun _ => rfl
    exact logic_any kind 1 8 a b c w hN h (by decide) (by decide) (logic_at w 1 1 rfl 8 rfl) (beq_of_eq (q1_bits g hk (by decide) a)) (beq_of_eq (q2_bits g hk (by decide) a b)) (beq_of_eq (q3_bits g hk (by decide) a b c)) (beq_of_eq (q4_bits g hk (by decide) a b)) (beq_of_eq (q5_bits g hk (by decide) a b)) (beq_of_eq (q6_bits g hk (by decide) a))
  · have g : (9 : Int) = 8 ∨ (9 : Int) = 9 ∨ (9 : Int) = 10 := by decide
    have hk : ∀ n, wr 9 n = n % 2 ^ 16 := fun _ => rfl
    exact logic_any kind 2 9 a b c w hN h (by decide) (by decide) (logic_at w 2 2 rfl 9 rfl) (beq_of_eq (q1_bits g hk (by decide) a)) (beq_of_eq (q2_bits g hk (by decide) a b)) (beq_of_eq (q3_bits g hk (by decide) a b c)) (beq_of_eq (q4_bits g hk (by decide) a b)) (beq_of_eq (q5_bits g hk (by decide) a b)) (beq_of_eq (q6_bits g hk (by decide) a))
  · have g : (10 : Int) = 8 ∨ (10 : Int) = 9 ∨ (10 : Int) = 10 := by decide
    have hk : ∀ n, wr 10 n = n % 2 ^ 32 := fun _ => rfl
    exact logic_any kind 3 10 a b c w hN h (by decide) (by decide) (logic_at w 3 3 rfl 10 rfl) (beq_of_eq (q1_bits g hk (by decide) a)) (beq_of_eq (q2_bits g hk (by decide) a b)) (beq_of_eq (q3_bits g hk (by decide) a b c)) (beq_of_eq (q4_bits g hk (by decide) a b)) (beq_of_eq (q5_bits g hk (by decide) a b)) (beq_of_eq (q6_bits g hk (by decide) a))
end Go.Proofs.YtonbbibnledleabDoor
