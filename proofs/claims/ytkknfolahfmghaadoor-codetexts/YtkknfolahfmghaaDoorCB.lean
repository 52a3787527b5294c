/- Code in memory; kinds (stage 20). -/
import Derived.Test.YtkknfolahfmghaaDoorO1
namespace Go.Proofs.YtkknfolahfmghaaDoor
open Go.RowKit
open Fb Cod
namespace Cod
def Ins.cs (x : Ins) : List Value := [.int .i64 x.op, .int .i64 x.a, .int .i64 x.b, .int .i64 x.c, .string x.name]
def scal (k : Int) : Bool := decide (1 ≤ k) && decide (k ≤ 11)
def sgn (k : Int) : Bool := k == 2 || k == 3 || k == 4 || k == 11
def bitk (k : Int) : Bool := k == 8 || k == 9 || k == 10
end Cod
/-- The i-th instruction of a list that lies in memory. -/
def InsAt (w : World) (b o i : Nat) (x : Ins) : Prop := ∀ k u, x.cs[k]? = some u → w.cell? ⟨b, o + i * 5 + k, none⟩ = some u
theorem keep_cell {w u : World} {p : Addr} {v : Value} (k : Below w.heap.size w u) (h : w.cell? p = some v) : u.cell? p = some v := (k.cell (lt_of_cell h)).trans h
theorem InsAt.below {w u : World} {b o i : Nat} {x : Ins} (h : InsAt w b o i x) (k : Below w.heap.size w u) : InsAt u b o i x := fun j v hv => keep_cell k (h j v hv)
/-- Instructions in memory. -/
def Il (w : World) (la : Option Addr) (L : List Ins) : Prop := L = [] ∨ ∃ b o, la = some ⟨b, o, none⟩ ∧ ∀ i x, L[i]? = some x → InsAt w b o i x
theorem Il.below {w u : World} {la : Option Addr} {L : List Ins} (h : Il w la L) (k : Below w.heap.size w u) : Il u la L := by
  rcases h with h | ⟨b, o, rfl, h⟩
  · exact Or.inl h
  · exact Or.inr ⟨b, o, rfl, fun i x hx => (h i x hx).below k⟩
theorem Il.kept {w u : World} {la : Option Addr} {L : List Ins} (h : Il w la L) (k : ∀ p, la = some p → u.heap[p.block]? = w.heap[p.block]?) : Il u la L := by
  rcases h with h | ⟨b, o, rfl, h⟩
  · exact Or.inl h
  · refine Or.inr ⟨b, o, rfl, fun i x hx j v hv => ?_⟩
    have hb : u.heap[b]? = w.heap[b]? := k _ rfl
    exact (World.cell?_of_block (w := w) (a := ⟨b, o + i * 5 + j, none⟩) hb).trans (h i x hx j v hv)
theorem Il.belowB {w u : World} {B : Nat} {la : Option Addr} {L : List Ins} (h : Il w la L) (hl : ∀ p, la = some p → 0 < L.length → p.block < B) (k : Below B w u) : Il u la L := by
  by_cases h0 : 0 < L.length
  · exact h.kept (fun p hp => k.block _ (hl p hp h0))
  · exact Or.inl (List.length_eq_zero_iff.1 (by omega))
theorem Il.same {w u : World} {la : Option Addr} {L : List Ins} (h : Il w la L) (k : Same w u) : Il u la L := h.below k.below
theorem Il.at_ {w : World} {la : Option Addr} {L : List Ins} {i : Nat} {x : Ins} (h : Il w la L) (hx : L[i]? = some x) : ∃ b o, la = some ⟨b, o, none⟩ ∧ w.cell? ⟨b, o + i * 5, none⟩ = some (.int .i64 x.op) ∧ w.cell? ⟨b, o + i * 5 + 1, none⟩ = some (.int .i64 x.a) ∧ w.cell? ⟨b, o + i * 5 + 2, none⟩ = some (.int .i64 x.b) ∧ w.cell? ⟨b, o + i * 5 + 3, none⟩ = some (.int .i64 x.c) ∧ w.cell? ⟨b, o + i * 5 + 4, none⟩ = some (.string x.name) := by
  rcases h with rfl | ⟨b, o, rfl, h⟩
  · simp at hx
  · have q := h i x hx
    exact ⟨b, o, rfl, q 0 _ rfl, q 1 _ rfl, q 2 _ rfl, q 3 _ rfl, q 4 _ rfl⟩
theorem Il.lt {w : World} {la : Option Addr} {L : List Ins} (h : Il w la L) {b o : Nat} (hl : la = some ⟨b, o, none⟩) (h0 : 0 < L.length) : b < w.heap.size := by
  rcases h with rfl | ⟨b', o', hl', h⟩
  · simp at h0
  · rw [hl] at hl'
    simp only [Option.some.injEq, Addr.mk.injEq] at hl'
    obtain ⟨rfl, rfl, _⟩ := hl'
    exact lt_of_cell (h 0 _ (List.getElem?_eq_getElem h0) 0 _ rfl)
theorem kind_cases (k : Int) : (k = 1 ∨ k = 2 ∨ k = 3 ∨ k = 4 ∨ k = 5 ∨ k = 6 ∨ k = 7 ∨ k = 8 ∨ k = 9 ∨ k = 10 ∨ k = 11) ∨ ¬ (1 ≤ k ∧ k ≤ 11) := by omega
set_option maxHeartbeats 800000 in
theorem width_in (k : Int) (W : Int) (h : (k = 1 ∧ W = 1) ∨ (k = 2 ∧ W = 8) ∨ (k = 3 ∧ W = 16) ∨ (k = 4 ∧ W = 32) ∨ (k = 5 ∧ W = 8) ∨ (k = 6 ∧ W = 16) ∨ (k = 7 ∧ W = 32) ∨ (k = 8 ∧ W = 8) ∨ (k = 9 ∧ W = 16) ∨ (k = 10 ∧ W = 32) ∨ (k = 11 ∧ W = 32)) (w : World) : Calls Tryd.prog 77 #[.int .i64 k] w fun e w' => e = .returned (.int .i64 W) ∧ w' = w := by
  rcases h with ⟨rfl, rfl⟩ | ⟨rfl, rfl⟩ | ⟨rfl, rfl⟩ | ⟨rfl, rfl⟩ | ⟨rfl, rfl⟩ | ⟨rfl, rfl⟩ | ⟨rfl, rfl⟩ | ⟨rfl, rfl⟩ | ⟨rfl, rfl⟩ | ⟨rfl, rfl⟩ | ⟨rfl, rfl⟩ <;>
  · go_enter Tryd.func77, Tryd.ntmps77
    go_wp2
    go_ret
    exact ⟨rfl, rfl⟩
theorem ne_b {k : Int} {n : Int} (h : k ≠ n) : (k == n) = false := by rw [beq_eq_false_iff_ne]; exact h
set_option maxHeartbeats 800000 in
theorem width_out (k : Int) (h : ¬ (1 ≤ k ∧ k ≤ 11)) (w : World) : Calls Tryd.prog 77 #[.int .i64 k] w fun e w' => e = .returned (.int .i64 0) ∧ w' = w := by
  have h1 := ne_b (show k ≠ 1 by omega)
  have h2 := ne_b (show k ≠ 2 by omega)
  have h3 := ne_b (show k ≠ 3 by omega)
  have h4 := ne_b (show k ≠ 4 by omega)
  have h5 := ne_b (show k ≠ 5 by omega)
  have h6 := ne_b (show k ≠ 6 by omega)
  have h7 := ne_b (show k ≠ 7 by omega)
  have h8 := ne_b (show k ≠ 8 by omega)
  have h9 := ne_b (show k ≠ 9 by omega)
  have h10 := ne_b (show k ≠ 10 by omega)
  have h11 := ne_b (show k ≠ 11 by omega)
  go_enter Tryd.func77, Tryd.ntmps77
  go_wp2
  go_ret
  exact ⟨rfl, rfl⟩
theorem scal_in {k : Int} (h : 1 ≤ k ∧ k ≤ 11) : scal k = true := by unfold scal; rw [decide_eq_true h.1, decide_eq_true h.2]; rfl
theorem scal_out {k : Int} (h : ¬ (1 ≤ k ∧ k ≤ 11)) : scal k = false := by
  unfold scal
  by_cases h1 : 1 ≤ k
  · rw [decide_eq_false (show ¬ k ≤ 11 by omega)]; simp
  · rw [decide_eq_false h1]; rfl
theorem width_is (k : Int) (h : 1 ≤ k ∧ k ≤ 11) : ∃ W : Int, 0 < W ∧ ∀ w : World, Calls Tryd.prog 77 #[.int .i64 k] w fun e w' => e = .returned (.int .i64 W) ∧ w' = w := by
  rcases kind_cases k with h' | h'
  · rcases h' with rfl | rfl | rfl | rfl | rfl | rfl | rfl | rfl | rfl | rfl | rfl
    · exact ⟨1, by decide, fun w => width_in 1 1 (by simp) w⟩
    · exact ⟨8, by decide, fun w => width_in 2 8 (by simp) w⟩
    · exact ⟨16, by decide, fun w => width_in 3 16 (by simp) w⟩
    · exact ⟨32, by decide, fun w => width_in 4 32 (by simp) w⟩
    · exact ⟨8, by decide, fun w => width_in 5 8 (by simp) w⟩
    · exact ⟨16, by decide, fun w => width_in 6 16 (by simp) w⟩
    · exact ⟨32, by decide, fun w => width_in 7 32 (by simp) w⟩
    · exact ⟨8, by decide, fun w => width_in 8 8 (by simp) w⟩
    · exact ⟨16, by decide, fun w => width_in 9 16 (by simp) w⟩
    · exact ⟨32, by decide, fun w => width_in 10 32 (by simp) w⟩
    · exact ⟨32, by decide, fun w => width_in 11 32 (by simp) w⟩
  · exact absurd h h'
theorem scalar_c (k : Int) (w : World) : Calls Tryd.prog 65 #[.int .i64 k] w fun e w' => e = .returned (.bool (scal k)) ∧ w' = w := by
  by_cases h : 1 ≤ k ∧ k ≤ 11
  · rw [scal_in h]
    obtain ⟨W, hW, C⟩ := width_is k h
    go_enter Tryd.func65, Tryd.ntmps65
    go_wp2_with (go_at_call 77; refine (C _).mono ?_; rintro e w' ⟨rfl, hw⟩; subst w')
    go_ret
    exact ⟨rfl, rfl⟩
  · rw [scal_out h]
    have C := width_out k h
    clear h
    go_enter Tryd.func65, Tryd.ntmps65
    go_wp2_with (go_at_call 77; refine (C _).mono ?_; rintro e w' ⟨rfl, hw⟩; subst w')
    go_ret
    exact ⟨rfl, rfl⟩
set_option maxHeartbeats 800000 in
theorem rscalar_c (k : Int) (w : World) : Calls Tryd.prog 20 #[.int .i64 k] w fun e w' => e = .returned (.bool (scal k)) ∧ w' = w := by
  by_cases h1 : 1 ≤ k
  · by_cases h2 : k ≤ 11
    · have H := hid_as (scal_in ⟨h1, h2⟩)
      go_enter Tryd.func20, Tryd.ntmps20
      go_wp2
      go_ret
      exact ⟨ret_bool H.out.symm, rfl⟩
    · have H := hid_as (scal_out (fun h => h2 h.2))
      go_enter Tryd.func20, Tryd.ntmps20
      go_wp2
      go_ret
      exact ⟨ret_bool H.out.symm, rfl⟩
  · have H := hid_as (scal_out (fun h => h1 h.1))
    go_enter Tryd.func20, Tryd.ntmps20
    go_wp2
    go_ret
    exact ⟨ret_bool H.out.symm, rfl⟩
set_option maxHeartbeats 800000 in
theorem signed_c (k : Int) (w : World) : Calls Tryd.prog 68 #[.int .i64 k] w fun e w' => e = .returned (.bool (sgn k)) ∧ w' = w := by
  by_cases h : k = 2 ∨ k = 3 ∨ k = 4 ∨ k = 11
  · rcases h with rfl | rfl | rfl | rfl <;>
    · go_enter Tryd.func68, Tryd.ntmps68
      go_wp2
      go_ret
      exact ⟨rfl, rfl⟩
  · have h2 := ne_b (show k ≠ 2 by omega)
    have h3 := ne_b (show k ≠ 3 by omega)
    have h4 := ne_b (show k ≠ 4 by omega)
    have h11 := ne_b (show k ≠ 11 by omega)
    have H : Hid (sgn k = false) := by unfold sgn; rw [h2, h3, h4, h11]; rfl
    clear h
    go_enter Tryd.func68, Tryd.ntmps68
    go_wp2
    go_ret
    exact ⟨ret_bool H.out.symm, rfl⟩
set_option maxHeartbeats 800000 in
theorem rsigned_c (k : Int) (w : World) : Calls Tryd.prog 35 #[.int .i64 k] w fun e w' => e = .returned (.bool (sgn k)) ∧ w' = w := by
  by_cases h : k = 2 ∨ k = 3 ∨ k = 4 ∨ k = 11
  · rcases h with rfl | rfl | rfl | rfl <;>
    · go_enter Tryd.func35, Tryd.ntmps35
      go_wp2
      go_ret
      exact ⟨rfl, rfl⟩
  · have h2 := ne_b (show k ≠ 2 by omega)
    have h3 := ne_b (show k ≠ 3 by omega)
    have h4 := ne_b (show k ≠ 4 by omega)
    have h11 := ne_b (show k ≠ 11 by omega)
    have H : Hid (sgn k = false) := by unfold sgn; rw [h2, h3, h4, h11]; rfl
    clear h
    go_enter Tryd.func35, Tryd.ntmps35
    go_wp2
    go_ret
    exact ⟨ret_bool H.out.symm, rfl⟩
set_option maxHeartbeats 800000 in
theorem bits_c (F : Nat) (hF : F = 69 ∨ F = 36) (k : Int) (w : World) : Calls Tryd.prog F #[.int .i64 k] w fun e w' => e = .returned (.bool (bitk k)) ∧ w' = w := by
  by_cases h : k = 8 ∨ k = 9 ∨ k = 10
  · rcases hF with rfl | rfl <;> rcases h with rfl | rfl | rfl
    · go_enter Tryd.func69, Tryd.ntmps69
      go_wp2
      go_ret
      exact ⟨rfl, rfl⟩
    · go_enter Tryd.func69, Tryd.ntmps69
      go_wp2
      go_ret
      exact ⟨rfl, rfl⟩
    · go_enter Tryd.func69, Tryd.ntmps69
      go_wp2
      go_ret
      exact ⟨rfl, rfl⟩
    · go_enter Tryd.func36, Tryd.ntmps36
      go_wp2
      go_ret
      exact ⟨rfl, rfl⟩
    · go_enter Tryd.func36, Tryd.ntmps36
      go_wp2
      go_ret
      exact ⟨rfl, rfl⟩
    · go_enter Tryd.func36, Tryd.ntmps36
      go_wp2
      go_ret
      exact ⟨rfl, rfl⟩
  · have h2 := ne_b (show k ≠ 8 by omega)
    have h3 := ne_b (show k ≠ 9 by omega)
    have h4 := ne_b (show k ≠ 10 by omega)
    have H : Hid (bitk k = false) := by unfold bitk; rw [h2, h3, h4]; rfl
    clear h
    rcases hF with rfl | rfl
    · go_enter Tryd.func69, Tryd.ntmps69
      go_wp2
      go_ret
      exact ⟨ret_bool H.out.symm, rfl⟩
    · go_enter Tryd.func36, Tryd.ntmps36
      go_wp2
      go_ret
      exact ⟨ret_bool H.out.symm, rfl⟩
/-- DINT's range. -/
theorem range4_c (w : World) : Calls Tryd.prog 78 #[.int .i64 4] w fun e w' => e = .returned (.tuple #[.int .i64 (-2147483648), .int .i64 2147483647]) ∧ w' = w := by
  have C := fun W : World => width_in 4 32 (by simp) W
  have D := fun W : World => signed_c 4 W
  go_enter Tryd.func78, Tryd.ntmps78
  go_wp2_with (first | (go_at_call 77; refine (C _).mono ?_; rintro e w' ⟨rfl, hw⟩; subst w') | (go_at_call 68; refine (D _).mono ?_; rintro e w' ⟨rfl, hw⟩; subst w'))
  go_ret2
  exact ⟨rfl, rfl⟩
/-- Cells from first on, count of them: are they there? -/
theorem areCells_c (va : Option Addr) (kn kc : Nat) (a n : Int) (w : World) (hk : kn ≤ 4611686018427387904) (hn : 0 ≤ n) (hn2 : n ≤ 4611686018427387904) : Calls Tryd.prog 66 #[.slice va kn kc, .int .i64 a, .int .i64 n] w fun e w' => e = .returned (.bool (decide (0 ≤ a) && decide (a ≤ kn - n))) ∧ w' = w := by
  have hw : wrap64 ((kn : Int) - n) = kn - n := by unfold wrap64; omega
  by_cases h1 : 0 ≤ a
  · by_cases h2 : a ≤ kn - n
    · have H : Hid ((decide (0 ≤ a) && decide (a ≤ (kn : Int) - n)) = true) := by rw [decide_eq_true h1, decide_eq_true h2]; rfl
      go_enter Tryd.func66, Tryd.ntmps66
      go_wp2
      go_ret
      exact ⟨ret_bool H.out.symm, rfl⟩
    · have H : Hid (decide (a ≤ (kn : Int) - n) = false) := decide_eq_false h2
      go_enter Tryd.func66, Tryd.ntmps66
      go_wp2
      go_ret
      exact ⟨ret_bool H.out.symm, rfl⟩
  · have H : Hid ((decide (0 ≤ a) && decide (a ≤ (kn : Int) - n)) = false) := by rw [decide_eq_false h1]; rfl
    go_enter Tryd.func66, Tryd.ntmps66
    go_wp2
    go_ret
    exact ⟨ret_bool H.out.symm, rfl⟩
end Go.Proofs.YtkknfolahfmghaaDoor
