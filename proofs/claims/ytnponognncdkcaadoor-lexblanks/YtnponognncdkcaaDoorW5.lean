/- Literals' tokens (stage 12). -/
import Derived.Test.YtnponognncdkcaaDoorT1
import Derived.Test.YtnponognncdkcaaDoorW1
namespace Go.Proofs.YtnponognncdkcaaDoor
open Go.RowKit
open Adr Lx
/-- A token's value. -/
def tv (t : Tk) (a : Int) : Value := .agg #[.int .i64 t.tok, .int .i64 t.kind, .int .i64 t.n, .string (tx t.text), .int .i64 a]
/-- What a reader hands back. -/
def rv (r : R) : Value := .tuple #[tv r.t 0, .int .i64 r.z, .int .i64 r.e]
theorem truth_c (n : Int) (w : World) : Calls Tryd.prog 46 #[.int .i64 n] w fun e w' => e = .returned (tv (tru n) 0) ∧ Below w.heap.size w w' := by
  go_enter Tryd.func46, Tryd.ntmps46
  go_wp2
  exact bodyPost_ret (v := tv (tru n) 0) (by simp [results, Tryd.results46, go_sem, tv, tru, tx]) rfl ⟨rfl, below_new1 _ _⟩
set_option maxHeartbeats 1000000 in
theorem literal_c (tok k : Nat) (n : Int) (a z : Nat) (hk : k < 12) (ha : a ≤ 70000) (hz : z ≤ 70000) (w : World) (hT : Tabs w) : Calls Tryd.prog 65 #[.int .i64 tok, .int .i64 k, .int .i64 n, .int .i64 a, .int .i64 z] w fun e w' => e = .returned (rv (ltR tok k n a z)) ∧ Below w.heap.size w w' := by
  obtain ⟨c0, c1, c2⟩ := hT.kind k hk
  have hs := hT.five
  have hk' : (k : Int) < 12 := by omega
  have hd : decide ((12 : Int) ≤ k) = false := decide_eq_false (by omega)
  have c1' : ∀ o, (w.alloc o).cell? ⟨0, k * 3 + 1, none⟩ = some (.int .i64 (klo k)) := fun o => by rw [World.cell?_alloc_lt _ _ ⟨0, k * 3 + 1, none⟩ (show 0 < w.heap.size by omega)]; exact c1
  have c2' : ∀ o, (w.alloc o).cell? ⟨0, k * 3 + 2, none⟩ = some (.int .i64 (khi k)) := fun o => by rw [World.cell?_alloc_lt _ _ ⟨0, k * 3 + 2, none⟩ (show 0 < w.heap.size by omega)]; exact c2
  by_cases h0 : z = 0
  · have e : ltR tok k n a z = er 120 := by unfold ltR; rw [if_pos h0]
    rw [e]
    subst h0
    go_enter Tryd.func65, Tryd.ntmps65
    go_wp2
    exact bodyPost_ret (v := rv (er 120)) (by simp [results, Tryd.results65, go_sem, rv, er, nul, tv, tx]) rfl ⟨rfl, below_new1 _ _⟩
  · have h0' : ¬ (z : Int) = 0 := by omega
    cases hb : (decide (n < klo k) || decide (khi k < n)) with
    | true =>
      have e : ltR tok k n a z = er 163 := by unfold ltR; rw [if_neg h0, if_pos hb]
      rw [e]
      replace hb : n < klo k ∨ (¬ n < klo k ∧ khi k < n) := by simp at hb; omega
      rcases hb with hb | ⟨hb1, hb⟩
      all_goals
        go_enter Tryd.func65, Tryd.ntmps65
        go_wp2
        exact bodyPost_ret (v := rv (er 163)) (by simp [results, Tryd.results65, go_sem, rv, er, nul, tv, tx]) rfl ⟨rfl, below_new1 _ _⟩
    | false =>
      have e : ltR tok k n a z = ⟨⟨tok, k, n, []⟩, a + z, 0⟩ := by unfold ltR; rw [if_neg h0, if_neg (by rw [hb]; exact Bool.false_ne_true)]
      rw [e]
      have hb1 : ¬ n < klo k := by intro h; rw [decide_eq_true h] at hb; cases hb
      have hb2 : ¬ khi k < n := by intro h; rw [decide_eq_true h] at hb; simp at hb
      clear hb
      go_enter Tryd.func65, Tryd.ntmps65
      go_wp2
      exact bodyPost_ret (v := rv ⟨⟨tok, k, n, []⟩, a + z, 0⟩) (by simp [results, Tryd.results65, go_sem, rv, tv, tx]) rfl ⟨rfl, below_new1 _ _⟩
end Go.Proofs.YtnponognncdkcaaDoor
