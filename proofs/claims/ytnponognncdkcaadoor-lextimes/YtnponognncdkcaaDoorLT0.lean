/- The law of times, what it keeps (stage 12). -/
import Derived.Test.YtnponognncdkcaaDoorX3
import Derived.Test.YtnponognncdkcaaDoorLT1
import Derived.Deep.RegionHeld3
import Derived.Deep.CutRange
import Derived.Deep.CutBlock
namespace Go.Proofs.YtnponognncdkcaaDoor
open Go.RowKit
open Adr Lx
theorem known_bT (w : World) (hT : Tabs w) : Calls Tryd.prog 8 #[] w fun e w' => e = .returned (.bool true) ∧ Below w.heap.size w w' ∧ Tabs w' :=
  (known_c w hT).mono fun _ _ ⟨a, b⟩ => ⟨a, b, hT.below b⟩
theorem placeN (k : Int) (n : Nat) (h : 0 < n) (hm : n ≤ 3000000000) (b0 : -9223372036854775808 ≤ k) (b1 : k ≤ 9223372036854775807) : ∃ p : Nat, p < n ∧ ∀ w, Calls Tryd.prog 13 #[.int .i64 k, .int .i64 n] w fun e w' => e = .returned (.int .i64 p) ∧ w' = w := by
  have h1 := Int.emod_nonneg k (show (n : Int) ≠ 0 by omega)
  have h2 := Int.emod_lt_of_pos k (show (0 : Int) < n by omega)
  obtain ⟨p, hp⟩ : ∃ p : Nat, k % n = p := ⟨(k % n).toNat, by omega⟩
  refine ⟨p, by omega, fun w => ?_⟩
  have h3 := hplace_c k n (by omega) (by omega) b0 b1 w
  rw [hp] at h3
  exact h3
/-- The five numbers lie in block g. -/
structure VC (W : World) (g : Nat) (v : Nat → Nat) : Prop where
  at_ : ∀ j, j < 5 → W.cell? ⟨g, j, none⟩ = some (.int .i64 (v j))
  lt : g < W.heap.size
theorem VC.below {W W' : World} {g : Nat} {v : Nat → Nat} (r : VC W g v) (k : Below W.heap.size W W') : VC W' g v :=
  ⟨fun j hj => (k.cell (p := ⟨g, j, none⟩) r.lt).trans (r.at_ j hj), Nat.lt_of_lt_of_le r.lt k.size⟩
theorem vc_mk {W : World} {g : Nat} {v : Nat → Nat} (c0 : W.cell? ⟨g, 0, none⟩ = some (.int .i64 (v 0))) (c1 : W.cell? ⟨g, 1, none⟩ = some (.int .i64 (v 1))) (c2 : W.cell? ⟨g, 2, none⟩ = some (.int .i64 (v 2))) (c3 : W.cell? ⟨g, 3, none⟩ = some (.int .i64 (v 3))) (c4 : W.cell? ⟨g, 4, none⟩ = some (.int .i64 (v 4))) (lt : g < W.heap.size) : VC W g v := by
  refine ⟨fun j hj => ?_, lt⟩
  have hc : j = 0 ∨ j = 1 ∨ j = 2 ∨ j = 3 ∨ j = 4 := by omega
  rcases hc with rfl | rfl | rfl | rfl | rfl <;> assumption
theorem ustr_at (W : World) (k : Nat) (hk : k < 5) : (W.alloc (.cells #[.string ⟨#[100]⟩, .string ⟨#[104]⟩, .string ⟨#[109]⟩, .string ⟨#[115]⟩, .string ⟨#[109, 115]⟩] 9)).cell? ⟨W.heap.size, k, none⟩ = some (.string (uN k)) := by
  rw [World.cell?_alloc_at _ _ _ _ rfl]
  have hc : k = 0 ∨ k = 1 ∨ k = 2 ∨ k = 3 ∨ k = 4 := by omega
  rcases hc with rfl | rfl | rfl | rfl | rfl <;> rfl
theorem uint_at (W : World) (k : Nat) (hk : k < 5) : (W.alloc (.cells #[.int .i64 86400000, .int .i64 3600000, .int .i64 60000, .int .i64 1000, .int .i64 1] 2)).cell? ⟨W.heap.size, k, none⟩ = some (.int .i64 ((uM k : Nat) : Int)) := by
  rw [World.cell?_alloc_at _ _ _ _ rfl]
  have hc : k = 0 ∨ k = 1 ∨ k = 2 ∨ k = 3 ∨ k = 4 := by omega
  rcases hc with rfl | rfl | rfl | rfl | rfl <;> rfl
/-- What the law's loop keeps. -/
structure JT (w W : World) (g : Nat) (v : Nat → Nat) : Prop where
  kept : Below w.heap.size w W
  tabs : Tabs W
  vc : VC W g v
theorem JT.below {w W W' : World} {g : Nat} {v : Nat → Nat} (j : JT w W g v) (k : Below W.heap.size W W') : JT w W' g v := ⟨below_and j.kept k, j.tabs.below k, j.vc.below k⟩
theorem JT.alloc {w W : World} {g : Nat} {v : Nat → Nat} (j : JT w W g v) (o : Obj) : JT w (W.alloc o) g v := j.below (below_new1 W o)
theorem JT.drew {w W : World} {g : Nat} {v : Nat → Nat} (j : JT w W g v) : JT w W.drew g v := j.below (Same.drew W).below
theorem JT.drewN {w W : World} {g : Nat} {v : Nat → Nat} (d : Nat) (j : JT w W g v) : JT w (W.drewN d) g v := j.below (Same.drewN W d).below
end Go.Proofs.YtnponognncdkcaaDoor
