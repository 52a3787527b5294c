/- The help's Told (stage 20, after stage 12). -/
import Derived.Test.YtkknfolahfmghaaDoorX2
namespace Go.Proofs.YtkknfolahfmghaaDoor
open Go.RowKit
theorem told_nil (w : World) : Calls Tryd.prog 12 #[.nilIface] w fun e w' => e = .returned (.tuple #[.int .i64 0, .int .i64 0]) ∧ w' = w := by
  go_enter Tryd.func12, Tryd.ntmps12
  go_wp2
  go_ret2
  exact ⟨rfl, rfl⟩
/-- The place and the number of an error. -/
theorem told_err (g a n : Nat) (w : World) (hT : Tabs w) (h0 : w.cell? ⟨g, 0, none⟩ = some (.int .i64 a)) (h1 : w.cell? ⟨g, 1, none⟩ = some (.int .i64 n)) : Calls Tryd.prog 12 #[.iface 52 (.pointer (some ⟨g, 0, none⟩))] w fun e w' => e = .returned (.tuple #[.int .i64 a, .int .i64 n]) ∧ Below w.heap.size w w' := by
  have hgl : g < w.heap.size := by
    rcases Nat.lt_or_ge g w.heap.size with h | h
    · exact h
    · simp [World.cell?, Array.getElem?_eq_none h] at h0
  have hN := below_new1 w (.cells #[.pointer none] 52)
  have q0 : (w.alloc (.cells #[.pointer none] 52)).cell? ⟨w.heap.size, 0, none⟩ = some (.pointer none) := by simp
  have qf : (w.alloc (.cells #[.pointer none] 52)).frozen? ⟨w.heap.size, 0, none⟩ = false := by simp
  have A := hid_as (as_hit ⟨g, 0, none⟩ ⟨w.heap.size, 0, none⟩ _ _ (hT.below hN).err q0 qf)
  clear q0 qf
  have hs : (w.alloc (.cells #[.pointer none] 52)).heap.size = w.heap.size + 1 := by simp
  have B : Hid (Calls Tryd.prog 23 #[.iface 52 (.pointer (some ⟨g, 0, none⟩)), .iface 54 (.pointer (some ⟨w.heap.size, 0, none⟩))] (w.alloc (.cells #[.pointer none] 52)) fun e w' => e = .returned (.bool true) ∧ Below w.heap.size w w' ∧ w'.cell? ⟨w.heap.size, 0, none⟩ = some (.pointer (some ⟨g, 0, none⟩)) ∧ w'.cell? ⟨g, 0, none⟩ = some (.int .i64 a) ∧ w'.cell? ⟨g, 1, none⟩ = some (.int .i64 n)) := by
    refine A.out.mono ?_
    rintro e w' ⟨rfl, rfl⟩
    have hB : Below w.heap.size w (((((w.alloc (.cells #[.pointer none] 52)).alloc (.cells #[.pointer (some ⟨w.heap.size, 0, none⟩)] 54)).alloc (.cells #[.pointer (some ⟨5, 54, none⟩), .pointer (some ⟨(w.alloc (.cells #[.pointer none] 52)).heap.size, 0, none⟩), .int .u64 150] 81)).alloc (.cells #[.pointer (some ⟨5, 54, none⟩), .pointer (some ⟨(w.alloc (.cells #[.pointer none] 52)).heap.size, 0, none⟩), .int .u64 150] 81)).alloc (.cells #[.pointer (some ⟨g, 0, none⟩)] 52)) :=
      (((hN.alloc (by simp) _).alloc (by simp; omega) _).alloc (by simp; omega) _).alloc (by simp; omega) _
    have hB2 := hB.setCell (p := ⟨w.heap.size, 0, none⟩) (Nat.le_refl _) (.pointer (some ⟨g, 0, none⟩))
    refine ⟨rfl, hB2, ?_, (hB2.cell (p := ⟨g, 0, none⟩) hgl).trans h0, (hB2.cell (p := ⟨g, 1, none⟩) hgl).trans h1⟩
    refine World.cell?_setCell_same _ _ _ (u := .pointer none) ?_
    rw [World.cell?_alloc_lt _ _ ⟨w.heap.size, 0, none⟩ (by simp; omega), World.cell?_alloc_lt _ _ ⟨w.heap.size, 0, none⟩ (by simp; omega), World.cell?_alloc_lt _ _ ⟨w.heap.size, 0, none⟩ (by simp; omega), World.cell?_alloc_lt _ _ ⟨w.heap.size, 0, none⟩ (by simp)]
    simp
  clear A hs hN
  go_enter Tryd.func12, Tryd.ntmps12
  go_upto_region 6 with (go_at_call 23; refine B.out.mono ?_; rintro e w3 ⟨rfl, hb3, p0, p1, p2⟩)
  have HB := hid_as hb3
  clear hb3
  go_region
  go_wp2
  go_ret2
  first | exact ⟨rfl, HB.out.drew⟩ | exact ⟨rfl, HB.out.trans ((Same.drewN _ _).below.mono HB.out.size)⟩
end Go.Proofs.YtkknfolahfmghaaDoor
