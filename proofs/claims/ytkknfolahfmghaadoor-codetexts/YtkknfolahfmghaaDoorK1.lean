/- The chapter's example (stage 20). -/
import Derived.Test.YtkknfolahfmghaaDoorM4
import Derived.Test.YtkknfolahfmghaaDoorTV
namespace Go.Proofs.YtkknfolahfmghaaDoor
open Go.RowKit
open Fb Cod
namespace Cod
def nos : ByteArray := ⟨#[]⟩
def kL0 : List Ins := [⟨1, 4, 0, 5, nos⟩, ⟨3, 0, 0, 0, nos⟩, ⟨23, 0, 0, 0, nos⟩]
def kL1 : List Ins := [⟨1, 4, 0, 0, nos⟩, ⟨23, 0, 0, 0, nos⟩, ⟨3, 1, 0, 0, nos⟩]
def kL2 : List Ins := [⟨3, 0, 0, 0, nos⟩, ⟨23, 0, 0, 0, nos⟩]
theorem k0_alone : alone [4] kL0 = none := by decide +kernel
theorem k0_ok : okS kL0 [(0, 0), (1, 1), (2, 0)] = true := by decide +kernel
theorem k0_ver : Ver [4] kL0 none := Or.inr ⟨k0_alone, 3, okS_fin k0_ok, rfl⟩
theorem k1_ver : Ver [4] kL1 (some 2) := Or.inl ⟨2, by decide +kernel, rfl⟩
theorem k2_ver : Ver [4] kL2 (some 0) := by
  refine Or.inr ⟨by decide +kernel, 0, ⟨by decide, fun i h => absurd h (Nat.not_lt_zero _), fun _ => ⟨0, .start, Or.inl (fault_is.2 (by decide +kernel))⟩⟩, rfl⟩
theorem k0_dps {ds : List Int} (h : Dps kL0 ds) : ds = [0, 1, 0] := by
  have r0 : Cod.Reach kL0 (0, 0) := .start
  have r1 : Cod.Reach kL0 (1, 1) := r0.to (by decide +kernel)
  have r2 : Cod.Reach kL0 (2, 0) := r1.to (by decide +kernel)
  have a0 := h.yes 0 0 (by decide) r0
  have a1 := h.yes 1 1 (by decide) r1
  have a2 := h.yes 2 0 (by decide) r2
  have hl : ds.length = 3 := h.len
  match ds, hl with
  | [x, y, z], _ => simp at a0 a1 a2; rw [a0, a1, a2]
theorem k0_txt : txt 0 kL0 = [48, 32, 112, 117, 115, 104, 32, 52, 32, 48, 32, 53, 10, 49, 32, 115, 116, 111, 114, 101, 32, 48, 32, 48, 32, 48, 10, 50, 32, 101, 110, 100, 32, 48, 32, 48, 32, 48, 10] := by decide +kernel
end Cod
theorem heap_old {w : World} {o : Obj} {j : Nat} (h : j < w.heap.size) : (w.alloc o).heap[j]? = w.heap[j]? := (below_new1 w o).block j h
def kw (w : World) : World := (((((((w.alloc (.cells #[.int .i64 4] 3)).alloc (.cells #[.int .i64 1, .int .i64 4, .int .i64 0, .int .i64 5, .string ⟨#[]⟩, .int .i64 3, .int .i64 0, .int .i64 0, .int .i64 0, .string ⟨#[]⟩, .int .i64 23, .int .i64 0, .int .i64 0, .int .i64 0, .string ⟨#[]⟩] 41)).alloc (.cells #[.slice (some ⟨w.heap.size, 0, none⟩) 1 1, .slice (some ⟨w.heap.size + 1, 0, none⟩) 3 3] 25)).alloc (.cells #[.int .i64 1, .int .i64 4, .int .i64 0, .int .i64 0, .string ⟨#[]⟩, .int .i64 23, .int .i64 0, .int .i64 0, .int .i64 0, .string ⟨#[]⟩, .int .i64 3, .int .i64 1, .int .i64 0, .int .i64 0, .string ⟨#[]⟩] 41)).alloc (.cells #[.slice (some ⟨w.heap.size, 0, none⟩) 1 1, .slice (some ⟨w.heap.size + 3, 0, none⟩) 3 3] 25)).alloc (.cells #[.int .i64 3, .int .i64 0, .int .i64 0, .int .i64 0, .string ⟨#[]⟩, .int .i64 23, .int .i64 0, .int .i64 0, .int .i64 0, .string ⟨#[]⟩] 41)).alloc (.cells #[.slice (some ⟨w.heap.size, 0, none⟩) 1 1, .slice (some ⟨w.heap.size + 5, 0, none⟩) 2 2] 25))
theorem kw_below (w : World) : Below w.heap.size w (kw w) := below_and (below_and (below_and (below_and (below_and (below_and (below_new1 _ _) (below_new1 _ _)) (below_new1 _ _)) (below_new1 _ _)) (below_new1 _ _)) (below_new1 _ _)) (below_new1 _ _)
theorem kw_0 (w : World) : (kw w).heap[w.heap.size]? = some (.cells [.int .i64 4].toArray 3 (0, 0)) := by
  unfold kw
  rw [heap_old (by first | (simp; done) | (simp; omega))]
  rw [heap_old (by first | (simp; done) | (simp; omega))]
  rw [heap_old (by first | (simp; done) | (simp; omega))]
  rw [heap_old (by first | (simp; done) | (simp; omega))]
  rw [heap_old (by first | (simp; done) | (simp; omega))]
  rw [heap_old (by first | (simp; done) | (simp; omega))]
  have := heap_alloc_new w (.cells #[.int .i64 4] 3)
  try simp only [World.size_alloc] at this
  exact this
theorem kw_1 (w : World) : (kw w).heap[w.heap.size + 1]? = some (.cells [.int .i64 1, .int .i64 4, .int .i64 0, .int .i64 5, .string ⟨#[]⟩, .int .i64 3, .int .i64 0, .int .i64 0, .int .i64 0, .string ⟨#[]⟩, .int .i64 23, .int .i64 0, .int .i64 0, .int .i64 0, .string ⟨#[]⟩].toArray 41 (0, 0)) := by
  unfold kw
  rw [heap_old (by first | (simp; done) | (simp; omega))]
  rw [heap_old (by first | (simp; done) | (simp; omega))]
  rw [heap_old (by first | (simp; done) | (simp; omega))]
  rw [heap_old (by first | (simp; done) | (simp; omega))]
  rw [heap_old (by first | (simp; done) | (simp; omega))]
  have := heap_alloc_new (w.alloc (.cells #[.int .i64 4] 3)) (.cells #[.int .i64 1, .int .i64 4, .int .i64 0, .int .i64 5, .string ⟨#[]⟩, .int .i64 3, .int .i64 0, .int .i64 0, .int .i64 0, .string ⟨#[]⟩, .int .i64 23, .int .i64 0, .int .i64 0, .int .i64 0, .string ⟨#[]⟩] 41)
  try simp only [World.size_alloc] at this
  exact this
theorem kw_2 (w : World) : (kw w).heap[w.heap.size + 2]? = some (.cells [.slice (some ⟨w.heap.size, 0, none⟩) 1 1, .slice (some ⟨w.heap.size + 1, 0, none⟩) 3 3].toArray 25 (0, 0)) := by
  unfold kw
  rw [heap_old (by first | (simp; done) | (simp; omega))]
  rw [heap_old (by first | (simp; done) | (simp; omega))]
  rw [heap_old (by first | (simp; done) | (simp; omega))]
  rw [heap_old (by first | (simp; done) | (simp; omega))]
  have := heap_alloc_new ((w.alloc (.cells #[.int .i64 4] 3)).alloc (.cells #[.int .i64 1, .int .i64 4, .int .i64 0, .int .i64 5, .string ⟨#[]⟩, .int .i64 3, .int .i64 0, .int .i64 0, .int .i64 0, .string ⟨#[]⟩, .int .i64 23, .int .i64 0, .int .i64 0, .int .i64 0, .string ⟨#[]⟩] 41)) (.cells #[.slice (some ⟨w.heap.size, 0, none⟩) 1 1, .slice (some ⟨w.heap.size + 1, 0, none⟩) 3 3] 25)
  try simp only [World.size_alloc] at this
  exact this
theorem kw_3 (w : World) : (kw w).heap[w.heap.size + 3]? = some (.cells [.int .i64 1, .int .i64 4, .int .i64 0, .int .i64 0, .string ⟨#[]⟩, .int .i64 23, .int .i64 0, .int .i64 0, .int .i64 0, .string ⟨#[]⟩, .int .i64 3, .int .i64 1, .int .i64 0, .int .i64 0, .string ⟨#[]⟩].toArray 41 (0, 0)) := by
  unfold kw
  rw [heap_old (by first | (simp; done) | (simp; omega))]
  rw [heap_old (by first | (simp; done) | (simp; omega))]
  rw [heap_old (by first | (simp; done) | (simp; omega))]
  have := heap_alloc_new (((w.alloc (.cells #[.int .i64 4] 3)).alloc (.cells #[.int .i64 1, .int .i64 4, .int .i64 0, .int .i64 5, .string ⟨#[]⟩, .int .i64 3, .int .i64 0, .int .i64 0, .int .i64 0, .string ⟨#[]⟩, .int .i64 23, .int .i64 0, .int .i64 0, .int .i64 0, .string ⟨#[]⟩] 41)).alloc (.cells #[.slice (some ⟨w.heap.size, 0, none⟩) 1 1, .slice (some ⟨w.heap.size + 1, 0, none⟩) 3 3] 25)) (.cells #[.int .i64 1, .int .i64 4, .int .i64 0, .int .i64 0, .string ⟨#[]⟩, .int .i64 23, .int .i64 0, .int .i64 0, .int .i64 0, .string ⟨#[]⟩, .int .i64 3, .int .i64 1, .int .i64 0, .int .i64 0, .string ⟨#[]⟩] 41)
  try simp only [World.size_alloc] at this
  exact this
theorem kw_4 (w : World) : (kw w).heap[w.heap.size + 4]? = some (.cells [.slice (some ⟨w.heap.size, 0, none⟩) 1 1, .slice (some ⟨w.heap.size + 3, 0, none⟩) 3 3].toArray 25 (0, 0)) := by
  unfold kw
  rw [heap_old (by first | (simp; done) | (simp; omega))]
  rw [heap_old (by first | (simp; done) | (simp; omega))]
  have := heap_alloc_new ((((w.alloc (.cells #[.int .i64 4] 3)).alloc (.cells #[.int .i64 1, .int .i64 4, .int .i64 0, .int .i64 5, .string ⟨#[]⟩, .int .i64 3, .int .i64 0, .int .i64 0, .int .i64 0, .string ⟨#[]⟩, .int .i64 23, .int .i64 0, .int .i64 0, .int .i64 0, .string ⟨#[]⟩] 41)).alloc (.cells #[.slice (some ⟨w.heap.size, 0, none⟩) 1 1, .slice (some ⟨w.heap.size + 1, 0, none⟩) 3 3] 25)).alloc (.cells #[.int .i64 1, .int .i64 4, .int .i64 0, .int .i64 0, .string ⟨#[]⟩, .int .i64 23, .int .i64 0, .int .i64 0, .int .i64 0, .string ⟨#[]⟩, .int .i64 3, .int .i64 1, .int .i64 0, .int .i64 0, .string ⟨#[]⟩] 41)) (.cells #[.slice (some ⟨w.heap.size, 0, none⟩) 1 1, .slice (some ⟨w.heap.size + 3, 0, none⟩) 3 3] 25)
  try simp only [World.size_alloc] at this
  exact this
theorem kw_5 (w : World) : (kw w).heap[w.heap.size + 5]? = some (.cells [.int .i64 3, .int .i64 0, .int .i64 0, .int .i64 0, .string ⟨#[]⟩, .int .i64 23, .int .i64 0, .int .i64 0, .int .i64 0, .string ⟨#[]⟩].toArray 41 (0, 0)) := by
  unfold kw
  rw [heap_old (by first | (simp; done) | (simp; omega))]
  have := heap_alloc_new (((((w.alloc (.cells #[.int .i64 4] 3)).alloc (.cells #[.int .i64 1, .int .i64 4, .int .i64 0, .int .i64 5, .string ⟨#[]⟩, .int .i64 3, .int .i64 0, .int .i64 0, .int .i64 0, .string ⟨#[]⟩, .int .i64 23, .int .i64 0, .int .i64 0, .int .i64 0, .string ⟨#[]⟩] 41)).alloc (.cells #[.slice (some ⟨w.heap.size, 0, none⟩) 1 1, .slice (some ⟨w.heap.size + 1, 0, none⟩) 3 3] 25)).alloc (.cells #[.int .i64 1, .int .i64 4, .int .i64 0, .int .i64 0, .string ⟨#[]⟩, .int .i64 23, .int .i64 0, .int .i64 0, .int .i64 0, .string ⟨#[]⟩, .int .i64 3, .int .i64 1, .int .i64 0, .int .i64 0, .string ⟨#[]⟩] 41)).alloc (.cells #[.slice (some ⟨w.heap.size, 0, none⟩) 1 1, .slice (some ⟨w.heap.size + 3, 0, none⟩) 3 3] 25)) (.cells #[.int .i64 3, .int .i64 0, .int .i64 0, .int .i64 0, .string ⟨#[]⟩, .int .i64 23, .int .i64 0, .int .i64 0, .int .i64 0, .string ⟨#[]⟩] 41)
  try simp only [World.size_alloc] at this
  exact this
theorem kw_6 (w : World) : (kw w).heap[w.heap.size + 6]? = some (.cells [.slice (some ⟨w.heap.size, 0, none⟩) 1 1, .slice (some ⟨w.heap.size + 5, 0, none⟩) 2 2].toArray 25 (0, 0)) := by
  unfold kw
  have := heap_alloc_new ((((((w.alloc (.cells #[.int .i64 4] 3)).alloc (.cells #[.int .i64 1, .int .i64 4, .int .i64 0, .int .i64 5, .string ⟨#[]⟩, .int .i64 3, .int .i64 0, .int .i64 0, .int .i64 0, .string ⟨#[]⟩, .int .i64 23, .int .i64 0, .int .i64 0, .int .i64 0, .string ⟨#[]⟩] 41)).alloc (.cells #[.slice (some ⟨w.heap.size, 0, none⟩) 1 1, .slice (some ⟨w.heap.size + 1, 0, none⟩) 3 3] 25)).alloc (.cells #[.int .i64 1, .int .i64 4, .int .i64 0, .int .i64 0, .string ⟨#[]⟩, .int .i64 23, .int .i64 0, .int .i64 0, .int .i64 0, .string ⟨#[]⟩, .int .i64 3, .int .i64 1, .int .i64 0, .int .i64 0, .string ⟨#[]⟩] 41)).alloc (.cells #[.slice (some ⟨w.heap.size, 0, none⟩) 1 1, .slice (some ⟨w.heap.size + 3, 0, none⟩) 3 3] 25)).alloc (.cells #[.int .i64 3, .int .i64 0, .int .i64 0, .int .i64 0, .string ⟨#[]⟩, .int .i64 23, .int .i64 0, .int .i64 0, .int .i64 0, .string ⟨#[]⟩] 41)) (.cells #[.slice (some ⟨w.heap.size, 0, none⟩) 1 1, .slice (some ⟨w.heap.size + 5, 0, none⟩) 2 2] 25)
  try simp only [World.size_alloc] at this
  exact this
theorem kw_c0 (w : World) : Cd (kw w) (some ⟨w.heap.size, 0, none⟩) 1 1 (some ⟨w.heap.size + 1, 0, none⟩) 3 3 [4] kL0 := by
  refine ⟨Or.inr ⟨w.heap.size, 0, 1, rfl, Nat.le_refl _, fun k u hk => ?_⟩, rfl, by decide, Or.inr ⟨w.heap.size + 1, 0, rfl, fun i x hx k u hk => ?_⟩, rfl, by decide⟩
  · rw [Nat.zero_add]
    exact cell_row (l := [.int .i64 4]) (kw_0 w) hk
  · refine cell_row (kw_1 w) ?_
    match i, hx with
    | 0, hx =>
      simp [kL0] at hx
      subst hx
      match k, hk with
      | 0, hk => simpa [Ins.cs, nos] using hk
      | 1, hk => simpa [Ins.cs, nos] using hk
      | 2, hk => simpa [Ins.cs, nos] using hk
      | 3, hk => simpa [Ins.cs, nos] using hk
      | 4, hk => simpa [Ins.cs, nos] using hk
      | k + 5, hk => simp [Ins.cs] at hk
    | 1, hx =>
      simp [kL0] at hx
      subst hx
      match k, hk with
      | 0, hk => simpa [Ins.cs, nos] using hk
      | 1, hk => simpa [Ins.cs, nos] using hk
      | 2, hk => simpa [Ins.cs, nos] using hk
      | 3, hk => simpa [Ins.cs, nos] using hk
      | 4, hk => simpa [Ins.cs, nos] using hk
      | k + 5, hk => simp [Ins.cs] at hk
    | 2, hx =>
      simp [kL0] at hx
      subst hx
      match k, hk with
      | 0, hk => simpa [Ins.cs, nos] using hk
      | 1, hk => simpa [Ins.cs, nos] using hk
      | 2, hk => simpa [Ins.cs, nos] using hk
      | 3, hk => simpa [Ins.cs, nos] using hk
      | 4, hk => simpa [Ins.cs, nos] using hk
      | k + 5, hk => simp [Ins.cs] at hk
    | i + 3, hx => simp [kL0] at hx
theorem kw_c1 (w : World) : Cd (kw w) (some ⟨w.heap.size, 0, none⟩) 1 1 (some ⟨w.heap.size + 3, 0, none⟩) 3 3 [4] kL1 := by
  refine ⟨Or.inr ⟨w.heap.size, 0, 1, rfl, Nat.le_refl _, fun k u hk => ?_⟩, rfl, by decide, Or.inr ⟨w.heap.size + 3, 0, rfl, fun i x hx k u hk => ?_⟩, rfl, by decide⟩
  · rw [Nat.zero_add]
    exact cell_row (l := [.int .i64 4]) (kw_0 w) hk
  · refine cell_row (kw_3 w) ?_
    match i, hx with
    | 0, hx =>
      simp [kL1] at hx
      subst hx
      match k, hk with
      | 0, hk => simpa [Ins.cs, nos] using hk
      | 1, hk => simpa [Ins.cs, nos] using hk
      | 2, hk => simpa [Ins.cs, nos] using hk
      | 3, hk => simpa [Ins.cs, nos] using hk
      | 4, hk => simpa [Ins.cs, nos] using hk
      | k + 5, hk => simp [Ins.cs] at hk
    | 1, hx =>
      simp [kL1] at hx
      subst hx
      match k, hk with
      | 0, hk => simpa [Ins.cs, nos] using hk
      | 1, hk => simpa [Ins.cs, nos] using hk
      | 2, hk => simpa [Ins.cs, nos] using hk
      | 3, hk => simpa [Ins.cs, nos] using hk
      | 4, hk => simpa [Ins.cs, nos] using hk
      | k + 5, hk => simp [Ins.cs] at hk
    | 2, hx =>
      simp [kL1] at hx
      subst hx
      match k, hk with
      | 0, hk => simpa [Ins.cs, nos] using hk
      | 1, hk => simpa [Ins.cs, nos] using hk
      | 2, hk => simpa [Ins.cs, nos] using hk
      | 3, hk => simpa [Ins.cs, nos] using hk
      | 4, hk => simpa [Ins.cs, nos] using hk
      | k + 5, hk => simp [Ins.cs] at hk
    | i + 3, hx => simp [kL1] at hx
theorem kw_c2 (w : World) : Cd (kw w) (some ⟨w.heap.size, 0, none⟩) 1 1 (some ⟨w.heap.size + 5, 0, none⟩) 2 2 [4] kL2 := by
  refine ⟨Or.inr ⟨w.heap.size, 0, 1, rfl, Nat.le_refl _, fun k u hk => ?_⟩, rfl, by decide, Or.inr ⟨w.heap.size + 5, 0, rfl, fun i x hx k u hk => ?_⟩, rfl, by decide⟩
  · rw [Nat.zero_add]
    exact cell_row (l := [.int .i64 4]) (kw_0 w) hk
  · refine cell_row (kw_5 w) ?_
    match i, hx with
    | 0, hx =>
      simp [kL2] at hx
      subst hx
      match k, hk with
      | 0, hk => simpa [Ins.cs, nos] using hk
      | 1, hk => simpa [Ins.cs, nos] using hk
      | 2, hk => simpa [Ins.cs, nos] using hk
      | 3, hk => simpa [Ins.cs, nos] using hk
      | 4, hk => simpa [Ins.cs, nos] using hk
      | k + 5, hk => simp [Ins.cs] at hk
    | 1, hx =>
      simp [kL2] at hx
      subst hx
      match k, hk with
      | 0, hk => simpa [Ins.cs, nos] using hk
      | 1, hk => simpa [Ins.cs, nos] using hk
      | 2, hk => simpa [Ins.cs, nos] using hk
      | 3, hk => simpa [Ins.cs, nos] using hk
      | 4, hk => simpa [Ins.cs, nos] using hk
      | k + 5, hk => simp [Ins.cs] at hk
    | i + 2, hx => simp [kL2] at hx
theorem kw_wf (x : Ins) (h : x ∈ kL0) : Wf x := by
  simp [kL0] at h
  rcases h with rfl | rfl | rfl <;> exact ⟨by decide, by decide, by decide⟩
theorem kw_20 (w : World) : (kw w).cell? ⟨w.heap.size + 2, 0, none⟩ = some (.slice (some ⟨w.heap.size, 0, none⟩) 1 1) := cell_row (k := 0) (kw_2 w) rfl
theorem kw_21 (w : World) : (kw w).cell? ⟨w.heap.size + 2, 1, none⟩ = some (.slice (some ⟨w.heap.size + 1, 0, none⟩) 3 3) := cell_row (k := 1) (kw_2 w) rfl
theorem kw_40 (w : World) : (kw w).cell? ⟨w.heap.size + 4, 0, none⟩ = some (.slice (some ⟨w.heap.size, 0, none⟩) 1 1) := cell_row (k := 0) (kw_4 w) rfl
theorem kw_41 (w : World) : (kw w).cell? ⟨w.heap.size + 4, 1, none⟩ = some (.slice (some ⟨w.heap.size + 3, 0, none⟩) 3 3) := cell_row (k := 1) (kw_4 w) rfl
theorem kw_60 (w : World) : (kw w).cell? ⟨w.heap.size + 6, 0, none⟩ = some (.slice (some ⟨w.heap.size, 0, none⟩) 1 1) := cell_row (k := 0) (kw_6 w) rfl
theorem kw_61 (w : World) : (kw w).cell? ⟨w.heap.size + 6, 1, none⟩ = some (.slice (some ⟨w.heap.size + 5, 0, none⟩) 2 2) := cell_row (k := 1) (kw_6 w) rfl
end Go.Proofs.YtkknfolahfmghaaDoor
