/- The walk: the chapter's examples. -/
import Derived.Test.YthhlahimaoiinaaTsum
import Derived.Lib.SlBytesConst
namespace Go.Proofs.Ythhlahimaoiinaa
open Go.RowKit
open Crc

/-- A table's cells as they are declared. -/
def zT : Array Value := #[.int .u32 0, .int .i32 0, .int .u32 0, .int .i64 0] ++ Array.replicate 256 (.int .u16 0)
theorem zT_info : (Try.prog.info? 42).map (fun i => i.zero) = some (some (.agg zT)) := by kernel_rfl
theorem zT_zero (w : World) : Sem.run Try.prog (zeroValue 42) w = .ok (.agg zT) w := by
  obtain ⟨i, hi, hz⟩ := Option.map_eq_some_iff.1 zT_info
  simp [zeroValue, typeInfo, hi, hz]
theorem zT_sums (j : Nat) (hj : j < 256) : zT[4 + j]? = some (.int .u16 0) := by
  unfold zT
  rw [Array.getElem?_append_right (by simp)]
  simp [hj]
theorem zT_head (j : Nat) (hj : j < 4) : zT[j]? = (#[.int .u32 0, .int .i32 0, .int .u32 0, .int .i64 0] : Array Value)[j]? := by
  unfold zT
  rw [Array.getElem?_append_left (by simpa using hj)]
theorem zT_tab (w : World) : Tab (w.alloc (.cells zT 42)) w.heap.size 0 0 := by
  refine ⟨?_, ?_, ?_, fun j hj => ?_, fun j => World.frozen?_alloc_new ..⟩
  · rw [World.cell?_alloc_new, zT_head 0 (by decide)]; rfl
  · rw [World.cell?_alloc_new, zT_head (0 + 1) (by decide)]; rfl
  · rw [World.cell?_alloc_new, zT_head (0 + 3) (by decide)]; rfl
  · rw [World.cell?_alloc_new, Nat.zero_add, zT_sums j hj, Nat.zero_mul]; rfl

def k9 : List Nat := [49, 50, 51, 52, 53, 54, 55, 56, 57]
theorem k9_16 : s16 k9 = 19255 := by decide +kernel
theorem k9_32 : bits .xor .u32 4294967295 (r32 k9 : Nat) = 3421780262 := by
  rw [show r32 k9 = 873187033 by decide +kernel]
  exact xor_32 (a := 4294967295) (b := 873187033) (by decide) (by decide)
theorem k9_bytes : Bytes k9 := by unfold Bytes k9; decide
def k9c : Array Value := #[.int .u8 49, .int .u8 50, .int .u8 51, .int .u8 52, .int .u8 53, .int .u8 54, .int .u8 55, .int .u8 56, .int .u8 57]
theorem k9_slice (w : World) : Slice (w.alloc (.cells k9c 5 (9, 10))) (.slice (some ⟨w.heap.size, 0, none⟩) 9 9) k9 := by
  refine ⟨k9_bytes, Or.inr ⟨w.heap.size, 0, 9, rfl, fun k hk => ?_⟩⟩
  rw [World.cell?_alloc_mark, Nat.zero_add]
  match k, hk with
  | 0, _ => rfl
  | 1, _ => rfl
  | 2, _ => rfl
  | 3, _ => rfl
  | 4, _ => rfl
  | 5, _ => rfl
  | 6, _ => rfl
  | 7, _ => rfl
  | 8, _ => rfl
theorem nil_slice (w : World) : Slice w (.slice none 0 0) [] := ⟨fun _ h => by simp at h, Or.inl ⟨rfl, none, 0, rfl, fun _ => rfl⟩⟩

theorem known_start (w : World) : Below w.heap.size w ((w.alloc (.cells zT 42)).alloc (.cells k9c 5 (9, 10))) ∧ Tab ((w.alloc (.cells zT 42)).alloc (.cells k9c 5 (9, 10))) w.heap.size 0 0 ∧ Slice ((w.alloc (.cells zT 42)).alloc (.cells k9c 5 (9, 10))) (.slice (some ⟨w.heap.size + 1, 0, none⟩) 9 9) k9 := by
  refine ⟨((Below.refl _ w).alloc (Nat.le_refl _) _).alloc (by simp) _, ?_, ?_⟩
  · refine (zT_tab w).below (B := w.heap.size + 1) ?_ (by omega)
    exact (Below.refl _ _).alloc (by simp) _
  · have := k9_slice (w.alloc (.cells zT 42))
    rwa [World.size_alloc] at this
theorem ne_blk {g c b : Nat} {bs : List Nat} (h : g ≠ b) : Apart (Value.slice (some ⟨g, 0, none⟩) c c) bs b := by
  intro _ a n m e
  simp only [Value.slice.injEq, Option.some.injEq] at e
  rw [← e.1]
  exact h
theorem nil_blk {b : Nat} : Apart (Value.slice none 0 0) [] b := fun h => absurd rfl h

set_option maxRecDepth 100000 in
set_option maxHeartbeats 1600000 in
theorem known_c (w : World) : Calls Try.prog 7 #[] w fun e w' => e = .returned (.bool true) ∧ Below w.heap.size w w' := by
  have hz := zT_zero
  have hcv : Sem.run Try.prog (convert 22 22 (.slice (some ⟨w.heap.size + 1, 0, none⟩) 9 9)) ((w.alloc (.cells zT 42)).alloc (.cells #[.int .u8 49, .int .u8 50, .int .u8 51, .int .u8 52, .int .u8 53, .int .u8 54, .int .u8 55, .int .u8 56, .int .u8 57] 5)) = .ok (.slice (some ⟨w.heap.size + 1, 0, none⟩) 9 9) ((w.alloc (.cells zT 42)).alloc (.cells k9c 5 (9, 10))) := by
    have := Lib.run_convert_bytes_const (P := Try.prog) (w.alloc (.cells zT 42)) 22 5 k9c 9 9 Try.underlying22 Try.underlying5
    rw [World.size_alloc] at this
    exact this
  have HK := known_start w
  generalize (w.alloc (.cells zT 42)).alloc (.cells k9c 5 (9, 10)) = W at hcv HK
  obtain ⟨k0, t0, s0⟩ := HK
  have k0 : Hid (Below w.heap.size w W) := k0
  have t0 : Hid (Tab W w.heap.size 0 0) := t0
  have s0 : Hid (Slice W (.slice (some ⟨w.heap.size + 1, 0, none⟩) 9 9) k9) := s0
  go_enter Try.func7, Try.ntmps7
  go_wp2_with (go_at_call 14; refine (made_c w.heap.size 0 0 _ t0).mono ?_; rintro e w' ⟨rfl, hw⟩; subst w')
  refine (tsum_c (Or.inl rfl) t0 s0 (by decide) (ne_blk (by omega))).mono ?_
  rintro e w1 ⟨rfl, o1, t1⟩
  have k1 : Hid (Below w.heap.size w w1) := k0.trans (o1.below (Nat.le_refl _))
  have s1 : Hid (Slice w1 (.slice (some ⟨w.heap.size + 1, 0, none⟩) 9 9) k9) := Slice.only s0 o1 (ne_blk (by omega))
  have t1 : Hid (Tab w1 w.heap.size 0 1) := t1
  clear o1 k0 s0 t0
  go_wp2_with fail
  refine (tsum_c (Or.inr rfl) t1 (nil_slice _) (by decide) nil_blk).mono ?_
  rintro e w2 ⟨rfl, o2, t2⟩
  have k2 : Hid (Below w.heap.size w w2) := k1.trans (o2.below (Nat.le_refl _))
  have s2 : Hid (Slice w2 (.slice (some ⟨w.heap.size + 1, 0, none⟩) 9 9) k9) := Slice.only s1 o2 (ne_blk (by omega))
  have t2 : Hid (Tab w2 w.heap.size 0 1) := t2
  have e16 := k9_16
  have e32 := k9_32
  clear o2 k1 s1 t1
  go_wp2_with (first | (go_at_call 11; refine (sum16_c s2 (by decide)).mono ?_; rintro e w' ⟨rfl, hw⟩; subst w') | (go_at_call 12; refine (sum32_c s2 (by decide)).mono ?_; rintro e w' ⟨rfl, hw⟩; subst w') | (go_at_call 14; refine (made_c w.heap.size 0 1 _ t2).mono ?_; rintro e w' ⟨rfl, hw⟩; subst w'))
  go_ret
  exact ⟨rfl, k2⟩
end Go.Proofs.Ythhlahimaoiinaa
