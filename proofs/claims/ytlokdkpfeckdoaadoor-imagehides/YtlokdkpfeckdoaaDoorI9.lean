/- The walk of the reference's Copy (stage 11). -/
import Derived.Test.YtlokdkpfeckdoaaDoorI8
import Derived.Deep.WholeRow
namespace Go.Proofs.YtlokdkpfeckdoaaDoor
open Go.RowKit
open Adr
theorem infoRef : (Tryd.prog.info? 57).map (·.size) = some 1793 := by kernel_rfl
theorem zero_ref : ∃ Z : Array Value, Z.size = 1793 ∧ ∀ W, (zeroValue 57).run Tryd.prog W = .ok (.agg Z) W := by
  refine ⟨_, ?_, (zero_of_info zero57).1⟩
  rw [List.size_toArray, List.length_append, List.length_replicate]
  rfl
theorem imc_one (s : IS) : ∀ v ∈ imc s, v.oneCell' = true := by
  intro v hv
  unfold imc at hv
  rcases List.mem_append.1 hv with h | h
  · exact u16f_one _ _ _ v h
  · rcases List.mem_append.1 h with h | h
    · exact u16f_one _ _ _ v h
    · simp at h; subst h; rfl
set_option maxHeartbeats 800000 in
theorem rcopy_c {w : World} {g : Nat} {s : IS} (t : Im w g s) : Calls Tryd.prog 18 #[.pointer (some ⟨g, 0, none⟩)] w fun e w' => e = .returned (.pointer (some ⟨w.heap.size, 0, none⟩)) ∧ Im w' w.heap.size s ∧ Below w.heap.size w w' := by
  obtain ⟨Z, hZ, hz⟩ := zero_ref
  have hl := hid_as (run_loadAt_mid (P := Tryd.prog) w g 0 57 (imc s) _ (im_range t) Tryd.underlying57 rfl (by rw [infoRef, imc_len]))
  have hs := hid_as (run_storeAt_new (P := Tryd.prog) w 57 Z (imc s).toArray (by rw [infoRef, List.size_toArray, imc_len]) (by rw [hZ, List.size_toArray, imc_len]) (all_oneCell_toArray (imc_one s)))
  obtain ⟨C, hC⟩ : ∃ C, C = imc s := ⟨_, rfl⟩
  rw [← hC] at hl hs
  have T := hid_as (im_new w 57 hC)
  clear hC t hZ
  go_enter Tryd.func18, Tryd.ntmps18
  go_wp2_with (first
    | (refine step_load rfl 57 _ (by with_reducible rfl) g 0 (by simp [Act.eval]) _ hl.out ?_)
    | (refine step_store rfl 57 _ _ (by with_reducible rfl) w.heap.size 0 _ (by simp [Act.eval]) (by simp [Act.eval]) hs.out ?_))
  go_ret
  exact ⟨rfl, T.out⟩
end Go.Proofs.YtlokdkpfeckdoaaDoor
