/- The walks of Copy, the project's and the reference's (stage 11). -/
import Derived.Test.YtlokdkpfeckdoaaDoorI7
namespace Go.Proofs.YtlokdkpfeckdoaaDoor
open Go.RowKit
open Adr
set_option maxHeartbeats 800000 in
theorem store64_c (a : Addr) (x y : Nat) (w : World) (hc : w.cell? a = some (.int .u64 (x : Int))) (hz : w.frozen? a = false) : Calls Tryd.prog 31 #[.pointer (some a), .int .u64 (y : Int)] w fun e w' => e = .returned (.tuple #[]) ∧ w' = w.setCell a (.int .u64 (y : Int)) := by
  have hl := run_call_store (P := Tryd.prog) Tryd.func41 (by kernel_rfl) (by kernel_rfl) (by kernel_rfl) (by kernel_rfl) (k := .u64) (y := (y : Int)) hc hz
  go_enter Tryd.func31, Tryd.ntmps31
  go_wp2
  refine bodyPost_end (results_none Tryd.results31 _ _ _) rfl ?_
  exact ⟨rfl, rfl⟩
theorem yieldsIf_build {P : Program} {ops : Array Oper} {S : World → Prop} {op : Oper} {a : Act} (hw : Region.wanted op (yielded ops a.tmps) = true) (t : TypeId) (parts : Array (Nat × Operand)) (ho : op.op = .build t parts)
    (vs : Array (Nat × Value)) (hv : (parts.map fun (i, x) => (i, a.eval x)) = vs) (A : Array Value) (hr : ∀ w, (Instr.build t vs).run P w = .ok (.agg A) w) : YieldsIf P ops S op (.agg A) a :=
  .inl ⟨hw, fun w _ => by
    unfold execOp
    simp only [ho, hv, Sem.run_bind, Sem.run_pure, Result.andThen_ok, hr]⟩
set_option maxHeartbeats 1600000 in
theorem copy_c {w : World} {g : Nat} {s : IS} (t : Im w g s) : Calls Tryd.prog 17 #[.pointer (some ⟨g, 0, none⟩)] w fun e w' => e = .returned (.pointer (some ⟨w.heap.size, 0, none⟩)) ∧ Im w' w.heap.size s ∧ Below w.heap.size w w' := by
  have HB := hid_as (build_two s)
  have R1 := hid_as (t.out.range 0 896 (by omega))
  have R2 := hid_as (t.wrk.range 0 896 (by omega))
  have l1 := u16f_len s.o 0 896
  have l2 := u16f_len s.k 0 896
  have N := hid_as (fun W => im_new W (C := imc { s with n := 0 }) (s := { s with n := 0 }) 55 rfl)
  generalize (imc { s with n := 0 }) = C at HB N
  generalize u16f s.o 0 896 = c1 at *
  generalize u16f s.k 0 896 = c2 at *
  have I1 : Hid ((Tryd.prog.info? 48).map (·.size) = some c1.length) := by rw [l1]; exact infoBuf
  have I2 : Hid ((Tryd.prog.info? 48).map (·.size) = some c2.length) := by rw [l2]; exact infoBuf
  have hlt := t.lt
  have T := hid_as t
  clear t l1 l2
  go_enter Tryd.func17, Tryd.ntmps17
  go_wp2
  refine wp_region_noPanic ?_
  refine wp_region_held_drew (S := fun w' => w'.rangeAt g 0 c1 ∧ w'.rangeAt g 896 c2) (by kernel_rfl) ⟨R1.out, R2.out⟩ (fun hHeld1 => ?_)
  refine wpAnyH_take (i := 0) (v := .pointer (some ⟨g, 0, none⟩)) rfl (by kernel_rfl) (by kernel_rfl) (by kernel_rfl) (fun _ _ _ h => h) (Or.inl ⟨by rfl, fun W hW => by go_simp⟩) (by assumption) ?_
  simp only [Act.put, List.getElem_toArray, List.getElem_cons_zero, List.setIfInBounds_toArray, List.set_cons_zero, List.set_cons_succ]
  refine wpAnyH_take (i := 1) (v := .pointer (some ⟨g, 0, none⟩)) rfl (by kernel_rfl) (by kernel_rfl) (by kernel_rfl) (fun _ _ _ h => h) (Or.inl ⟨by rfl, fun W hW => by go_simp⟩) (by assumption) ?_
  simp only [Act.put, List.getElem_toArray, List.getElem_cons_zero, List.getElem_cons_succ, List.setIfInBounds_toArray, List.set_cons_zero, List.set_cons_succ]
  refine wpAnyH_take (i := 2) (v := .pointer (some ⟨g, 0, none⟩)) rfl (by kernel_rfl) (by kernel_rfl) (by kernel_rfl) (fun _ _ _ h => h) (Or.inl ⟨by rfl, fun W hW => by go_simp⟩) (by assumption) ?_
  simp only [Act.put, List.getElem_toArray, List.getElem_cons_zero, List.getElem_cons_succ, List.setIfInBounds_toArray, List.set_cons_zero, List.set_cons_succ]
  refine wpAnyH_take (i := 3) (v := .agg c1.toArray) rfl (by kernel_rfl) (by kernel_rfl) (by kernel_rfl) (fun _ _ _ h => h) (yieldsIf_load_mid (by rfl) _ _ rfl g 0 rfl c1 _ (fun _ h => h.1) undBuf rfl I1.out) (by assumption) ?_
  simp only [Act.put, List.getElem_toArray, List.getElem_cons_zero, List.getElem_cons_succ, List.setIfInBounds_toArray, List.set_cons_zero, List.set_cons_succ]
  refine wpAnyH_take (i := 4) (v := .pointer (some ⟨g, 0, none⟩)) rfl (by kernel_rfl) (by kernel_rfl) (by kernel_rfl) (fun _ _ _ h => h) (Or.inl ⟨by rfl, fun W hW => by go_simp⟩) (by assumption) ?_
  simp only [Act.put, List.getElem_toArray, List.getElem_cons_zero, List.getElem_cons_succ, List.setIfInBounds_toArray, List.set_cons_zero, List.set_cons_succ]
  refine wpAnyH_take (i := 5) (v := .pointer (some ⟨g, 0, none⟩)) rfl (by kernel_rfl) (by kernel_rfl) (by kernel_rfl) (fun _ _ _ h => h) (Or.inl ⟨by rfl, fun W hW => by go_simp⟩) (by assumption) ?_
  simp only [Act.put, List.getElem_toArray, List.getElem_cons_zero, List.getElem_cons_succ, List.setIfInBounds_toArray, List.set_cons_zero, List.set_cons_succ]
  refine wpAnyH_take (i := 6) (v := .pointer (some ⟨g, 896, none⟩)) rfl (by kernel_rfl) (by kernel_rfl) (by kernel_rfl) (fun _ _ _ h => h) (Or.inl ⟨by rfl, fun W hW => by go_simp⟩) (by assumption) ?_
  simp only [Act.put, List.getElem_toArray, List.getElem_cons_zero, List.getElem_cons_succ, List.setIfInBounds_toArray, List.set_cons_zero, List.set_cons_succ]
  refine wpAnyH_take (i := 7) (v := .agg c2.toArray) rfl (by kernel_rfl) (by kernel_rfl) (by kernel_rfl) (fun _ _ _ h => h) (yieldsIf_load_mid (by rfl) _ _ rfl g 896 rfl c2 _ (fun _ h => h.2) undBuf rfl I2.out) (by assumption) ?_
  simp only [Act.put, List.getElem_toArray, List.getElem_cons_zero, List.getElem_cons_succ, List.setIfInBounds_toArray, List.set_cons_zero, List.set_cons_succ]
  refine wpAnyH_take (i := 8) (v := .agg C.toArray) rfl (by kernel_rfl) (by kernel_rfl) (by kernel_rfl) (fun _ _ _ h => h) (yieldsIf_build (by rfl) 55 #[(0, .tmp 7), (1, .tmp 11)] rfl #[(0, .agg c1.toArray), (1, .agg c2.toArray)] (by simp [Act.eval]) _ HB.out) (by assumption) ?_
  simp only [Act.put, List.getElem_toArray, List.getElem_cons_zero, List.getElem_cons_succ, List.setIfInBounds_toArray, List.set_cons_zero, List.set_cons_succ]
  refine wpAnyH_ready (rs := [9]) (by kernel_rfl) (by simp) ?_
  refine AllReadyH.cons rfl (fun K hK => ?_) AllReadyH.nil
  go_simp
  refine hK.out _ _ ⟨World.rangeAt_alloc R1.out _, World.rangeAt_alloc R2.out _⟩ (fun hHeld2 => ?_)
  clear hK K
  refine wpAnyH_take (i := 10) (v := .pointer (some ⟨w.heap.size, 0, none⟩)) rfl (by kernel_rfl) (by kernel_rfl) (by kernel_rfl) (fun _ _ _ h => h) (Or.inl ⟨by rfl, fun W hW => by go_simp⟩) (by assumption) ?_
  simp only [Act.put, List.getElem_toArray, List.getElem_cons_zero, List.getElem_cons_succ, List.setIfInBounds_toArray, List.set_cons_zero, List.set_cons_succ]
  refine wpAnyH_done (by kernel_rfl) ?_ _
  refine NoPanic.normal ?_
  have k1 : Below w.heap.size w (w.alloc (.cells C.toArray 55)).drew := (N.out w).2.trans ((Same.drew _).below.mono (by simp))
  have N2 : Hid (Im (w.alloc (.cells C.toArray 55)).drew w.heap.size { s with n := 0 } ∧ Below w.heap.size w (w.alloc (.cells C.toArray 55)).drew ∧ Im (w.alloc (.cells C.toArray 55)).drew g s) := ⟨(N.out w).1.same (Same.drew _), k1, T.out.below k1⟩
  clear hHeld1 hHeld2 N k1
  generalize (w.alloc (.cells C.toArray 55)).drew = w1 at *
  have L := hid_as (load64_c ⟨g, 1792, none⟩ s.n w1.drew N2.out.2.2.num)
  have ST := hid_as (store64_c ⟨w.heap.size, 1792, none⟩ 0 s.n w1.drew N2.out.1.num (N2.out.1.free _))
  have FI : Hid (Im (w1.drew.setCell ⟨w.heap.size, 1792, none⟩ (.int .u64 (s.n : Int))) w.heap.size s ∧ Below w.heap.size w (w1.drew.setCell ⟨w.heap.size, 1792, none⟩ (.int .u64 (s.n : Int)))) := ⟨(N2.out.1.same (Same.drew _)).setN s.n, N2.out.2.1.trans (((Turn.refl w.heap.size w1).drew.set 1792 (.int .u64 (s.n : Int))).below (Nat.le_refl _) N2.out.2.1.size)⟩
  go_wp2
  go_region_held3 (fun _ => True) (trivial) (first | (go_at_call 32; refine L.out.mono ?_; rintro e w' ⟨rfl, hw⟩; subst w') | (go_at_call 31; refine ST.out.mono ?_; rintro e w' ⟨rfl, hw⟩; subst w'))
  go_wp2
  go_ret
  exact ⟨rfl, FI.out⟩
end Go.Proofs.YtlokdkpfeckdoaaDoor
