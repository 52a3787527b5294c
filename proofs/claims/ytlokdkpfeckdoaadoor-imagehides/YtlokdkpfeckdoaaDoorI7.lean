/- The walks of New and Copy, the project's and the reference's (stage 11). -/
import Derived.Test.YtlokdkpfeckdoaaDoorI5
namespace Go.Proofs.YtlokdkpfeckdoaaDoor
open Go.RowKit
open Adr
/-- An image's cells. -/
def imc (s : IS) : List Value := u16f s.o 0 896 ++ (u16f s.k 0 896 ++ [.int .u64 (s.n : Int)])
theorem imc_len (s : IS) : (imc s).length = 1793 := by simp [imc, u16f_len]
theorem im_of_row {w : World} {g : Nat} {s : IS} {t : TypeId} (h : w.heap[g]? = some (.cells (imc s).toArray t (0, 0))) : Im w g s := by
  refine ⟨fun j hj => ?_, fun j hj => ?_, ?_, fun j => frozen_row h⟩
  · refine cell_row h ?_
    rw [imc, List.getElem?_append_left (by rw [u16f_len]; omega), Nat.zero_add, u16f_at _ _ _ _ hj, Nat.zero_add]
  · refine cell_row h ?_
    rw [imc, List.getElem?_append_right (by rw [u16f_len]; omega), u16f_len, List.getElem?_append_left (by rw [u16f_len]; omega), show 896 + j - 896 = j by omega, u16f_at _ _ _ _ hj, Nat.zero_add]
  · refine cell_row h ?_
    rw [imc, List.getElem?_append_right (by rw [u16f_len]; omega), u16f_len, List.getElem?_append_right (by rw [u16f_len]; omega), u16f_len]
    rfl
theorem im_range {w : World} {g : Nat} {s : IS} (t : Im w g s) : w.rangeAt g 0 (imc s) := fun j v hv => by
  by_cases h1 : j < 896
  · rw [imc, List.getElem?_append_left (by rw [u16f_len]; omega), u16f_at _ _ _ _ h1, Nat.zero_add] at hv
    obtain rfl := Option.some.inj hv
    exact t.out j h1
  · rw [imc, List.getElem?_append_right (by rw [u16f_len]; omega), u16f_len] at hv
    by_cases h2 : j < 1792
    · rw [List.getElem?_append_left (by rw [u16f_len]; omega), u16f_at _ _ _ _ (by omega), Nat.zero_add] at hv
      obtain rfl := Option.some.inj hv
      have := t.wrk (j - 896) (by omega)
      rw [show 896 + (j - 896) = 0 + j by omega] at this
      exact this
    · rw [List.getElem?_append_right (by rw [u16f_len]; omega), u16f_len] at hv
      have hj : j = 1792 := by
        have := (List.getElem?_eq_some_iff.1 hv).1
        simp at this
        omega
      subst hj
      obtain rfl := Option.some.inj hv
      exact t.num
theorem zeros_rep : ∀ (n : Nat), u16f (fun _ => 0) 0 n = List.replicate n (.int .u16 0) := by
  intro n
  unfold u16f
  rw [List.map_const']
  simp
theorem zero55 : (Tryd.prog.info? 55).map (fun i => (i.zero, i.size)) = some (some (.agg ((List.replicate 1792 (Value.int .u16 0) ++ [Value.int .u64 0]).toArray)), 1793) := by kernel_rfl
theorem zero57 : (Tryd.prog.info? 57).map (fun i => (i.zero, i.size)) = some (some (.agg ((List.replicate 1792 (Value.int .u16 0) ++ [Value.int .u64 0]).toArray)), 1793) := by kernel_rfl
theorem imc_zero : imc IS.zero = List.replicate 1792 (Value.int .u16 0) ++ [Value.int .u64 0] := by
  unfold imc IS.zero
  simp only [zeros_rep]
  rw [← List.append_assoc, List.replicate_append_replicate]
  rfl
theorem built_new : Tryd.prog.built 55 [] = some (List.replicate 1792 (Value.int .u16 0) ++ [Value.int .u64 0]).toArray := by kernel_rfl
theorem built_rnew : Tryd.prog.built 57 [] = some (List.replicate 1792 (Value.int .u16 0) ++ [Value.int .u64 0]).toArray := by kernel_rfl
theorem built_two (A B : Array Value) : Tryd.prog.built 55 [(0, .agg A), (1, .agg B)] = Instr.fill (fun i => #[(0, 896), (896, 896), (1792, 1)][i]?) (List.replicate 1792 (Value.int .u16 0) ++ [Value.int .u64 0]).toArray [(0, .agg A), (1, .agg B)] := by kernel_rfl
theorem fold_at (off : Nat) : ∀ (l : List Value) (b : Nat) (cs : Array Value), ((l.zipIdx b).foldl (fun cs x => cs.setIfInBounds (off + x.2) x.1) cs).size = cs.size ∧ ∀ i, ((l.zipIdx b).foldl (fun cs x => cs.setIfInBounds (off + x.2) x.1) cs)[i]? = if off + b ≤ i ∧ i < off + b + l.length ∧ i < cs.size then l[i - (off + b)]? else cs[i]?
  | [], b, cs => ⟨rfl, fun i => by rw [if_neg (by simp only [List.length_nil]; omega)]; rfl⟩
  | v :: l, b, cs => by
    obtain ⟨h1, h2⟩ := fold_at off l (b + 1) (cs.setIfInBounds (off + b) v)
    rw [List.zipIdx_cons, List.foldl_cons]
    refine ⟨by rw [h1, Array.size_setIfInBounds], fun i => ?_⟩
    rw [h2 i, Array.size_setIfInBounds, List.length_cons]
    by_cases e : i = off + b
    · subst e
      rw [if_neg (by omega), Array.getElem?_setIfInBounds]
      by_cases hc : off + b < cs.size
      · rw [if_pos rfl, if_pos hc, if_pos (by omega), Nat.sub_self]; rfl
      · rw [if_pos rfl, if_neg hc, if_neg (by omega), Array.getElem?_eq_none (by omega)]
    · by_cases hc : off + (b + 1) ≤ i ∧ i < off + (b + 1) + l.length ∧ i < cs.size
      · rw [if_pos hc, if_pos (by omega), show i - (off + b) = (i - (off + (b + 1))) + 1 by omega]; rfl
      · rw [if_neg hc, Array.getElem?_setIfInBounds, if_neg (by omega), if_neg (by omega)]
theorem fill_two (A B : Array Value) (hA : A.size = 896) (hB : B.size = 896) : Instr.fill (fun i => #[(0, 896), (896, 896), (1792, 1)][i]?) (List.replicate 1792 (Value.int .u16 0) ++ [Value.int .u64 0]).toArray [(0, .agg A), (1, .agg B)] = some (A ++ (B ++ #[Value.int .u64 0])) := by
  generalize hZ : (List.replicate 1792 (Value.int .u16 0) ++ [Value.int .u64 0]).toArray = Z
  have hz : Z.size = 1793 := by rw [← hZ, List.size_toArray, List.length_append, List.length_replicate]; rfl
  have hl : Z[1792]? = some (Value.int .u64 0) := by
    rw [← hZ, List.getElem?_toArray, List.getElem?_append_right (by rw [List.length_replicate]; omega), List.length_replicate]; rfl
  have f1 := fold_at 0 A.toList 0 Z
  have e1 : A.zipIdx.foldl (fun cs x => cs.setIfInBounds (0 + x.2) x.1) Z = (A.toList.zipIdx 0).foldl (fun cs x => cs.setIfInBounds (0 + x.2) x.1) Z := by
    rw [← Array.foldl_toList, Array.toList_zipIdx]
  rw [← e1] at f1
  generalize hY : A.zipIdx.foldl (fun cs x => cs.setIfInBounds (0 + x.2) x.1) Z = Y at f1
  have f2 := fold_at 896 B.toList 0 Y
  have e2 : B.zipIdx.foldl (fun cs x => cs.setIfInBounds (896 + x.2) x.1) Y = (B.toList.zipIdx 0).foldl (fun cs x => cs.setIfInBounds (896 + x.2) x.1) Y := by
    rw [← Array.foldl_toList, Array.toList_zipIdx]
  rw [← e2] at f2
  have hy : Y.size = 1793 := by rw [f1.1, hz]
  have hAc : (Value.agg A).cells = A := rfl
  have hBc : (Value.agg B).cells = B := rfl
  have s1 : Instr.fill (fun i => #[(0, 896), (896, 896), (1792, 1)][i]?) Z [(0, .agg A), (1, .agg B)] = Instr.fill (fun i => #[(0, 896), (896, 896), (1792, 1)][i]?) Y [(1, .agg B)] := by
    rw [← hY]
    conv => lhs; unfold Instr.fill
    simp only [hAc]
    show (if A.size ≠ 896 || 0 + A.size > Z.size then none else _) = _
    rw [if_neg (by simp [hA, hz])]
  have s2 : Instr.fill (fun i => #[(0, 896), (896, 896), (1792, 1)][i]?) Y [(1, .agg B)] = some (B.zipIdx.foldl (fun cs x => cs.setIfInBounds (896 + x.2) x.1) Y) := by
    conv => lhs; unfold Instr.fill
    simp only [hBc]
    show (if B.size ≠ 896 || 896 + B.size > Y.size then none else _) = _
    rw [if_neg (by simp [hB, hy])]
    rfl
  rw [s1, s2]
  congr 1
  apply Array.ext_getElem?
  intro i
  rw [f2.2 i, f1.2 i, Array.length_toList, Array.length_toList, hA, hB, hy, hz]
  by_cases h1 : i < 896
  · rw [if_neg (by omega), if_pos (by omega), Array.getElem?_append_left (by omega), Array.getElem?_toList]; rfl
  · by_cases h2 : i < 1792
    · rw [if_pos (by omega), Array.getElem?_append_right (by omega), Array.getElem?_append_left (by omega), Array.getElem?_toList, hA]
    · rw [if_neg (by omega), if_neg (by omega), Array.getElem?_append_right (by omega), Array.getElem?_append_right (by omega), hA, hB]
      by_cases h3 : i = 1792
      · subst h3; exact hl
      · rw [Array.getElem?_eq_none (by omega), Array.getElem?_eq_none (by simp; omega)]
theorem build_two (s : IS) (W : World) : (Instr.build 55 #[(0, .agg (u16f s.o 0 896).toArray), (1, .agg (u16f s.k 0 896).toArray)]).run Tryd.prog W = .ok (.agg (imc { s with n := 0 }).toArray) W := by
  refine run_build W 55 _ _ ?_
  show Tryd.prog.built 55 [(0, .agg (u16f s.o 0 896).toArray), (1, .agg (u16f s.k 0 896).toArray)] = _
  rw [built_two, fill_two _ _ (buf_size ..) (buf_size ..)]
  unfold imc
  simp
theorem build_none (W : World) : (Instr.build 55 #[]).run Tryd.prog W = .ok (.agg (imc IS.zero).toArray) W := by
  refine run_build W 55 _ _ ?_
  rw [imc_zero]
  exact built_new
theorem build_rnone (W : World) : (Instr.build 57 #[]).run Tryd.prog W = .ok (.agg (imc IS.zero).toArray) W := by
  refine run_build W 57 _ _ ?_
  rw [imc_zero]
  exact built_rnew
theorem step_build {P : Program} {ops : Array Oper} {rest : List Oper} {op : Oper} {a : Act} {w : World} {Q : Exit → Act → World → Prop} (hgd : op.guard = none) (t : TypeId) (parts : Array (Nat × Operand)) (ho : op.op = .build t parts)
    (vs : Array (Nat × Value)) (hv : (parts.map fun (i, x) => (i, a.eval x)) = vs) (A : Array Value) (hr : (Instr.build t vs).run P w = .ok (.agg A) w)
    (h : wpList P ops Q rest (a.put op.dst (.agg A)) w) : wpList P ops Q (op :: rest) a w :=
  wpList_plain hgd fun K hK => by
    unfold Oper.wp execOp
    simp only [ho, hv, Sem.run_bind, Sem.run_pure, Result.andThen_ok, hr]
    exact hK _ _ h
theorem im_new (w : World) {C : List Value} {s : IS} (t : TypeId) (h : C = imc s) : Im (w.alloc (.cells C.toArray t)) w.heap.size s ∧ Below w.heap.size w (w.alloc (.cells C.toArray t)) := by
  refine ⟨?_, below_new (Below.refl _ w) _⟩
  have k : (w.alloc (.cells C.toArray t)).heap[w.heap.size]? = some (.cells C.toArray t (0, 0)) := heap_alloc_new w _
  generalize w.alloc (.cells C.toArray t) = W at k
  rw [h] at k
  exact im_of_row k
set_option maxHeartbeats 800000 in
theorem new_c (w : World) : Calls Tryd.prog 6 #[] w fun e w' => e = .returned (.pointer (some ⟨w.heap.size, 0, none⟩)) ∧ Im w' w.heap.size IS.zero ∧ Below w.heap.size w w' := by
  have hb := hid_as (build_none w)
  obtain ⟨C, hC⟩ : ∃ C, C = imc IS.zero := ⟨_, rfl⟩
  rw [← hC] at hb
  have T := hid_as (im_new w 55 hC)
  clear hC
  go_enter Tryd.func6, Tryd.ntmps6
  go_wp2_with (refine step_build rfl 55 _ (by with_reducible rfl) #[] (by simp) _ hb.out ?_)
  go_ret
  exact ⟨rfl, T.out⟩
set_option maxHeartbeats 800000 in
theorem rnew_c (w : World) : Calls Tryd.prog 7 #[] w fun e w' => e = .returned (.pointer (some ⟨w.heap.size, 0, none⟩)) ∧ Im w' w.heap.size IS.zero ∧ Below w.heap.size w w' := by
  have hb := hid_as (build_rnone w)
  obtain ⟨C, hC⟩ : ∃ C, C = imc IS.zero := ⟨_, rfl⟩
  rw [← hC] at hb
  have T := hid_as (im_new w 57 hC)
  clear hC
  go_enter Tryd.func7, Tryd.ntmps7
  go_wp2_with (refine step_build rfl 57 _ (by with_reducible rfl) #[] (by simp) _ hb.out ?_)
  go_ret
  exact ⟨rfl, T.out⟩
end Go.Proofs.YtlokdkpfeckdoaaDoor
