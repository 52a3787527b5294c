/- The walks of All, the project's and the reference's (stage 11). -/
import Derived.Test.YtlokdkpfeckdoaaDoorI2
import Derived.Laws.OwnMore
namespace Go.Proofs.YtlokdkpfeckdoaaDoor
open Go.RowKit
open Adr
theorem infoWord : (Tryd.prog.info? 28).map (fun i => (i.zero, i.size, i.bytes)) = some (some (.int .u16 0), 1, 2) := by kernel_rfl
/-- make of so many numbers. -/
theorem mk_run (W : World) (n : Nat) (hn : n ≤ 1000000) : ∃ W', (Instr.makeSlice 41 (.int .i64 (n : Int)) (.int .i64 (n : Int))).run Tryd.prog W = .ok (.slice (some ⟨W.heap.size, 0, none⟩) n n) W' ∧ W'.heap[W.heap.size]? = some (.cells (u16s (List.replicate n 0)).toArray 28 (0, 0)) ∧ Below W.heap.size W W' ∧ W'.heap.size = W.heap.size + 1 := by
  obtain ⟨i0, hi0, hz0, hz1, hz2⟩ := info_parts infoWord
  have h := run_make (P := Tryd.prog) W 41 28 i0 (.int .u16 0) Tryd.underlying41 hi0 hz0 .i64 .i64 n n (by omega) (by omega) (by rw [hz2]; omega) (by omega)
  rw [hz1] at h
  simp only [Int.toNat_natCast, Nat.mul_one] at h
  refine ⟨_, h, ?_, below_new (Below.refl _ W) _, World.size_alloc ..⟩
  rw [heap_alloc_new]
  have e : madeCells (Value.cells (.int .u16 0)) n = (u16s (List.replicate n 0)).toArray := by
    apply Array.ext'
    rw [show Value.cells (.int .u16 0) = #[.int .u16 0] from rfl, toList_madeCells_one]
    simp [u16s]
  rw [e]
namespace Adr
/-- So many values of a buffer, from a place on. -/
def vals (f : Nat → Nat) (b n : Nat) : List Nat := (List.range n).map fun i => f (b + i)
theorem vals_len (f : Nat → Nat) (b n : Nat) : (vals f b n).length = n := by simp [vals]
theorem vals_step (f : Nat → Nat) (b n : Nat) : vals f b (n + 1) = vals f b n ++ [f (b + n)] := by simp [vals, List.range_succ]
theorem vals_set (f : Nat → Nat) (b n k : Nat) (h : k < n) : (vals f b k ++ List.replicate (n - k) 0).set k (f (b + k)) = vals f b (k + 1) ++ List.replicate (n - (k + 1)) 0 := by
  rw [vals_step, List.set_append_right _ _ (by rw [vals_len]; exact Nat.le_refl _), vals_len, Nat.sub_self, show n - k = (n - (k + 1)) + 1 by omega, List.replicate_succ, List.set_cons_zero]
  simp
/-- The outer values of an area. -/
def alls (f : Nat → Nat) (a : Int) : List Nat := vals f (a.toNat * 128) (szI a).toNat
theorem alls_len (f : Nat → Nat) (a : Int) : (alls f a).length = (szI a).toNat := vals_len ..
end Adr
theorem row_at2 {w : World} {h n k : Nat} {l : List Nat} (hr : w.heap[h]? = some (.cells (u16s l).toArray 28 (0, 0))) (hl : l.length = n) (hk : k < n) : w.cell? ⟨h, k, none⟩ = some (.int .u16 (l.getD k 0 : Nat)) := cell_row hr (u16s_at l k (by omega))
/-- Where a slot has an area's number: it is one of the areas, where there are places. -/
theorem area_of {a : Int} {n : Nat} (hs : szI a = n) (h : 0 < n) : ∃ k : Nat, a = k ∧ k < 7 := by
  by_cases hc : 1 ≤ a ∧ a ≤ 6
  · exact ⟨a.toNat, by omega, by omega⟩
  · unfold szI at hs
    rw [if_neg hc] at hs
    omega
set_option maxHeartbeats 1600000 in
theorem all_f (a : Int) {w : World} {g : Nat} {s : IS} (hA : AreasAt w) (t : Im w g s) : Calls Tryd.prog 23 #[.pointer (some ⟨g, 0, none⟩), .int .i64 a] w fun e w' => ∃ v, e = .returned v ∧ Sl w' v (u16s (alls s.o a)) ∧ Below w.heap.size w w' ∧ ∀ b n c, v = .slice (some b) n c → w.heap.size ≤ b.block := by
  obtain ⟨n, hs⟩ : ∃ n : Nat, szI a = n := ⟨(szI a).toNat, by have := (szI_le a).1; omega⟩
  have hn : n ≤ 128 := by have := (szI_le a).2; omega
  have ea : alls s.o a = vals s.o (a.toNat * 128) n := by unfold alls; rw [hs]; rfl
  rw [ea]
  clear ea
  have X := hid_as (size_c a w hA)
  rw [hs] at X
  obtain ⟨w1, hm, hrow, k1, hz1⟩ := mk_run w n (by omega)
  have hlt := t.lt
  have T1 := hid_as (t.below k1)
  have K1 := hid_as k1
  have R1 := hid_as hrow
  have HS := hid_as hs
  have HZ := hid_as hz1
  have hne : g ≠ w.heap.size := by omega
  clear hA t k1 hrow hs hz1
  generalize w.heap.size = h at *
  go_enter Tryd.func23, Tryd.ntmps23
  go_wp2_with (go_at_call 35; refine X.out.mono ?_; rintro e w' ⟨rfl, hw⟩; subst w')
  clear X
  go_loopw [6, 12] (fun _ i wr => ∃ k : Nat, k ≤ n ∧ i = .int .i64 k ∧ Hid (wr.heap[h]? = some (.cells (u16s (vals s.o (a.toNat * 128) k ++ List.replicate (n - k) 0)).toArray 28 (0, 0))) ∧ Hid (Im wr g s) ∧ Hid (Turn h w1 wr)) (fun _ i _ => n - (intOf i).toNat)
  case atStart =>
    refine ⟨0, by omega, rfl, ?_, T1, Turn.refl _ _⟩
    exact R1.out
  case round =>
    obtain ⟨k, hk, rfl, R, T, K⟩ := hrel
    by_cases hkn : k < n
    · obtain ⟨b, rfl, hb⟩ := area_of HS.out (by omega)
      have hb' : (b : Int) < 7 := by omega
      have hk' : (k : Int) < (n : Int) := by omega
      have hk8 : (k : Int) < 128 := by omega
      have hc := T.out.out (b * 128 + k) (by omega)
      rw [Nat.zero_add] at hc
      have hd := row_at2 R.out (n := n) (by rw [List.length_append, vals_len, List.length_replicate]; omega) hkn
      have hz : wr.frozen? ⟨h, k, none⟩ = false := frozen_row R.out
      have R2 : Hid ((wr.setCell ⟨h, k, none⟩ (.int .u16 (s.o (b * 128 + k) : Int))).heap[h]? = some (.cells (u16s (vals s.o ((b : Int).toNat * 128) (k + 1) ++ List.replicate (n - (k + 1)) 0)).toArray 28 (0, 0))) := by
        show _ = _
        rw [set_row R.out, ← u16s_set, ← vals_set _ _ _ _ hkn]
        rfl
      have T2 : Hid (Im (wr.setCell ⟨h, k, none⟩ (.int .u16 (s.o (b * 128 + k) : Int))) g s) := T.out.turn ((Turn.refl h wr).set _ _) hne
      have K2 : Hid (Turn h w1 (wr.setCell ⟨h, k, none⟩ (.int .u16 (s.o (b * 128 + k) : Int)))) := K.out.set _ _
      generalize s.o (b * 128 + k) = x at *
      generalize ((vals s.o ((b : Int).toNat * 128) k ++ List.replicate (n - k) 0).getD k 0) = y at hd
      go_wp2
      go_roundw
      case rel => exact ⟨k + 1, by omega, by go_num, R2, T2, K2⟩
      case measure => simp [intOf]; omega
    · obtain rfl : k = n := by omega
      go_wp2
      go_ret
      refine ⟨_, rfl, ?_, ?_, fun b n c e => ?_⟩
      · have hr := R.out
        rw [Nat.sub_self, List.replicate_zero, List.append_nil] at hr
        exact Or.inr ⟨h, 0, k, by rw [u16s_len, vals_len]; rfl, by rw [u16s_len, vals_len]; exact Nat.le_refl _, fun j u hj => by rw [Nat.zero_add]; exact cell_row hr hj⟩
      · exact K1.out.trans (K.out.below (Nat.le_refl _) (by have := HZ.out; omega))
      · have e2 : Value.slice (some ⟨h, 0, none⟩) k k = .slice (some b) n c := e
        simp only [Value.slice.injEq, Option.some.injEq] at e2
        rw [← e2.1]
        exact Nat.le_refl _
theorem all_c (a : Int) {w : World} {g : Nat} {s : IS} (hA : AreasAt w) (t : Im w g s) : Calls Tryd.prog 23 #[.pointer (some ⟨g, 0, none⟩), .int .i64 a] w fun e w' => ∃ v, e = .returned v ∧ Sl w' v (u16s (alls s.o a)) ∧ Below w.heap.size w w' := by
  refine (all_f a hA t).mono ?_
  rintro e w' ⟨v, rfl, h, k, _⟩
  exact ⟨v, rfl, h, k⟩
set_option maxHeartbeats 1600000 in
theorem rall_c (a : Int) {w : World} {g : Nat} {s : IS} (t : Im w g s) : Calls Tryd.prog 24 #[.pointer (some ⟨g, 0, none⟩), .int .i64 a] w fun e w' => ∃ v, e = .returned v ∧ Sl w' v (u16s (alls s.o a)) ∧ Below w.heap.size w w' := by
  obtain ⟨n, hs⟩ : ∃ n : Nat, szI a = n := ⟨(szI a).toNat, by have := (szI_le a).1; omega⟩
  have hn : n ≤ 128 := by have := (szI_le a).2; omega
  have ea : alls s.o a = vals s.o (a.toNat * 128) n := by unfold alls; rw [hs]; rfl
  rw [ea]
  clear ea
  have X := hid_as (fun W => rsize_c a W)
  rw [hs] at X
  have T := hid_as t
  have HS := hid_as hs
  obtain ⟨i0, hi, hz0, hz1, hz2⟩ := info_parts infoWord
  clear t hs
  go_enter Tryd.func24, Tryd.ntmps24
  go_wp2
  go_loopw [5, 6] (fun v i wr => ∃ k : Nat, k ≤ n ∧ i = .int .i64 k ∧ wr.ownsRow w.heap.size 28 1 v k (u16s (vals s.o (a.toNat * 128) k)) ∧ Below w.heap.size w wr) (fun _ i _ => n - (intOf i).toNat)
  case atStart => exact ⟨0, by omega, rfl, World.ownsRow_nil .., Below.refl _ _⟩
  case round =>
    obtain ⟨k, hk, rfl, own, hB⟩ := hrel
    have OW := hid_as own
    have KB := hid_as hB
    have XX := hid_as (X.out wr)
    obtain ⟨ao, c, rfl⟩ := (own_sl own).shape
    rw [u16s_len, vals_len] at *
    clear own hB
    by_cases hkn : k < n
    · obtain ⟨b, rfl, hb⟩ := area_of HS.out (by omega)
      have hb' : (b : Int) < 7 := by omega
      have hk' : (k : Int) < (n : Int) := by omega
      have hk8 : (k : Int) < 128 := by omega
      have hc := (T.out.below KB.out).out (b * 128 + k) (by omega)
      rw [Nat.zero_add] at hc
      have E : Hid (u16s (vals s.o ((b : Int).toNat * 128) (k + 1)) = u16s (vals s.o ((b : Int).toNat * 128) k) ++ [.int .u16 (s.o (b * 128 + k) : Int)]) := by
        show _ = _
        rw [vals_step, u16s_app]
        rfl
      generalize s.o (b * 128 + k) = x at *
      go_wp2_with (first | (go_at_call 36; refine XX.out.mono ?_; rintro e w' ⟨rfl, hw⟩; subst w') | (at_builtin; refine wpList_append_own _ rfl _ _ 41 rfl w.heap.size 28 i0 (.int .u16 0) 1 2 Tryd.underlying41 hi hz0 hz1 hz2 rfl (by decide) _ k _ rfl (OW.out.alloc _) ⟨wr.heap.size, 0, none⟩ 1 1 [.int .u16 _] rfl rfl (one_cell _ _ _) (one_int _ _) (by unfold maxLen; omega) (by omega) (by have := KB.out.size; simp; omega) ?_; intro v' w1 hown hgrow _))
      have OW2 := hid_as hown
      have KB2 : Hid (Below w.heap.size w w1) := (KB.out.alloc KB.out.size _).grown hgrow (by have := KB.out.size; simp; omega) (fun g hg' => (OW.out.lt g hg').1)
      clear hown hgrow
      go_roundw
      case rel =>
        refine ⟨k + 1, by omega, by go_num, ?_, KB2.out⟩
        rw [E.out]
        exact OW2.out
      case measure => simp [intOf]; omega
    · obtain rfl : k = n := by omega
      go_wp2_with (go_at_call 36; refine XX.out.mono ?_; rintro e w' ⟨rfl, hw⟩; subst w')
      go_ret
      exact ⟨_, rfl, own_sl OW.out, KB.out⟩
end Go.Proofs.YtlokdkpfeckdoaaDoor
