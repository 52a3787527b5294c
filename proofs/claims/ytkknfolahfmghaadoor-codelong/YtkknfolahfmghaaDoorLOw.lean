/- The walk of CodeLong (stage 20). -/
import Derived.Test.YtkknfolahfmghaaDoorLOi
import Derived.Test.YtkknfolahfmghaaDoorLPw
import Derived.Deep.RegionHeld3
import Derived.Laws.OwnMore
namespace Go.Proofs.YtkknfolahfmghaaDoor
open Go.RowKit
open Fb Cod
theorem made_ins (N : Nat) : (madeCells (Value.cells (.agg #[.int .i64 0, .int .i64 0, .int .i64 0, .int .i64 0, .string ⟨#[]⟩])) (N * 5)).toList = insv (List.replicate N nul) := by
  refine List.ext_getElem? (fun i => ?_)
  by_cases hi : i < N * 5
  · have h5 : i % 5 < 5 := Nat.mod_lt _ (by decide)
    have hN : i / 5 < N := by omega
    have hx : (List.replicate N nul)[i / 5]? = some nul := by rw [List.getElem?_replicate, if_pos hN]
    have key : ∀ k, k < 5 → nul.cs[k]? = some ((Value.cells (.agg #[.int .i64 0, .int .i64 0, .int .i64 0, .int .i64 0, .string ⟨#[]⟩]))[k]!) := by
      intro k hk
      match k, hk with
      | 0, _ => rfl
      | 1, _ => rfl
      | 2, _ => rfl
      | 3, _ => rfl
      | 4, _ => rfl
    have q := insv_at (List.replicate N nul) (i / 5) nul hx (i % 5) _ (key _ h5)
    rw [show i / 5 * 5 + i % 5 = i by omega] at q
    rw [q, madeCells]
    simp only [Array.toList_map, List.getElem?_map, Array.toList_range, List.getElem?_range hi, Option.map_some]
    rfl
  · rw [List.getElem?_eq_none (by rw [Array.length_toList, size_madeCells]; omega), List.getElem?_eq_none (by rw [insv_len, List.length_replicate]; omega)]
theorem mk_ins (N : Nat) (hN : N ≤ 1000000) : ∃ zs : Array Value, zs.toList = insv (List.replicate N nul) ∧ ∀ W : World, (Instr.makeSlice 23 (.int .i64 (N : Int)) (.int .i64 (N : Int))).run Tryd.prog W = .ok (.slice (some ⟨W.heap.size, 0, none⟩) N N) (W.alloc (.cells zs 41)) := by
  obtain ⟨i0, hi0, hz0, hz1, hz2⟩ := info_parts Tryd.infoIns
  refine ⟨madeCells (Value.cells (.agg #[.int .i64 0, .int .i64 0, .int .i64 0, .int .i64 0, .string ⟨#[]⟩])) (N * 5), made_ins N, fun W => ?_⟩
  have h := run_make (P := Tryd.prog) W 23 41 i0 (.agg #[.int .i64 0, .int .i64 0, .int .i64 0, .int .i64 0, .string ⟨#[]⟩]) Tryd.underlying23 hi0 hz0 .i64 .i64 N N (by omega) (by omega) (by rw [hz2]; omega) (by omega)
  rw [hz1] at h
  exact h
theorem mk_ints (N : Nat) (hN : N ≤ 1000000) : ∃ zs : Array Value, zs.toList = i64s (List.replicate N 0) ∧ ∀ W : World, (Instr.makeSlice 22 (.int .i64 (N : Int)) (.int .i64 (N : Int))).run Tryd.prog W = .ok (.slice (some ⟨W.heap.size, 0, none⟩) N N) (W.alloc (.cells zs 3)) := by
  obtain ⟨i0, hi0, hz0, hz1, hz2⟩ := info_parts Tryd.infoInt
  refine ⟨madeCells #[.int .i64 0] N, by rw [toList_madeCells_one]; simp [i64s], fun W => ?_⟩
  have h := run_make (P := Tryd.prog) W 22 3 i0 (.int .i64 0) Tryd.underlying22 hi0 hz0 .i64 .i64 N N (by omega) (by omega) (by rw [hz2]; omega) (by omega)
  rw [hz1, Nat.mul_one] at h
  exact h
/-- The law's code in memory. -/
structure Lo (w1 W : World) (cb lb kb N M : Nat) (L : List Ins) (K : List Int) : Prop where
  rc : W.heap[cb]? = some (.cells [Value.slice (some ⟨kb, 0, none⟩) M M, .slice (some ⟨lb, 0, none⟩) N N].toArray 25 (0, 0))
  rl : W.heap[lb]? = some (.cells (insv L).toArray 41 (0, 0))
  rk : W.heap[kb]? = some (.cells (i64s K).toArray 3 (0, 0))
  d1 : cb ≠ lb
  d2 : cb ≠ kb
  d3 : lb ≠ kb
  gl : w1.heap.size ≤ lb
  gk : w1.heap.size ≤ kb
  bl : Below w1.heap.size w1 W
  ll : L.length = N
  kl : K.length = M
theorem three (w : World) (a b c : Array Value) (t u v : TypeId) : ((((w.alloc (.cells a t)).alloc (.cells b u)).alloc (.cells c v)).drew.heap[w.heap.size]? = some (.cells a t (0, 0))) ∧ ((((w.alloc (.cells a t)).alloc (.cells b u)).alloc (.cells c v)).drew.heap[w.heap.size + 1]? = some (.cells b u (0, 0))) ∧ ((((w.alloc (.cells a t)).alloc (.cells b u)).alloc (.cells c v)).drew.heap[w.heap.size + 1 + 1]? = some (.cells c v (0, 0))) ∧ Below w.heap.size w (((w.alloc (.cells a t)).alloc (.cells b u)).alloc (.cells c v)).drew := by
  have k2 := below_new1 (w.alloc (.cells a t)) (.cells b u)
  have k3 := below_new1 ((w.alloc (.cells a t)).alloc (.cells b u)) (.cells c v)
  have r2 := heap_alloc_new (w.alloc (.cells a t)) (.cells b u)
  have r3 := heap_alloc_new ((w.alloc (.cells a t)).alloc (.cells b u)) (.cells c v)
  rw [World.size_alloc] at r2
  rw [World.size_alloc, World.size_alloc] at r3
  refine ⟨?_, ?_, r3, (below_and (below_and (below_new1 w _) k2) k3).drew⟩
  · exact (k3.block w.heap.size (by simp; omega)).trans ((k2.block w.heap.size (by simp)).trans (heap_alloc_new w _))
  · exact (k3.block (w.heap.size + 1) (by simp)).trans r2
/-- An operator is stored. -/
theorem Lo.op {w1 W : World} {cb lb kb N M : Nat} {L : List Ins} {K : List Int} (h : Lo w1 W cb lb kb N M L K) {i : Nat} {x : Ins} (hx : L[i]? = some x) (o : Int) : W.frozen? ⟨lb, i * 5, none⟩ = false ∧ (∃ v, W.cell? ⟨lb, i * 5, none⟩ = some v) ∧ Lo w1 (W.setCell ⟨lb, i * 5, none⟩ (.int .i64 o)) cb lb kb N M (L.set i { x with op := o }) K := by
  have t : Turn lb W (W.setCell ⟨lb, i * 5, none⟩ (.int .i64 o)) := (Turn.refl _ W).set _ _
  have c := insv_at L i x hx 0 (.int .i64 x.op) rfl
  rw [Nat.add_zero] at c
  refine ⟨frozen_row h.rl, ⟨_, cell_row h.rl c⟩, ⟨(t.block cb (row_lt h.rc) (fun e => h.d1 (by simpa using e))).trans h.rc, ?_, (t.block kb (row_lt h.rk) (fun e => h.d3 (by simpa using e.symm))).trans h.rk, h.d1, h.d2, h.d3, h.gl, h.gk, h.bl.trans (t.below h.gl h.bl.size), by rw [List.length_set]; exact h.ll, h.kl⟩⟩
  rw [set_row h.rl, insv_set L i x o hx]
theorem Lo.kind {w1 W : World} {cb lb kb N M : Nat} {L : List Ins} {K : List Int} (h : Lo w1 W cb lb kb N M L K) {i : Nat} (hi : i < M) (x : Int) : W.frozen? ⟨kb, i, none⟩ = false ∧ (∃ v, W.cell? ⟨kb, i, none⟩ = some v) ∧ Lo w1 (W.setCell ⟨kb, i, none⟩ (.int .i64 x)) cb lb kb N M L (K.set i x) := by
  have t : Turn kb W (W.setCell ⟨kb, i, none⟩ (.int .i64 x)) := (Turn.refl _ W).set _ _
  have hk := h.kl
  refine ⟨frozen_row h.rk, ⟨_, cell_row h.rk (i64s_at K i (by omega))⟩, ⟨(t.block cb (row_lt h.rc) (fun e => h.d2 (by simpa using e))).trans h.rc, (t.block lb (row_lt h.rl) (fun e => h.d3 (by simpa using e))).trans h.rl, ?_, h.d1, h.d2, h.d3, h.gl, h.gk, h.bl.trans (t.below h.gk h.bl.size), h.ll, by rw [List.length_set]; exact h.kl⟩⟩
  rw [set_row h.rk]
  congr 3
  simp [i64s, List.map_set]
theorem Lo.cd {w1 W : World} {cb lb kb N M : Nat} {L : List Ins} {K : List Int} (h : Lo w1 W cb lb kb N M L K) (hN : N ≤ 1000000) (hM : M ≤ 1000000) : Cd W (some ⟨kb, 0, none⟩) M M (some ⟨lb, 0, none⟩) N N K L := by
  refine ⟨Or.inr ⟨kb, 0, M, by rw [i64s_len, h.kl], by rw [i64s_len, h.kl]; exact Nat.le_refl _, fun j u hj => by rw [Nat.zero_add]; exact cell_row h.rk hj⟩, h.kl.symm, hM, Or.inr ⟨lb, 0, rfl, fun i x hx k u hk => ?_⟩, h.ll.symm, hN⟩
  rw [Nat.zero_add]
  exact cell_row h.rl (insv_at L i x hx k u hk)
set_option maxHeartbeats 1600000 in
set_option maxRecDepth 100000 in
theorem long_w {w : World} (n0 k0 : Int) (hT : Tabs w) : Calls Tryd.prog 5 #[.int .i64 n0, .int .i64 k0] w fun e w' => e = .returned (.bool true) ∧ Below w.heap.size w w' := by
  have KN := hid_as (known_c w hT)
  have P1 := hid_as (fun W : World => place_3 n0 W)
  have P2 := hid_as (fun W : World => place_3 k0 W)
  have HT := hid_as hT
  clear hT
  go_enter Tryd.func5, Tryd.ntmps5
  go_upto_region 4 with (first | (go_at_call 9; refine KN.out.mono ?_; rintro e w1 ⟨rfl, b1⟩) | (go_at_call 18; (with_reducible refine (P1.out _).mono ?_); rintro e w' ⟨n, hn, rfl, hw⟩; subst w') | (go_at_call 18; (with_reducible refine (P2.out _).mono ?_); rintro e w' ⟨m, hm, rfl, hw⟩; subst w'))
  have T1 := hid_as (HT.out.below b1)
  have KB := hid_as b1
  clear b1 KN P1 P2 HT
  obtain ⟨N, hN⟩ : ∃ N, N = 32767 + n := ⟨_, rfl⟩
  obtain ⟨M, hM⟩ : ∃ M, M = 4095 + m := ⟨_, rfl⟩
  obtain ⟨zs, hz, h1⟩ := mk_ins N (by omega)
  obtain ⟨ks, hk, h2⟩ := mk_ints M (by omega)
  have e1 : (N : Int) = IntKind.i64.wrap (32767 + (n : Int)) := by rw [IntKind.wrap_i64]; omega
  have e2 : (M : Int) = IntKind.i64.wrap (4095 + (m : Int)) := by rw [IntKind.wrap_i64]; omega
  rw [e1] at h1
  rw [e2] at h2
  clear e1 e2
  have HN := hid_as hN
  have HM := hid_as hM
  have nb : N ≤ 40000 := by omega
  have mb : M ≤ 5000 := by omega
  have n0' : 0 < N := by omega
  clear hN hM
  have HZ := hid_as hz
  have HK := hid_as hk
  clear hz hk
  go_region_held3 (fun _ => True) (trivial) (fail)
  have TH := three w1 (zs) (ks) (#[.slice (some ⟨w1.heap.size + 1, 0, none⟩) M M, .slice (some ⟨w1.heap.size, 0, none⟩) N N]) 41 3 25
  have LO : Hid (Lo w1 ((((w1.alloc (.cells zs 41)).alloc (.cells ks 3)).alloc (.cells #[.slice (some ⟨w1.heap.size + 1, 0, none⟩) M M, .slice (some ⟨w1.heap.size, 0, none⟩) N N] 25)).drew) (w1.heap.size + 1 + 1) (w1.heap.size) (w1.heap.size + 1) N M (fil N 0) (lon M 0)) := ⟨TH.2.2.1, by rw [fil_0, ← HZ.out, Array.toArray_toList]; exact TH.1, by rw [lon_0, ← HK.out, Array.toArray_toList]; exact TH.2.1, by omega, by omega, by omega, by omega, by omega, TH.2.2.2, fil_len (Nat.zero_le _), lon_len (Nat.zero_le _)⟩
  clear TH
  generalize ((((w1.alloc (.cells zs 41)).alloc (.cells ks 3)).alloc (.cells #[.slice (some ⟨w1.heap.size + 1, 0, none⟩) M M, .slice (some ⟨w1.heap.size, 0, none⟩) N N] 25)).drew) = W0 at LO ⊢
  generalize w1.heap.size + 1 + 1 = cb at LO ⊢
  generalize w1.heap.size + 1 = kb at LO ⊢
  generalize w1.heap.size = lb at LO ⊢
  rotate_left
  have TH := three w1 (zs) (#[.slice (some ⟨w1.heap.size + 1 + 1, 0, none⟩) M M, .slice (some ⟨w1.heap.size, 0, none⟩) N N]) (ks) 41 25 3
  have LO : Hid (Lo w1 ((((w1.alloc (.cells zs 41)).alloc (.cells #[.slice (some ⟨w1.heap.size + 1 + 1, 0, none⟩) M M, .slice (some ⟨w1.heap.size, 0, none⟩) N N] 25)).alloc (.cells ks 3)).drew) (w1.heap.size + 1) (w1.heap.size) (w1.heap.size + 1 + 1) N M (fil N 0) (lon M 0)) := ⟨TH.2.1, by rw [fil_0, ← HZ.out, Array.toArray_toList]; exact TH.1, by rw [lon_0, ← HK.out, Array.toArray_toList]; exact TH.2.2.1, by omega, by omega, by omega, by omega, by omega, TH.2.2.2, fil_len (Nat.zero_le _), lon_len (Nat.zero_le _)⟩
  clear TH
  generalize ((((w1.alloc (.cells zs 41)).alloc (.cells #[.slice (some ⟨w1.heap.size + 1 + 1, 0, none⟩) M M, .slice (some ⟨w1.heap.size, 0, none⟩) N N] 25)).alloc (.cells ks 3)).drew) = W0 at LO ⊢
  generalize w1.heap.size + 1 + 1 = kb at LO ⊢
  generalize w1.heap.size + 1 = cb at LO ⊢
  generalize w1.heap.size = lb at LO ⊢
  rotate_left
  have TH := three w1 (ks) (zs) (#[.slice (some ⟨w1.heap.size, 0, none⟩) M M, .slice (some ⟨w1.heap.size + 1, 0, none⟩) N N]) 3 41 25
  have LO : Hid (Lo w1 ((((w1.alloc (.cells ks 3)).alloc (.cells zs 41)).alloc (.cells #[.slice (some ⟨w1.heap.size, 0, none⟩) M M, .slice (some ⟨w1.heap.size + 1, 0, none⟩) N N] 25)).drew) (w1.heap.size + 1 + 1) (w1.heap.size + 1) (w1.heap.size) N M (fil N 0) (lon M 0)) := ⟨TH.2.2.1, by rw [fil_0, ← HZ.out, Array.toArray_toList]; exact TH.2.1, by rw [lon_0, ← HK.out, Array.toArray_toList]; exact TH.1, by omega, by omega, by omega, by omega, by omega, TH.2.2.2, fil_len (Nat.zero_le _), lon_len (Nat.zero_le _)⟩
  clear TH
  generalize ((((w1.alloc (.cells ks 3)).alloc (.cells zs 41)).alloc (.cells #[.slice (some ⟨w1.heap.size, 0, none⟩) M M, .slice (some ⟨w1.heap.size + 1, 0, none⟩) N N] 25)).drew) = W0 at LO ⊢
  generalize w1.heap.size + 1 + 1 = cb at LO ⊢
  generalize w1.heap.size + 1 = lb at LO ⊢
  generalize w1.heap.size = kb at LO ⊢
  rotate_left
  have TH := three w1 (ks) (#[.slice (some ⟨w1.heap.size, 0, none⟩) M M, .slice (some ⟨w1.heap.size + 1 + 1, 0, none⟩) N N]) (zs) 3 25 41
  have LO : Hid (Lo w1 ((((w1.alloc (.cells ks 3)).alloc (.cells #[.slice (some ⟨w1.heap.size, 0, none⟩) M M, .slice (some ⟨w1.heap.size + 1 + 1, 0, none⟩) N N] 25)).alloc (.cells zs 41)).drew) (w1.heap.size + 1) (w1.heap.size + 1 + 1) (w1.heap.size) N M (fil N 0) (lon M 0)) := ⟨TH.2.1, by rw [fil_0, ← HZ.out, Array.toArray_toList]; exact TH.2.2.1, by rw [lon_0, ← HK.out, Array.toArray_toList]; exact TH.1, by omega, by omega, by omega, by omega, by omega, TH.2.2.2, fil_len (Nat.zero_le _), lon_len (Nat.zero_le _)⟩
  clear TH
  generalize ((((w1.alloc (.cells ks 3)).alloc (.cells #[.slice (some ⟨w1.heap.size, 0, none⟩) M M, .slice (some ⟨w1.heap.size + 1 + 1, 0, none⟩) N N] 25)).alloc (.cells zs 41)).drew) = W0 at LO ⊢
  generalize w1.heap.size + 1 + 1 = lb at LO ⊢
  generalize w1.heap.size + 1 = cb at LO ⊢
  generalize w1.heap.size = kb at LO ⊢
  rotate_left
  have TH := three w1 (#[.slice (some ⟨w1.heap.size + 1 + 1, 0, none⟩) M M, .slice (some ⟨w1.heap.size + 1, 0, none⟩) N N]) (zs) (ks) 25 41 3
  have LO : Hid (Lo w1 ((((w1.alloc (.cells #[.slice (some ⟨w1.heap.size + 1 + 1, 0, none⟩) M M, .slice (some ⟨w1.heap.size + 1, 0, none⟩) N N] 25)).alloc (.cells zs 41)).alloc (.cells ks 3)).drew) (w1.heap.size) (w1.heap.size + 1) (w1.heap.size + 1 + 1) N M (fil N 0) (lon M 0)) := ⟨TH.1, by rw [fil_0, ← HZ.out, Array.toArray_toList]; exact TH.2.1, by rw [lon_0, ← HK.out, Array.toArray_toList]; exact TH.2.2.1, by omega, by omega, by omega, by omega, by omega, TH.2.2.2, fil_len (Nat.zero_le _), lon_len (Nat.zero_le _)⟩
  clear TH
  generalize ((((w1.alloc (.cells #[.slice (some ⟨w1.heap.size + 1 + 1, 0, none⟩) M M, .slice (some ⟨w1.heap.size + 1, 0, none⟩) N N] 25)).alloc (.cells zs 41)).alloc (.cells ks 3)).drew) = W0 at LO ⊢
  generalize w1.heap.size + 1 + 1 = kb at LO ⊢
  generalize w1.heap.size + 1 = lb at LO ⊢
  generalize w1.heap.size = cb at LO ⊢
  rotate_left
  have TH := three w1 (#[.slice (some ⟨w1.heap.size + 1, 0, none⟩) M M, .slice (some ⟨w1.heap.size + 1 + 1, 0, none⟩) N N]) (ks) (zs) 25 3 41
  have LO : Hid (Lo w1 ((((w1.alloc (.cells #[.slice (some ⟨w1.heap.size + 1, 0, none⟩) M M, .slice (some ⟨w1.heap.size + 1 + 1, 0, none⟩) N N] 25)).alloc (.cells ks 3)).alloc (.cells zs 41)).drew) (w1.heap.size) (w1.heap.size + 1 + 1) (w1.heap.size + 1) N M (fil N 0) (lon M 0)) := ⟨TH.1, by rw [fil_0, ← HZ.out, Array.toArray_toList]; exact TH.2.2.1, by rw [lon_0, ← HK.out, Array.toArray_toList]; exact TH.2.1, by omega, by omega, by omega, by omega, by omega, TH.2.2.2, fil_len (Nat.zero_le _), lon_len (Nat.zero_le _)⟩
  clear TH
  generalize ((((w1.alloc (.cells #[.slice (some ⟨w1.heap.size + 1, 0, none⟩) M M, .slice (some ⟨w1.heap.size + 1 + 1, 0, none⟩) N N] 25)).alloc (.cells ks 3)).alloc (.cells zs 41)).drew) = W0 at LO ⊢
  generalize w1.heap.size + 1 + 1 = lb at LO ⊢
  generalize w1.heap.size + 1 = kb at LO ⊢
  generalize w1.heap.size = cb at LO ⊢
  rotate_left
  all_goals (
    clear h1 h2 HZ HK
    go_upto_region 6 with fail
    go_loopw [6] (fun i wr => ∃ j : Nat, j ≤ N ∧ i = .int .i64 j ∧ Lo w1 wr cb lb kb N M (fil N j) (lon M 0)) (fun i _ => N - (intOf i).toNat)
    case atStart => exact ⟨0, by omega, rfl, LO.out⟩
    case round =>
      obtain ⟨j, hj, rfl, hl⟩ := hrel
      have LB := hid_as hl
      clear hl LO
      have c1 := cell_row (k := 1) LB.out.rc rfl
      by_cases hjN : j < N
      · have hj2 : (j : Int) < (N : Int) := by omega
        have hx : (fil N j)[j]? = some nul := by
          unfold fil
          rw [List.getElem?_append_right (by simp), List.length_replicate, Nat.sub_self, List.getElem?_replicate, if_pos (by omega)]
        obtain ⟨g1, ⟨v, c2⟩, hl⟩ := LB.out.op hx 21
        have FN := hid_as (fil_next hjN)
        have E := hid_as hl
        clear hl hx
        go_wp2
        go_roundw
        case rel => exact ⟨j + 1, by omega, by go_num, by rw [← FN.out]; exact E.out⟩
        case measure => simp [intOf]; omega
      · obtain rfl : j = N := by omega
        have hx : (List.replicate j stp0)[j - 1]? = some stp0 := by rw [List.getElem?_replicate, if_pos (by omega)]
        have LF := LB.out
        rw [fil_full] at LF
        obtain ⟨g1, ⟨v, c2⟩, hl⟩ := LF.op hx 23
        have q1 : IntKind.i64.wrap ((j : Int) - 1) = ((j - 1 : Nat) : Int) := by rw [IntKind.wrap_i64]; omega
        have q2 : ((j - 1 : Nat) : Int) < (j : Int) := by omega
        have E : Hid (Lo w1 (wr.setCell ⟨lb, (j - 1) * 5, none⟩ (.int .i64 23)) cb lb kb j M (loc j) (lon M 0)) := hl
        clear hl hx LF LB
        go_upto_region 11 with fail
        generalize wr.setCell ⟨lb, (j - 1) * 5, none⟩ (.int .i64 23) = W2 at *
        clear c1 c2 g1 q1 q2
        go_loopw [7] (fun i wr => ∃ h : Nat, h ≤ M ∧ i = .int .i64 h ∧ Lo w1 wr cb lb kb j M (loc j) (lon M h)) (fun i _ => M - (intOf i).toNat)
        case atStart => exact ⟨0, by omega, rfl, E.out⟩
        case round =>
          obtain ⟨h, hh, rfl, hl⟩ := hrel
          have LB := hid_as hl
          clear hl E
          have c0 := cell_row (k := 0) LB.out.rc rfl
          by_cases hhM : h < M
          · have hh2 : (h : Int) < (M : Int) := by omega
            obtain ⟨g1, ⟨v, c2⟩, hl⟩ := LB.out.kind hhM 1
            have FN := hid_as (lon_next hhM)
            have E := hid_as hl
            clear hl
            go_wp2
            go_roundw
            case rel => exact ⟨h + 1, by omega, by go_num, by rw [← FN.out]; exact E.out⟩
            case measure => simp [intOf]; omega
          · obtain rfl : h = M := by omega
            have c1 := cell_row (k := 1) LB.out.rc rfl
            have T4 := hid_as (T1.out.below LB.out.bl)
            obtain ⟨r, hr⟩ : ∃ r, r = loa j h := ⟨_, rfl⟩
            have VT : Hid (Calls Tryd.prog 13 #[.agg #[.slice (some ⟨kb, 0, none⟩) h h, .slice (some ⟨lb, 0, none⟩) j j]] wr fun e w' => ∃ v, e = .returned v ∧ Err wr r v w' ∧ Below wr.heap.size wr w') := by
              have CD := LB.out.cd (by omega) (by omega)
              rw [lon_full] at CD
              refine (verify_c CD T4.out).mono ?_
              rintro e w' ⟨⟨q, v, hv, rfl, he⟩, hb⟩
              rw [hv.unique (loc_ver j h n0'), ← hr] at he
              exact ⟨v, rfl, he, hb⟩
            have K4 := hid_as (below_and KB.out LB.out.bl)
            have PC := loa_cases n m hn hm
            rw [← HN.out, ← HM.out, ← hr] at PC
            have PC := hid_as PC
            clear hr LB
            go_upto_region 15 with (first | (go_at_call 13; refine VT.out.mono ?_; rintro e w5 ⟨v, rfl, he, b5⟩; have HE := hid_as he; have B5 := hid_as b5; clear he b5) | (go_at_call 12; refine (told_c HE.out (T4.out.below B5.out)).mono ?_; rintro e w6 ⟨rfl, b6⟩; have K6 := hid_as (below_and K4.out (below_and B5.out b6)); clear b6))
            obtain ⟨a, ha⟩ : ∃ a, a = tAt r := ⟨_, rfl⟩
            obtain ⟨er, he⟩ : ∃ er, er = tEr r := ⟨_, rfl⟩
            rw [← ha, ← he]
            rcases PC.out with ⟨p1, p2, p3⟩ | ⟨p1, p2, p3⟩ | ⟨p1, p3⟩
            · rw [p3] at ha he
              have hE : ((er : Int) == 0) = true := by rw [he]; rfl
              have hA : ((a : Int) == 0) = true := by rw [ha]; rfl
              have p1' : (n : Int) < 2 := by omega
              have p2' : (m : Int) < 2 := by omega
              clear ha he VT HE PC
              go_wp2
              go_ret
              exact ⟨ret_bool rfl, K6.out⟩
            · rw [p3] at ha he
              have hE : ((er : Int) == 200) = true := by rw [he]; rfl
              have hE0 : ((er : Int) == 0) = false := by rw [he]; rfl
              have hA : ((a : Int) == 0) = true := by rw [ha]; rfl
              have p1' : (n : Int) < 2 := by omega
              have p2' : ¬ (m : Int) < 2 := by omega
              clear ha he VT HE PC
              go_wp2
              go_ret
              exact ⟨ret_bool rfl, K6.out⟩
            · rw [p3] at ha he
              have hE : ((er : Int) == 200) = true := by rw [he]; rfl
              have hE0 : ((er : Int) == 0) = false := by rw [he]; rfl
              have hA : ((a : Int) == 0) = true := by rw [ha]; rfl
              have p1' : ¬ (n : Int) < 2 := by omega
              clear ha he VT HE PC
              go_wp2
              go_ret
              exact ⟨ret_bool rfl, K6.out⟩)
end Go.Proofs.YtkknfolahfmghaaDoor
