/- The walk of CodeTexts (stage 20). -/
import Derived.Test.YtkknfolahfmghaaDoorTE
import Derived.Test.YtkknfolahfmghaaDoorK2
namespace Go.Proofs.YtkknfolahfmghaaDoor
open Go.RowKit
open Fb Cod
theorem dd_len : ∀ (k u : Nat), u < 10 ^ (k + 1) → (Lib.decDigits u).length ≤ k + 1
  | 0, u, h => by rw [dd_lo (by simpa using h)]; simp
  | k + 1, u, h => by
    by_cases hl : u < 10
    · rw [dd_lo hl]; simp
    · rw [dd_hi hl, List.length_append]
      have := dd_len k (u / 10) (Nat.div_lt_of_lt_mul (by rw [← Nat.pow_succ']; exact h))
      simp only [List.length_singleton]
      omega
theorem itoa_len {n : Int} (h : -9223372036854775808 ≤ n ∧ n ≤ 9223372036854775807) : (Lib.itoa n).length ≤ 20 := by
  unfold Lib.itoa
  split
  · have := dd_len 18 n.natAbs (by show n.natAbs < 10 ^ 19; omega)
    simp only [List.length_cons]
    omega
  · have := dd_len 18 n.toNat (by show n.toNat < 10 ^ 19; omega)
    omega
theorem opw_len : ∀ k, k < 25 → (opw k).length ≤ 10 := by decide
theorem wrd_len (op : Int) : (wrd op).length ≤ 10 := by
  unfold wrd
  split
  · exact opw_len _ (by omega)
  · decide
theorem txt_size : ∀ (L : List Ins) (i : Nat), (∀ x ∈ L, Wf x) → i + L.length ≤ 1000000 → (txt i L).length ≤ 110 * L.length + cnt L
  | [], _, _, _ => by simp [txt, cnt]
  | x :: L, i, hW, hl => by
    have hx := hW x (List.mem_cons_self ..)
    have ih := txt_size L (i + 1) (fun y hy => hW y (List.mem_cons_of_mem _ hy)) (by simp at hl; omega)
    have a0 := itoa_len (n := (i : Int)) (by omega)
    have a1 := itoa_len hx.a
    have a2 := itoa_len hx.b
    have a3 := itoa_len hx.c
    have a4 := wrd_len x.op
    have e9 : x.name.data.toList.length = x.name.size := Array.length_toList
    simp only [txt, cnt, lin, List.length_append, List.length_cons, List.length_nil]
    split
    · simp only [List.length_nil]; omega
    · simp only [List.length_append, List.length_cons, List.length_nil]; omega
set_option maxRecDepth 100000 in
set_option maxHeartbeats 3200000 in
theorem texts_w {w : World} {va : Option Addr} {kn kc : Nat} {la : Option Addr} {n lc : Nat} {K : List Int} {L : List Ins} (hk : kn = K.length) (k9 : kn ≤ 140737488355328) (hs : Sl w (.slice va kn kc) (i64s K)) (hn : n = L.length) (n9 : n ≤ 140737488355328) (hi : Il w la L) (hF : ∀ x ∈ L, Fit x) (hT : Tabs w) :
    Calls Tryd.prog 4 #[.agg #[.slice va kn kc, .slice la n lc]] w fun e w' => e = .returned (.bool true) ∧ Below w.heap.size w w' := by
  have k1 := below_new1 w (.cells #[.slice va kn kc, .slice la n lc] 25)
  have c0 : (w.alloc (.cells #[.slice va kn kc, .slice la n lc] 25)).cell? ⟨w.heap.size, 0, none⟩ = some (.slice va kn kc) := cell_row (k := 0) (l := [.slice va kn kc, .slice la n lc]) (heap_alloc_new w _) rfl
  have c1 : (w.alloc (.cells #[.slice va kn kc, .slice la n lc] 25)).cell? ⟨w.heap.size, 1, none⟩ = some (.slice la n lc) := cell_row (k := 1) (l := [.slice va kn kc, .slice la n lc]) (heap_alloc_new w _) rfl
  obtain ⟨bx, hbx⟩ : ∃ bx, bx = w.heap.size := ⟨_, rfl⟩
  rw [← hbx] at c0 c1
  have HI := hid_as (hi.below k1)
  have HS := hid_as (hs.below k1)
  have HN := hid_as hn
  have HK := hid_as hk
  have H9 : Hid (n ≤ 140737488355328 ∧ kn ≤ 140737488355328) := ⟨n9, k9⟩
  have HF := hid_as hF
  have KB := hid_as k1
  have KN := hid_as (known_c _ (hT.below k1))
  have T1 := hid_as (hT.below k1)
  clear hi hs hn hk n9 k9 hF k1 hT
  go_enter Tryd.func4, Tryd.ntmps4
  go_upto_region 1 with fail
  rw [← hbx]
  have BX := hid_as hbx
  clear hbx
  generalize w.alloc (.cells #[.slice va kn kc, .slice la n lc] 25) = w1 at *
  go_wp2_with fail
  refine KN.out.mono ?_
  rintro e w2 ⟨rfl, b2⟩
  have B2 := hid_as b2
  have C0 := hid_as (keep_cell b2 c0)
  have C1 := hid_as (keep_cell b2 c1)
  clear b2 c0 c1 KN
  have d0 := C0.out
  have d1 := C1.out
  have LC := hid_as (light_c (HI.out.below B2.out) HN.out H9.out.1 H9.out.2 HF.out (w := w2) (va := va) (kc := kc) (lc := lc))
  go_wp2_with fail
  refine LC.out.mono ?_
  rintro e w3 ⟨b, rfl, hb, b3⟩
  have B3 := hid_as b3
  have HB := hid_as hb
  have e0 := keep_cell b3 d0
  have e1 := keep_cell b3 d1
  clear hb b3 d0 d1 LC
  cases b
  · go_wp2
    go_ret
    exact ⟨rfl, KB.out.trans ((below_and B2.out B3.out).mono KB.out.size)⟩
  · obtain ⟨n2, k4, cn⟩ := HB.out rfl
    have WF : Hid (∀ x, x ∈ L → Wf x) := fun x hx => ⟨(HF.out x hx).a, (HF.out x hx).b, (HF.out x hx).c⟩
    have ZT : Hid ((txt 0 L).length ≤ 1000000000) := by
      have := txt_size L 0 WF.out (by rw [← HN.out]; omega)
      have e := HN.out
      show _ ≤ _
      omega
    have CD : Hid (Cd w3 va kn kc la n lc K L) := ⟨HS.out.below (below_and B2.out B3.out), HK.out, by omega, HI.out.below (below_and B2.out B3.out), HN.out, by omega⟩
    have T3 := hid_as ((T1.out.below B2.out).below B3.out)
    obtain ⟨S, hS⟩ : ∃ S, S = tx (txt 0 L) := ⟨_, rfl⟩
    have TC : Hid (∀ W : World, Below w3.heap.size w3 W → Calls Tryd.prog 16 #[.agg #[.slice va kn kc, .slice la n lc]] W fun e w' => e = .returned (.string S) ∧ Below w3.heap.size w3 w' ∧ (w'.cell? ⟨bx, 0, none⟩ = some (.slice va kn kc) ∧ w'.cell? ⟨bx, 1, none⟩ = some (.slice la n lc))) := fun W hW => by
      rw [hS]
      exact (text_c (CD.out.below hW) (T3.out.below hW) WF.out ZT.out).mono (fun e w' q => ⟨q.1, below_and hW q.2, keep_cell (below_and hW q.2) e0, keep_cell (below_and hW q.2) e1⟩)
    have RC : Hid (∀ W : World, Below w3.heap.size w3 W → Calls Tryd.prog 17 #[.agg #[.slice va kn kc, .slice la n lc]] W fun e w' => e = .returned (.string S) ∧ Below w3.heap.size w3 w' ∧ (w'.cell? ⟨bx, 0, none⟩ = some (.slice va kn kc) ∧ w'.cell? ⟨bx, 1, none⟩ = some (.slice la n lc))) := fun W hW => by
      rw [hS]
      exact (rtext_c (CD.out.below hW) WF.out ZT.out).mono (fun e w' q => ⟨q.1, below_and hW q.2, keep_cell (below_and hW q.2) e0, keep_cell (below_and hW q.2) e1⟩)
    have BD : Hid (Below w3.heap.size w3 w3.drew) := (Same.drewN w3 1).below
    clear hS n2 k4 cn CD T3 WF ZT HB
    go_upto_region 5 with fail
    go_region_held3 (fun W => W.cell? ⟨bx, 0, none⟩ = some (.slice va kn kc) ∧ W.cell? ⟨bx, 1, none⟩ = some (.slice la n lc)) (first | exact ⟨e0, e1⟩ | assumption | go_keep) (first | ((go_at_call 16; (first | (with_reducible refine (TC.out _ BD.out).mono ?_) | (with_reducible refine (TC.out _ b5).mono ?_)); rintro e w4 ⟨rfl, b4, z4⟩)) | ((go_at_call 17; (first | (with_reducible refine (RC.out _ BD.out).mono ?_) | (with_reducible refine (RC.out _ b4).mono ?_)); rintro e w5 ⟨rfl, b5, z5⟩)))
    go_wp2
    go_ret
    exact ⟨ret_bool (by simp), KB.out.trans ((below_and (below_and B2.out B3.out) b5).mono KB.out.size)⟩
end Go.Proofs.YtkknfolahfmghaaDoor
