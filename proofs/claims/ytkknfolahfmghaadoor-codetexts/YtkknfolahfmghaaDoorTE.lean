/- The reference's Text (stage 20). -/
import Derived.Test.YtkknfolahfmghaaDoorTD
import Derived.Test.YtkknfolahfmghaaDoorLG
import Derived.Deep.RegionHeld3
namespace Go.Proofs.YtkknfolahfmghaaDoor
open Go.RowKit
open Fb Cod
theorem dec_c (n : Int) (h : -9223372036854775808 ≤ n ∧ n ≤ 9223372036854775807) (w : World) : Calls Tryd.prog 33 #[.int .i64 n] w fun e w' => e = .returned (.string (tx (Lib.itoa n))) ∧ w' = w := by
  by_cases hn : n < 0
  · have q := dec_n n n.natAbs hn (by omega) (by omega) w
    have e : Lib.itoa n = [45] ++ Lib.decDigits n.natAbs := by rw [Lib.itoa, if_pos hn]; rfl
    rw [e]; exact q
  · have q := dec_p n n.toNat hn (by omega) (by omega) w
    have e : Lib.itoa n = [] ++ Lib.decDigits n.toNat := by rw [Lib.itoa, if_neg hn]; rfl
    rw [e]; exact q
theorem ba_ext {a b : ByteArray} (h : a.data.toList = b.data.toList) : a = b := by
  cases a with
  | mk x => cases b with
    | mk y =>
      have : x = y := Array.ext' h
      rw [this]
/-- The reference's words. -/
def rws : List Value := (List.range 24).map fun k => Value.string (tx (opw (k + 1)))
theorem rws_at {k : Nat} (h : k < 24) : rws[k]? = some (.string (tx (opw (k + 1)))) := by
  unfold rws
  rw [List.getElem?_map, List.getElem?_range h]; rfl
theorem rws_len : rws.length = 24 := by simp [rws]
set_option maxRecDepth 100000 in
theorem words_c (w : World) : Calls Tryd.prog 32 #[] w fun e w' => e = .returned (.slice (some ⟨w.heap.size, 0, none⟩) 24 24) ∧ w'.heap[w.heap.size]? = some (.cells rws.toArray 9 (0, 0)) ∧ Below w.heap.size w w' := by
  have HW := hid_as (show (w.alloc (.cells rws.toArray 9)).heap[w.heap.size]? = some (.cells rws.toArray 9 (0, 0)) ∧ Below w.heap.size w (w.alloc (.cells rws.toArray 9)) from ⟨heap_alloc_new w _, below_new1 w _⟩)
  go_enter Tryd.func32, Tryd.ntmps32
  go_wp2
  go_ret
  exact ⟨rfl, HW.out.1, HW.out.2⟩
set_option maxRecDepth 100000 in
set_option maxHeartbeats 3200000 in
theorem rtext_c {w : World} {va : Option Addr} {kn kc : Nat} {la : Option Addr} {n lc : Nat} {K : List Int} {L : List Ins} (h : Cd w va kn kc la n lc K L) (hW : ∀ x, x ∈ L → Wf x) (hZ : (txt 0 L).length ≤ 1000000000) :
    Calls Tryd.prog 17 #[.agg #[.slice va kn kc, .slice la n lc]] w fun e w' => e = .returned (.string (tx (txt 0 L))) ∧ Below w.heap.size w w' := by
  have k1 := below_new1 w (.cells #[.slice va kn kc, .slice la n lc] 25)
  have c1 : (w.alloc (.cells #[.slice va kn kc, .slice la n lc] 25)).cell? ⟨w.heap.size, 1, none⟩ = some (.slice la n lc) := cell_row (k := 1) (l := [.slice va kn kc, .slice la n lc]) (heap_alloc_new w _) rfl
  obtain ⟨bx, hbx⟩ : ∃ bx, bx = w.heap.size := ⟨_, rfl⟩
  rw [← hbx] at c1
  have C1 := hid_as (h.below k1)
  have NL := hid_as h.nl
  have n9 := h.n9
  have WF := hid_as hW
  have LE := hid_as hZ
  have KB := hid_as k1
  clear h hW hZ k1
  go_enter Tryd.func17, Tryd.ntmps17
  go_upto_region 3 with fail
  rw [← hbx]
  have BX := hid_as hbx
  clear hbx
  generalize w.alloc (.cells #[.slice va kn kc, .slice la n lc] 25) = w1 at *
  have C1' := hid_as c1
  clear c1
  go_loopw [3, 4] (fun s i wr => ∃ j : Nat, j ≤ n ∧ i = .int .i64 j ∧ s = .string (tx (txt 0 (L.take j))) ∧ Below w1.heap.size w1 wr) (fun _ i _ => n - (intOf i).toNat)
  case atStart => exact ⟨0, by omega, rfl, rfl, Below.refl _ _⟩
  case round =>
    obtain ⟨j, hj, rfl, rfl, hB⟩ := hrel
    have BW := hid_as hB
    have c1 := keep_cell hB C1'.out
    clear hB
    by_cases hjn : j < n
    · have hj2 : (j : Int) < (n : Int) := by omega
      obtain ⟨⟨xo, xa, xi, xc, xn⟩, hx⟩ : ∃ x, L[j]? = some x := ⟨_, List.getElem?_eq_getElem (by rw [← NL.out]; exact hjn)⟩
      obtain ⟨b, f, rfl, d0, d1, d2, d3, d4⟩ := (C1.out.below BW.out).il.at_ hx
      dsimp only at d0 d1 d2 d3 d4
      have HX := hid_as hx
      clear hx
      go_upto_region 6 with fail
      have r2 := heap_alloc_new wr (.cells [Value.int .i64 xo, .int .i64 xa, .int .i64 xi, .int .i64 xc, .string xn].toArray 41)
      have B2 := hid_as (below_new1 wr (.cells [Value.int .i64 xo, .int .i64 xa, .int .i64 xi, .int .i64 xc, .string xn].toArray 41))
      obtain ⟨W2, hW2⟩ : ∃ W2, wr.alloc (.cells [Value.int .i64 xo, .int .i64 xa, .int .i64 xi, .int .i64 xc, .string xn].toArray 41) = W2 := ⟨_, rfl⟩
      rw [hW2] at r2 B2
      have HW2 : Hid (wr.alloc (.cells #[.int .i64 xo, .int .i64 xa, .int .i64 xi, .int .i64 xc, .string xn] 41) = W2) := hW2
      rw [HW2.out]
      obtain ⟨xb, hxb⟩ : ∃ xb, xb = wr.heap.size := ⟨_, rfl⟩
      rw [← hxb] at r2 ⊢
      have R2 := hid_as r2
      clear hW2 HW2 hxb r2 d0 d1 d2 d3 d4
      have e0 := cell_row (k := 0) R2.out rfl
      by_cases hop : 1 ≤ xo ∧ xo ≤ 24
      · obtain ⟨k, rfl⟩ : ∃ k : Nat, xo = (k : Int) + 1 := ⟨(xo - 1).toNat, by omega⟩
        have hk24 : k < 24 := by omega
        have o1 : (1 : Int) ≤ (k : Int) + 1 := hop.1
        have o2 : (k : Int) + 1 ≤ 24 := hop.2
        have q1 : IntKind.i64.wrap (k : Int) = (k : Int) := by rw [IntKind.wrap_i64]; omega
        have q2 : (k : Int) < 24 := by omega
        have WC := hid_as (fun W : World => words_c W)
        have WK := hid_as (show wrd ((k : Int) + 1) = opw (k + 1) by unfold wrd; rw [if_pos hop]; rfl)
        clear hop
        go_upto_region 8 with fail
        go_region_with (go_at_call 32; (with_reducible refine (WC.out _).mono ?_); rintro e W3 ⟨rfl, rw3, b3⟩; have e1 : W3.cell? ⟨W2.heap.size, k, none⟩ = some (.string (tx (opw (k + 1)))) := cell_row rw3 (rws_at hk24); have e2 : W3.cell? ⟨xb, 0, none⟩ = some (.int .i64 ((k : Int) + 1)) := keep_cell b3 e0)
        all_goals (
          have R3 := hid_as ((b3.block xb (row_lt R2.out)).trans R2.out)
          have B3 := hid_as (below_and (below_and BW.out B2.out) (show Below W2.heap.size W2 W3 from below_and (show Below W2.heap.size W2 W2.drew from (Same.drewN W2 1).below) b3))
          clear b3 rw3 e0 e1 e2
          have g1 : W3.cell? ⟨xb, 1, none⟩ = some (.int .i64 xa) := cell_row (k := 1) R3.out rfl
          have g2 : W3.cell? ⟨xb, 2, none⟩ = some (.int .i64 xi) := cell_row (k := 2) R3.out rfl
          have g3 : W3.cell? ⟨xb, 3, none⟩ = some (.int .i64 xc) := cell_row (k := 3) R3.out rfl
          have g4 : W3.cell? ⟨xb, 4, none⟩ = some (.string xn) := cell_row (k := 4) R3.out rfl
          have HT : Hid ((txt 0 (L.take j)).length + (Lib.itoa (j : Int)).length + 1 + (opw (k + 1)).length + 1 + (Lib.itoa xa).length + 1 + (Lib.itoa xi).length + 1 + (Lib.itoa xc).length + (if xn.data.toList = [] then 0 else 1 + xn.size) + 1 ≤ 1000000000 ∧ txt 0 (L.take (j + 1)) = (txt 0 (L.take j) ++ Lib.itoa (j : Int) ++ [32] ++ opw (k + 1) ++ [32] ++ Lib.itoa xa ++ [32] ++ Lib.itoa xi ++ [32] ++ Lib.itoa xc) ++ (if xn.data.toList = [] then [] else [32] ++ xn.data.toList) ++ [10]) := by
            have t1 := txt_next HX.out
            have t2 := txt_le L (j + 1)
            have t3 := LE.out
            have t4 : txt 0 (L.take (j + 1)) = (txt 0 (L.take j) ++ Lib.itoa (j : Int) ++ [32] ++ opw (k + 1) ++ [32] ++ Lib.itoa xa ++ [32] ++ Lib.itoa xi ++ [32] ++ Lib.itoa xc) ++ (if xn.data.toList = [] then [] else [32] ++ xn.data.toList) ++ [10] := by
              rw [t1, lin, WK.out]
              simp only [List.append_assoc]
            refine ⟨?_, t4⟩
            rw [t4] at t2
            have e9 : xn.data.toList.length = xn.size := Array.length_toList
            by_cases hnm : xn.data.toList = []
            · rw [if_pos hnm] at t2 ⊢
              simp only [List.length_append, List.length_cons, List.length_nil] at t2
              try simp only [List.length_cons, List.length_nil]
              omega
            · rw [if_neg hnm] at t2 ⊢
              simp only [List.length_append, List.length_cons, List.length_nil] at t2
              try simp only [List.length_cons, List.length_nil]
              omega
          have wf := WF.out _ (List.mem_of_getElem? HX.out)
          have DC0 := hid_as (fun W : World => dec_c (j : Int) (by omega) W)
          have DC1 := hid_as (fun W : World => dec_c xa wf.a W)
          have DC2 := hid_as (fun W : World => dec_c xi wf.b W)
          have DC3 := hid_as (fun W : World => dec_c xc wf.c W)
          clear wf
          obtain ⟨S0, hS0⟩ : ∃ S0, S0 = tx (txt 0 (L.take j)) := ⟨_, rfl⟩
          obtain ⟨A0, hA0⟩ : ∃ A0, A0 = tx (Lib.itoa (j : Int)) := ⟨_, rfl⟩
          obtain ⟨A1, hA1⟩ : ∃ A1, A1 = tx (Lib.itoa xa) := ⟨_, rfl⟩
          obtain ⟨A2, hA2⟩ : ∃ A2, A2 = tx (Lib.itoa xi) := ⟨_, rfl⟩
          obtain ⟨A3, hA3⟩ : ∃ A3, A3 = tx (Lib.itoa xc) := ⟨_, rfl⟩
          obtain ⟨Wd, hWd⟩ : ∃ Wd, Wd = tx (opw (k + 1)) := ⟨_, rfl⟩
          have HE : Hid (S0 ++ A0 ++ ⟨#[32]⟩ ++ Wd ++ ⟨#[32]⟩ ++ A1 ++ ⟨#[32]⟩ ++ A2 ++ ⟨#[32]⟩ ++ A3 = tx (txt 0 (L.take j) ++ Lib.itoa (j : Int) ++ [32] ++ opw (k + 1) ++ [32] ++ Lib.itoa xa ++ [32] ++ Lib.itoa xi ++ [32] ++ Lib.itoa xc)) := by
            show S0 ++ A0 ++ tx [32] ++ Wd ++ tx [32] ++ A1 ++ tx [32] ++ A2 ++ tx [32] ++ A3 = _
            rw [hS0, hA0, hA1, hA2, hA3, hWd]
            simp only [txapp]
          have hsz : S0.size + A0.size + 1 + Wd.size + 1 + A1.size + 1 + A2.size + 1 + A3.size ≤ 1000000000 := by
            rw [hS0, hA0, hA1, hA2, hA3, hWd]
            simp only [txsize]
            have := HT.out.1
            omega
          rw [← hA0] at DC0
          rw [← hA1] at DC1
          rw [← hA2] at DC2
          rw [← hA3] at DC3
          go_upto_region 9 with fail
          rw [← hS0, ← hWd]
          clear hS0 hA0 hA1 hA2 hA3 hWd
          have gg0 : ¬ 9223372036854775807 < S0.size + A0.size := by omega
          have gg1 : ¬ 9223372036854775807 < S0.size + A0.size + 1 := by omega
          have gg2 : ¬ 9223372036854775807 < S0.size + A0.size + 1 + Wd.size := by omega
          have gg3 : ¬ 9223372036854775807 < S0.size + A0.size + 1 + Wd.size + 1 := by omega
          have gg4 : ¬ 9223372036854775807 < S0.size + A0.size + 1 + Wd.size + 1 + A1.size := by omega
          have gg5 : ¬ 9223372036854775807 < S0.size + A0.size + 1 + Wd.size + 1 + A1.size + 1 := by omega
          have gg6 : ¬ 9223372036854775807 < S0.size + A0.size + 1 + Wd.size + 1 + A1.size + 1 + A2.size := by omega
          have gg7 : ¬ 9223372036854775807 < S0.size + A0.size + 1 + Wd.size + 1 + A1.size + 1 + A2.size + 1 := by omega
          have gg8 : ¬ 9223372036854775807 < S0.size + A0.size + 1 + Wd.size + 1 + A1.size + 1 + A2.size + 1 + A3.size := by omega
          go_region_held3 (fun W => W.cell? ⟨xb, 1, none⟩ = some (.int .i64 xa) ∧ W.cell? ⟨xb, 2, none⟩ = some (.int .i64 xi) ∧ W.cell? ⟨xb, 3, none⟩ = some (.int .i64 xc)) (first | exact ⟨g1, g2, g3⟩ | assumption | go_keep) ((go_at_call 33; (first | (with_reducible refine (DC0.out _).mono ?_) | (with_reducible refine (DC1.out _).mono ?_) | (with_reducible refine (DC2.out _).mono ?_) | (with_reducible refine (DC3.out _).mono ?_)); rintro e w' ⟨rfl, hw⟩; subst w'))
          go_upto_region 10 with fail
          rw [HE.out]
          obtain ⟨l9, hl9⟩ : ∃ l9, l9 = txt 0 (L.take j) ++ Lib.itoa (j : Int) ++ [32] ++ opw (k + 1) ++ [32] ++ Lib.itoa xa ++ [32] ++ Lib.itoa xi ++ [32] ++ Lib.itoa xc := ⟨_, rfl⟩
          rw [← hl9]
          rw [← hl9] at HT
          have hs9 : (tx l9).size + (if xn.data.toList = [] then 0 else 1 + xn.size) ≤ 999999999 := by
            rw [txsize, hl9]
            have := HT.out.1
            simp only [List.length_append, List.length_cons, List.length_nil] at this ⊢
            omega
          clear hl9 hsz HE DC0 DC1 DC2 DC3 g1 g2 g3 gg0 gg1 gg2 gg3 gg4 gg5 gg6 gg7 gg8
          have EB := hid_as (below_and B3.out (show Below W3.heap.size W3 W3.drew from (Same.drewN W3 1).below))
          by_cases hnm : xn.data.toList = []
          · have n1 : (xn.toList == []) = true := by rw [ByteArray.toList_eq, hnm]; rfl
            have n2 : (xn.toList != []) = false := by rw [ByteArray.toList_eq, hnm]; rfl
            rw [if_pos hnm] at hs9
            have HF2 : Hid (tx (txt 0 (L.take (j + 1))) = tx l9 ++ ⟨#[10]⟩) := by
              show _ = tx l9 ++ tx [10]
              rw [HT.out.2, if_pos hnm, txapp, List.append_nil]
            clear hnm
            have k1 : ¬ 9223372036854775807 < (tx l9).size + 1 := by omega
            clear hs9
            go_wp2
            go_roundw
            case rel => exact ⟨j + 1, by omega, by go_num, by rw [HF2.out], EB.out⟩
            case measure => simp [intOf]; omega
          · have n1 : (xn.toList == []) = false := by rw [ByteArray.toList_eq, beq_eq_false_iff_ne]; exact hnm
            have n2 : (xn.toList != []) = true := by rw [ByteArray.toList_eq, bne_iff_ne]; exact hnm
            rw [if_neg hnm] at hs9
            have HF2 : Hid (tx (txt 0 (L.take (j + 1))) = tx l9 ++ ⟨#[32]⟩ ++ xn ++ ⟨#[10]⟩) := by
              refine ba_ext ?_
              rw [HT.out.2, if_neg hnm, app_list, app_list, app_list, tx_data, tx_data]
              show _ = l9 ++ [32] ++ xn.data.toList ++ [10]
              simp only [List.append_assoc]
            clear hnm
            have k0 : ¬ 9223372036854775807 < (tx l9).size + 1 := by omega
            have k1 : ¬ 9223372036854775807 < (tx l9).size + 1 + xn.size := by omega
            have k2 : ¬ 9223372036854775807 < (tx l9).size + 1 + xn.size + 1 := by omega
            clear hs9
            go_wp2
            go_roundw
            case rel => exact ⟨j + 1, by omega, by go_num, by rw [HF2.out], EB.out⟩
            case measure => simp [intOf]; omega
          )
      · have WK := hid_as (show wrd xo = [63] by unfold wrd; rw [if_neg hop])
        have R3 := hid_as R2.out
        have B3 := hid_as (below_and BW.out B2.out)
        generalize W2 = W3 at *
        by_cases h1 : 1 ≤ xo
        · have h2 : ¬ xo ≤ 24 := fun q => hop ⟨h1, q⟩
          clear hop
          have g1 : W3.cell? ⟨xb, 1, none⟩ = some (.int .i64 xa) := cell_row (k := 1) R3.out rfl
          have g2 : W3.cell? ⟨xb, 2, none⟩ = some (.int .i64 xi) := cell_row (k := 2) R3.out rfl
          have g3 : W3.cell? ⟨xb, 3, none⟩ = some (.int .i64 xc) := cell_row (k := 3) R3.out rfl
          have g4 : W3.cell? ⟨xb, 4, none⟩ = some (.string xn) := cell_row (k := 4) R3.out rfl
          have HT : Hid ((txt 0 (L.take j)).length + (Lib.itoa (j : Int)).length + 1 + ([63]).length + 1 + (Lib.itoa xa).length + 1 + (Lib.itoa xi).length + 1 + (Lib.itoa xc).length + (if xn.data.toList = [] then 0 else 1 + xn.size) + 1 ≤ 1000000000 ∧ txt 0 (L.take (j + 1)) = (txt 0 (L.take j) ++ Lib.itoa (j : Int) ++ [32] ++ [63] ++ [32] ++ Lib.itoa xa ++ [32] ++ Lib.itoa xi ++ [32] ++ Lib.itoa xc) ++ (if xn.data.toList = [] then [] else [32] ++ xn.data.toList) ++ [10]) := by
            have t1 := txt_next HX.out
            have t2 := txt_le L (j + 1)
            have t3 := LE.out
            have t4 : txt 0 (L.take (j + 1)) = (txt 0 (L.take j) ++ Lib.itoa (j : Int) ++ [32] ++ [63] ++ [32] ++ Lib.itoa xa ++ [32] ++ Lib.itoa xi ++ [32] ++ Lib.itoa xc) ++ (if xn.data.toList = [] then [] else [32] ++ xn.data.toList) ++ [10] := by
              rw [t1, lin, WK.out]
              simp only [List.append_assoc]
            refine ⟨?_, t4⟩
            rw [t4] at t2
            have e9 : xn.data.toList.length = xn.size := Array.length_toList
            by_cases hnm : xn.data.toList = []
            · rw [if_pos hnm] at t2 ⊢
              simp only [List.length_append, List.length_cons, List.length_nil] at t2
              try simp only [List.length_cons, List.length_nil]
              omega
            · rw [if_neg hnm] at t2 ⊢
              simp only [List.length_append, List.length_cons, List.length_nil] at t2
              try simp only [List.length_cons, List.length_nil]
              omega
          have wf := WF.out _ (List.mem_of_getElem? HX.out)
          have DC0 := hid_as (fun W : World => dec_c (j : Int) (by omega) W)
          have DC1 := hid_as (fun W : World => dec_c xa wf.a W)
          have DC2 := hid_as (fun W : World => dec_c xi wf.b W)
          have DC3 := hid_as (fun W : World => dec_c xc wf.c W)
          clear wf
          obtain ⟨S0, hS0⟩ : ∃ S0, S0 = tx (txt 0 (L.take j)) := ⟨_, rfl⟩
          obtain ⟨A0, hA0⟩ : ∃ A0, A0 = tx (Lib.itoa (j : Int)) := ⟨_, rfl⟩
          obtain ⟨A1, hA1⟩ : ∃ A1, A1 = tx (Lib.itoa xa) := ⟨_, rfl⟩
          obtain ⟨A2, hA2⟩ : ∃ A2, A2 = tx (Lib.itoa xi) := ⟨_, rfl⟩
          obtain ⟨A3, hA3⟩ : ∃ A3, A3 = tx (Lib.itoa xc) := ⟨_, rfl⟩
          obtain ⟨Wd, hWd⟩ : ∃ Wd, Wd = tx ([63]) := ⟨_, rfl⟩
          have HE : Hid (S0 ++ A0 ++ ⟨#[32]⟩ ++ Wd ++ ⟨#[32]⟩ ++ A1 ++ ⟨#[32]⟩ ++ A2 ++ ⟨#[32]⟩ ++ A3 = tx (txt 0 (L.take j) ++ Lib.itoa (j : Int) ++ [32] ++ [63] ++ [32] ++ Lib.itoa xa ++ [32] ++ Lib.itoa xi ++ [32] ++ Lib.itoa xc)) := by
            show S0 ++ A0 ++ tx [32] ++ Wd ++ tx [32] ++ A1 ++ tx [32] ++ A2 ++ tx [32] ++ A3 = _
            rw [hS0, hA0, hA1, hA2, hA3, hWd]
            simp only [txapp]
          have hsz : S0.size + A0.size + 1 + Wd.size + 1 + A1.size + 1 + A2.size + 1 + A3.size ≤ 1000000000 := by
            rw [hS0, hA0, hA1, hA2, hA3, hWd]
            simp only [txsize]
            have := HT.out.1
            omega
          rw [← hA0] at DC0
          rw [← hA1] at DC1
          rw [← hA2] at DC2
          rw [← hA3] at DC3
          go_upto_region 9 with fail
          rw [← hS0, show (⟨#[63]⟩ : ByteArray) = Wd from hWd.symm]
          clear hS0 hA0 hA1 hA2 hA3 hWd
          have gg0 : ¬ 9223372036854775807 < S0.size + A0.size := by omega
          have gg1 : ¬ 9223372036854775807 < S0.size + A0.size + 1 := by omega
          have gg2 : ¬ 9223372036854775807 < S0.size + A0.size + 1 + Wd.size := by omega
          have gg3 : ¬ 9223372036854775807 < S0.size + A0.size + 1 + Wd.size + 1 := by omega
          have gg4 : ¬ 9223372036854775807 < S0.size + A0.size + 1 + Wd.size + 1 + A1.size := by omega
          have gg5 : ¬ 9223372036854775807 < S0.size + A0.size + 1 + Wd.size + 1 + A1.size + 1 := by omega
          have gg6 : ¬ 9223372036854775807 < S0.size + A0.size + 1 + Wd.size + 1 + A1.size + 1 + A2.size := by omega
          have gg7 : ¬ 9223372036854775807 < S0.size + A0.size + 1 + Wd.size + 1 + A1.size + 1 + A2.size + 1 := by omega
          have gg8 : ¬ 9223372036854775807 < S0.size + A0.size + 1 + Wd.size + 1 + A1.size + 1 + A2.size + 1 + A3.size := by omega
          go_region_held3 (fun W => W.cell? ⟨xb, 1, none⟩ = some (.int .i64 xa) ∧ W.cell? ⟨xb, 2, none⟩ = some (.int .i64 xi) ∧ W.cell? ⟨xb, 3, none⟩ = some (.int .i64 xc)) (first | exact ⟨g1, g2, g3⟩ | assumption | go_keep) ((go_at_call 33; (first | (with_reducible refine (DC0.out _).mono ?_) | (with_reducible refine (DC1.out _).mono ?_) | (with_reducible refine (DC2.out _).mono ?_) | (with_reducible refine (DC3.out _).mono ?_)); rintro e w' ⟨rfl, hw⟩; subst w'))
          go_upto_region 10 with fail
          rw [HE.out]
          obtain ⟨l9, hl9⟩ : ∃ l9, l9 = txt 0 (L.take j) ++ Lib.itoa (j : Int) ++ [32] ++ [63] ++ [32] ++ Lib.itoa xa ++ [32] ++ Lib.itoa xi ++ [32] ++ Lib.itoa xc := ⟨_, rfl⟩
          rw [← hl9]
          rw [← hl9] at HT
          have hs9 : (tx l9).size + (if xn.data.toList = [] then 0 else 1 + xn.size) ≤ 999999999 := by
            rw [txsize, hl9]
            have := HT.out.1
            simp only [List.length_append, List.length_cons, List.length_nil] at this ⊢
            omega
          clear hl9 hsz HE DC0 DC1 DC2 DC3 g1 g2 g3 gg0 gg1 gg2 gg3 gg4 gg5 gg6 gg7 gg8
          have EB := hid_as (below_and B3.out (show Below W3.heap.size W3 W3.drew from (Same.drewN W3 1).below))
          by_cases hnm : xn.data.toList = []
          · have n1 : (xn.toList == []) = true := by rw [ByteArray.toList_eq, hnm]; rfl
            have n2 : (xn.toList != []) = false := by rw [ByteArray.toList_eq, hnm]; rfl
            rw [if_pos hnm] at hs9
            have HF2 : Hid (tx (txt 0 (L.take (j + 1))) = tx l9 ++ ⟨#[10]⟩) := by
              show _ = tx l9 ++ tx [10]
              rw [HT.out.2, if_pos hnm, txapp, List.append_nil]
            clear hnm
            have k1 : ¬ 9223372036854775807 < (tx l9).size + 1 := by omega
            clear hs9
            go_wp2
            go_roundw
            case rel => exact ⟨j + 1, by omega, by go_num, by rw [HF2.out], EB.out⟩
            case measure => simp [intOf]; omega
          · have n1 : (xn.toList == []) = false := by rw [ByteArray.toList_eq, beq_eq_false_iff_ne]; exact hnm
            have n2 : (xn.toList != []) = true := by rw [ByteArray.toList_eq, bne_iff_ne]; exact hnm
            rw [if_neg hnm] at hs9
            have HF2 : Hid (tx (txt 0 (L.take (j + 1))) = tx l9 ++ ⟨#[32]⟩ ++ xn ++ ⟨#[10]⟩) := by
              refine ba_ext ?_
              rw [HT.out.2, if_neg hnm, app_list, app_list, app_list, tx_data, tx_data]
              show _ = l9 ++ [32] ++ xn.data.toList ++ [10]
              simp only [List.append_assoc]
            clear hnm
            have k0 : ¬ 9223372036854775807 < (tx l9).size + 1 := by omega
            have k1 : ¬ 9223372036854775807 < (tx l9).size + 1 + xn.size := by omega
            have k2 : ¬ 9223372036854775807 < (tx l9).size + 1 + xn.size + 1 := by omega
            clear hs9
            go_wp2
            go_roundw
            case rel => exact ⟨j + 1, by omega, by go_num, by rw [HF2.out], EB.out⟩
            case measure => simp [intOf]; omega
        · clear hop
          have g1 : W3.cell? ⟨xb, 1, none⟩ = some (.int .i64 xa) := cell_row (k := 1) R3.out rfl
          have g2 : W3.cell? ⟨xb, 2, none⟩ = some (.int .i64 xi) := cell_row (k := 2) R3.out rfl
          have g3 : W3.cell? ⟨xb, 3, none⟩ = some (.int .i64 xc) := cell_row (k := 3) R3.out rfl
          have g4 : W3.cell? ⟨xb, 4, none⟩ = some (.string xn) := cell_row (k := 4) R3.out rfl
          have HT : Hid ((txt 0 (L.take j)).length + (Lib.itoa (j : Int)).length + 1 + ([63]).length + 1 + (Lib.itoa xa).length + 1 + (Lib.itoa xi).length + 1 + (Lib.itoa xc).length + (if xn.data.toList = [] then 0 else 1 + xn.size) + 1 ≤ 1000000000 ∧ txt 0 (L.take (j + 1)) = (txt 0 (L.take j) ++ Lib.itoa (j : Int) ++ [32] ++ [63] ++ [32] ++ Lib.itoa xa ++ [32] ++ Lib.itoa xi ++ [32] ++ Lib.itoa xc) ++ (if xn.data.toList = [] then [] else [32] ++ xn.data.toList) ++ [10]) := by
            have t1 := txt_next HX.out
            have t2 := txt_le L (j + 1)
            have t3 := LE.out
            have t4 : txt 0 (L.take (j + 1)) = (txt 0 (L.take j) ++ Lib.itoa (j : Int) ++ [32] ++ [63] ++ [32] ++ Lib.itoa xa ++ [32] ++ Lib.itoa xi ++ [32] ++ Lib.itoa xc) ++ (if xn.data.toList = [] then [] else [32] ++ xn.data.toList) ++ [10] := by
              rw [t1, lin, WK.out]
              simp only [List.append_assoc]
            refine ⟨?_, t4⟩
            rw [t4] at t2
            have e9 : xn.data.toList.length = xn.size := Array.length_toList
            by_cases hnm : xn.data.toList = []
            · rw [if_pos hnm] at t2 ⊢
              simp only [List.length_append, List.length_cons, List.length_nil] at t2
              try simp only [List.length_cons, List.length_nil]
              omega
            · rw [if_neg hnm] at t2 ⊢
              simp only [List.length_append, List.length_cons, List.length_nil] at t2
              try simp only [List.length_cons, List.length_nil]
              omega
          have wf := WF.out _ (List.mem_of_getElem? HX.out)
          have DC0 := hid_as (fun W : World => dec_c (j : Int) (by omega) W)
          have DC1 := hid_as (fun W : World => dec_c xa wf.a W)
          have DC2 := hid_as (fun W : World => dec_c xi wf.b W)
          have DC3 := hid_as (fun W : World => dec_c xc wf.c W)
          clear wf
          obtain ⟨S0, hS0⟩ : ∃ S0, S0 = tx (txt 0 (L.take j)) := ⟨_, rfl⟩
          obtain ⟨A0, hA0⟩ : ∃ A0, A0 = tx (Lib.itoa (j : Int)) := ⟨_, rfl⟩
          obtain ⟨A1, hA1⟩ : ∃ A1, A1 = tx (Lib.itoa xa) := ⟨_, rfl⟩
          obtain ⟨A2, hA2⟩ : ∃ A2, A2 = tx (Lib.itoa xi) := ⟨_, rfl⟩
          obtain ⟨A3, hA3⟩ : ∃ A3, A3 = tx (Lib.itoa xc) := ⟨_, rfl⟩
          obtain ⟨Wd, hWd⟩ : ∃ Wd, Wd = tx ([63]) := ⟨_, rfl⟩
          have HE : Hid (S0 ++ A0 ++ ⟨#[32]⟩ ++ Wd ++ ⟨#[32]⟩ ++ A1 ++ ⟨#[32]⟩ ++ A2 ++ ⟨#[32]⟩ ++ A3 = tx (txt 0 (L.take j) ++ Lib.itoa (j : Int) ++ [32] ++ [63] ++ [32] ++ Lib.itoa xa ++ [32] ++ Lib.itoa xi ++ [32] ++ Lib.itoa xc)) := by
            show S0 ++ A0 ++ tx [32] ++ Wd ++ tx [32] ++ A1 ++ tx [32] ++ A2 ++ tx [32] ++ A3 = _
            rw [hS0, hA0, hA1, hA2, hA3, hWd]
            simp only [txapp]
          have hsz : S0.size + A0.size + 1 + Wd.size + 1 + A1.size + 1 + A2.size + 1 + A3.size ≤ 1000000000 := by
            rw [hS0, hA0, hA1, hA2, hA3, hWd]
            simp only [txsize]
            have := HT.out.1
            omega
          rw [← hA0] at DC0
          rw [← hA1] at DC1
          rw [← hA2] at DC2
          rw [← hA3] at DC3
          go_upto_region 9 with fail
          rw [← hS0, show (⟨#[63]⟩ : ByteArray) = Wd from hWd.symm]
          clear hS0 hA0 hA1 hA2 hA3 hWd
          have gg0 : ¬ 9223372036854775807 < S0.size + A0.size := by omega
          have gg1 : ¬ 9223372036854775807 < S0.size + A0.size + 1 := by omega
          have gg2 : ¬ 9223372036854775807 < S0.size + A0.size + 1 + Wd.size := by omega
          have gg3 : ¬ 9223372036854775807 < S0.size + A0.size + 1 + Wd.size + 1 := by omega
          have gg4 : ¬ 9223372036854775807 < S0.size + A0.size + 1 + Wd.size + 1 + A1.size := by omega
          have gg5 : ¬ 9223372036854775807 < S0.size + A0.size + 1 + Wd.size + 1 + A1.size + 1 := by omega
          have gg6 : ¬ 9223372036854775807 < S0.size + A0.size + 1 + Wd.size + 1 + A1.size + 1 + A2.size := by omega
          have gg7 : ¬ 9223372036854775807 < S0.size + A0.size + 1 + Wd.size + 1 + A1.size + 1 + A2.size + 1 := by omega
          have gg8 : ¬ 9223372036854775807 < S0.size + A0.size + 1 + Wd.size + 1 + A1.size + 1 + A2.size + 1 + A3.size := by omega
          go_region_held3 (fun W => W.cell? ⟨xb, 1, none⟩ = some (.int .i64 xa) ∧ W.cell? ⟨xb, 2, none⟩ = some (.int .i64 xi) ∧ W.cell? ⟨xb, 3, none⟩ = some (.int .i64 xc)) (first | exact ⟨g1, g2, g3⟩ | assumption | go_keep) ((go_at_call 33; (first | (with_reducible refine (DC0.out _).mono ?_) | (with_reducible refine (DC1.out _).mono ?_) | (with_reducible refine (DC2.out _).mono ?_) | (with_reducible refine (DC3.out _).mono ?_)); rintro e w' ⟨rfl, hw⟩; subst w'))
          go_upto_region 10 with fail
          rw [HE.out]
          obtain ⟨l9, hl9⟩ : ∃ l9, l9 = txt 0 (L.take j) ++ Lib.itoa (j : Int) ++ [32] ++ [63] ++ [32] ++ Lib.itoa xa ++ [32] ++ Lib.itoa xi ++ [32] ++ Lib.itoa xc := ⟨_, rfl⟩
          rw [← hl9]
          rw [← hl9] at HT
          have hs9 : (tx l9).size + (if xn.data.toList = [] then 0 else 1 + xn.size) ≤ 999999999 := by
            rw [txsize, hl9]
            have := HT.out.1
            simp only [List.length_append, List.length_cons, List.length_nil] at this ⊢
            omega
          clear hl9 hsz HE DC0 DC1 DC2 DC3 g1 g2 g3 gg0 gg1 gg2 gg3 gg4 gg5 gg6 gg7 gg8
          have EB := hid_as (below_and B3.out (show Below W3.heap.size W3 W3.drew from (Same.drewN W3 1).below))
          by_cases hnm : xn.data.toList = []
          · have n1 : (xn.toList == []) = true := by rw [ByteArray.toList_eq, hnm]; rfl
            have n2 : (xn.toList != []) = false := by rw [ByteArray.toList_eq, hnm]; rfl
            rw [if_pos hnm] at hs9
            have HF2 : Hid (tx (txt 0 (L.take (j + 1))) = tx l9 ++ ⟨#[10]⟩) := by
              show _ = tx l9 ++ tx [10]
              rw [HT.out.2, if_pos hnm, txapp, List.append_nil]
            clear hnm
            have k1 : ¬ 9223372036854775807 < (tx l9).size + 1 := by omega
            clear hs9
            go_wp2
            go_roundw
            case rel => exact ⟨j + 1, by omega, by go_num, by rw [HF2.out], EB.out⟩
            case measure => simp [intOf]; omega
          · have n1 : (xn.toList == []) = false := by rw [ByteArray.toList_eq, beq_eq_false_iff_ne]; exact hnm
            have n2 : (xn.toList != []) = true := by rw [ByteArray.toList_eq, bne_iff_ne]; exact hnm
            rw [if_neg hnm] at hs9
            have HF2 : Hid (tx (txt 0 (L.take (j + 1))) = tx l9 ++ ⟨#[32]⟩ ++ xn ++ ⟨#[10]⟩) := by
              refine ba_ext ?_
              rw [HT.out.2, if_neg hnm, app_list, app_list, app_list, tx_data, tx_data]
              show _ = l9 ++ [32] ++ xn.data.toList ++ [10]
              simp only [List.append_assoc]
            clear hnm
            have k0 : ¬ 9223372036854775807 < (tx l9).size + 1 := by omega
            have k1 : ¬ 9223372036854775807 < (tx l9).size + 1 + xn.size := by omega
            have k2 : ¬ 9223372036854775807 < (tx l9).size + 1 + xn.size + 1 := by omega
            clear hs9
            go_wp2
            go_roundw
            case rel => exact ⟨j + 1, by omega, by go_num, by rw [HF2.out], EB.out⟩
            case measure => simp [intOf]; omega
    · obtain rfl : j = n := by omega
      have hjj : ¬ (j : Int) < (j : Int) := by omega
      have FIN := hid_as (congrArg tx (congrArg (txt 0) (List.take_of_length_le (l := L) (by rw [← NL.out]; exact Nat.le_refl _))))
      go_wp2
      go_ret
      exact ⟨ret_str FIN.out, KB.out.trans (BW.out.mono KB.out.size)⟩
end Go.Proofs.YtkknfolahfmghaaDoor
