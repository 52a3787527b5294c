/- Numbers by a base (stage 12). -/
import Derived.Test.YtnponognncdkcaaDoorT1
import Derived.Test.YtnponognncdkcaaDoorW3
namespace Go.Proofs.YtnponognncdkcaaDoor
open Go.RowKit
open Adr Lx
theorem readDigits_t (l : List UInt8) (b : Nat) (hb : b ≤ 16) (hs : l.length ≤ 70000) (w : World) : Calls Tryd.prog 66 #[.string (tx l), .int .i64 b] w fun e w' => e = .returned (.tuple #[.int .i64 ((rd b l).1 : Int), .int .i64 ((rd b l).2 : Int)]) ∧ w' = w := by
  have h := readDigits_c (tx l) b hb w (by rw [tx_size]; exact hs)
  rw [tx_list] at h
  exact h
theorem six_cells (w : World) (h : RowAt w 3 cells6) : w.cell? ⟨3, 0, none⟩ = some (.string (bn 0)) ∧ w.cell? ⟨3, 1, none⟩ = some (.int .i64 2) ∧ w.cell? ⟨3, 2, none⟩ = some (.string (bn 1)) ∧ w.cell? ⟨3, 3, none⟩ = some (.int .i64 8) ∧ w.cell? ⟨3, 4, none⟩ = some (.string (bn 2)) ∧ w.cell? ⟨3, 5, none⟩ = some (.int .i64 16) :=
  ⟨(h.cell 0).trans rfl, (h.cell 1).trans rfl, (h.cell 2).trans rfl, (h.cell 3).trans rfl, (h.cell 4).trans rfl, (h.cell 5).trans rfl⟩
theorem idxB_0 (W : World) : (Instr.index 119 (.agg #[.string (bn 0), .int .i64 2, .string (bn 1), .int .i64 8, .string (bn 2), .int .i64 16]) (.int .i64 0)).run Tryd.prog W = .ok (.agg #[.string (bn 0), .int .i64 ((bo 0 : Nat) : Int)]) W := by kernel_rfl
theorem idxB_1 (W : World) : (Instr.index 119 (.agg #[.string (bn 0), .int .i64 2, .string (bn 1), .int .i64 8, .string (bn 2), .int .i64 16]) (.int .i64 1)).run Tryd.prog W = .ok (.agg #[.string (bn 1), .int .i64 ((bo 1 : Nat) : Int)]) W := by kernel_rfl
theorem idxB_2 (W : World) : (Instr.index 119 (.agg #[.string (bn 0), .int .i64 2, .string (bn 1), .int .i64 8, .string (bn 2), .int .i64 16]) (.int .i64 2)).run Tryd.prog W = .ok (.agg #[.string (bn 2), .int .i64 ((bo 2 : Nat) : Int)]) W := by kernel_rfl
theorem idxB (k : Nat) (hk : k < 3) (W : World) : (Instr.index 119 (.agg #[.string (bn 0), .int .i64 2, .string (bn 1), .int .i64 8, .string (bn 2), .int .i64 16]) (.int .i64 (k : Int))).run Tryd.prog W = .ok (.agg #[.string (bn k), .int .i64 ((bo k : Nat) : Int)]) W := by
  have hc : k = 0 ∨ k = 1 ∨ k = 2 := by omega
  rcases hc with rfl | rfl | rfl
  · exact idxB_0 W
  · exact idxB_1 W
  · exact idxB_2 W
theorem bo_le (k : Nat) : bo k ≤ 16 := by unfold bo; split <;> decide
theorem bn_size (k : Nat) : (bn k).size ≤ 3 := by unfold bn; split <;> decide
theorem num_at {l : List UInt8} {k : Nat} (hk : k < 3) (hn : ∀ j, j < k → hp l (bn j).data.toList = false) (h : hp l (bn k).data.toList = true) : num l = byB k l := by
  have hc : k = 0 ∨ k = 1 ∨ k = 2 := by omega
  unfold num
  rcases hc with rfl | rfl | rfl
  · rw [if_pos h]
  · rw [if_neg (by rw [hn 0 (by omega)]; exact Bool.false_ne_true), if_pos h]
  · rw [if_neg (by rw [hn 0 (by omega)]; exact Bool.false_ne_true), if_neg (by rw [hn 1 (by omega)]; exact Bool.false_ne_true), if_pos h]
theorem num_no {l : List UInt8} (hn : ∀ j, j < 3 → hp l (bn j).data.toList = false) : num l = rd 10 l := by
  unfold num
  rw [if_neg (by rw [hn 0 (by omega)]; exact Bool.false_ne_true), if_neg (by rw [hn 1 (by omega)]; exact Bool.false_ne_true), if_neg (by rw [hn 2 (by omega)]; exact Bool.false_ne_true)]
theorem byB_no {l : List UInt8} {k : Nat} (h : (rd (bo k) (l.drop (bn k).data.toList.length)).2 = 0) : byB k l = (0, 0) := by unfold byB; rw [if_pos h]
theorem byB_yes {l : List UInt8} {k : Nat} (h : ¬ (rd (bo k) (l.drop (bn k).data.toList.length)).2 = 0) : byB k l = ((rd (bo k) (l.drop (bn k).data.toList.length)).1, (bn k).data.toList.length + (rd (bo k) (l.drop (bn k).data.toList.length)).2) := by unfold byB; rw [if_neg h]
theorem rdl_le : ∀ (b : Nat) (l : List UInt8) (n z i : Nat), z ≤ i → (rdl b l n z i).2 ≤ i + l.length ∧ (n ≤ 8589934592 → (rdl b l n z i).1 ≤ 8589934592)
  | b, [], n, z, i, h => ⟨by simpa [rdl] using h, fun hn => hn⟩
  | b, c :: l, n, z, i, h => by
    unfold rdl
    split
    · obtain ⟨a, q⟩ := rdl_le b l n z (i + 1) (by omega)
      exact ⟨by simp only [List.length_cons]; omega, q⟩
    · split
      · obtain ⟨a, q⟩ := rdl_le b l (min (n * b + (dv c).toNat) 8589934592) (i + 1) (i + 1) (by omega)
        exact ⟨by simp only [List.length_cons]; omega, fun _ => q (Nat.min_le_right _ _)⟩
      · exact ⟨by simp only [List.length_cons]; omega, fun hn => hn⟩
theorem rd_le (b : Nat) (l : List UInt8) : (rd b l).2 ≤ l.length ∧ (rd b l).1 ≤ 8589934592 := by
  obtain ⟨a, q⟩ := rdl_le b l 0 0 0 (by omega)
  exact ⟨by unfold rd; omega, q (by omega)⟩
set_option maxHeartbeats 1000000 in
theorem readNumber_c (s : ByteArray) (w : World) (hT : Tabs w) (hs : s.size ≤ 70000) : Calls Tryd.prog 47 #[.string s] w fun e w' => e = .returned (.tuple #[.int .i64 ((num s.data.toList).1 : Int), .int .i64 ((num s.data.toList).2 : Int)]) ∧ Below w.heap.size w w' := by
  obtain ⟨c0, c1, c2, c3, c4, c5⟩ := six_cells w hT.bases
  have hL := hid_as (Lib.size_eq s)
  go_enter Tryd.func47, Tryd.ntmps47
  go_wp2
  clear c0 c1 c2 c3 c4 c5
  go_loopw [11] (fun i wr => ∃ k : Nat, k ≤ 3 ∧ i = .int .i64 k ∧ Hid (Below w.heap.size w wr) ∧ Hid (∀ j, j < k → hp s.data.toList (bn j).data.toList = false)) (fun i wr => 3 - (intOf i).toNat)
  case atStart => exact ⟨0, by omega, rfl, hid_as (Below.refl _ _), hid_as (fun j hj => by omega)⟩
  case round =>
    obtain ⟨k, hk, rfl, hB, hn⟩ := hrel
    by_cases hlt : k < 3
    · have hlt' : (k : Int) < 3 := by omega
      have hix := idxB k hlt
      have hbo := bo_le k
      have hbn := bn_size k
      have hB2 : ∀ o, Hid (Below w.heap.size w (wr.alloc o)) := fun o => hid_as (Below.alloc hB.out hB.out.size o)
      cases hp' : hp s.data.toList (bn k).data.toList with
      | false =>
        have hq := hid_as hp'
        go_wp2_with (go_at_call 63; refine (head_no _ _ _ hp').mono ?_; rintro e w' ⟨rfl, hw⟩; subst w')
        go_roundw
        case rel =>
          refine ⟨k + 1, by omega, by go_num, hB2 _, hid_as (fun j hj => ?_)⟩
          by_cases e : j = k
          · subst e; exact hq.out
          · exact hn.out j (by omega)
        case measure => simp [intOf]; omega
      | true =>
        have hnum := hid_as (num_at hlt hn.out hp')
        have P := hid_as (fun W => head_yes s (bn k) W hp')
        have hlen : (s.data.toList.drop (bn k).data.toList.length).length ≤ s.size := by rw [List.length_drop, Lib.size_eq]; omega
        have D := hid_as (fun W => readDigits_t (s.data.toList.drop (bn k).data.toList.length) (bo k) hbo (by omega) W)
        have hbs := hid_as (Lib.size_eq (bn k))
        obtain ⟨hr1, hr2⟩ := rd_le (bo k) (s.data.toList.drop (bn k).data.toList.length)
        have hno := fun h => hid_as (byB_no (l := s.data.toList) (k := k) h)
        have hyes := fun h => hid_as (byB_yes (l := s.data.toList) (k := k) h)
        clear hp'
        generalize (rd (bo k) (s.data.toList.drop (bn k).data.toList.length)).2 = Z at *
        generalize (rd (bo k) (s.data.toList.drop (bn k).data.toList.length)).1 = N at *
        by_cases hz : Z = 0
        · have e2 := hid_as (hnum.out.trans (hno hz).out)
          have hz' : (Z : Int) = 0 := by omega
          clear hno hyes
          subst hz
          go_wp2_with (first | (go_at_call 63; refine (P.out _).mono ?_; rintro e w' ⟨rfl, hw⟩; subst w') | (go_at_call 66; refine (D.out _).mono ?_; rintro e w' ⟨rfl, hw⟩; subst w'))
          go_ret2
          exact ⟨ret_ii (by rw [e2.out]; rfl) (by rw [e2.out]; rfl), (hB2 _).out⟩
        · have e2 := hid_as (hnum.out.trans (hyes hz).out)
          have hz' : ¬ (Z : Int) = 0 := by omega
          clear hno hyes
          have hZ : Z ≤ 70000 := by omega
          clear hr1 hlen
          go_wp2_with (first | (go_at_call 63; refine (P.out _).mono ?_; rintro e w' ⟨rfl, hw⟩; subst w') | (go_at_call 66; refine (D.out _).mono ?_; rintro e w' ⟨rfl, hw⟩; subst w'))
          go_region
          go_wp2
          go_ret2
          refine ⟨ret_ii (by rw [e2.out]) (by rw [e2.out, hbs.out]; simp), ?_⟩
          exact (hB2 _).out.drew
    · have e := hid_as (num_no (l := s.data.toList) (fun j hj => hn.out j (by omega)))
      have D := hid_as (fun W => readDigits_c s 10 (by omega) W hs)
      go_wp2_with (go_at_call 66; refine (D.out _).mono ?_; rintro e w' ⟨rfl, hw⟩; subst w')
      go_ret2
      exact ⟨ret_ii (by rw [e.out]) (by rw [e.out]), hB.out⟩
end Go.Proofs.YtnponognncdkcaaDoor
