/- A time's units (stage 12). -/
import Derived.Test.YtnponognncdkcaaDoorT1
import Derived.Test.YtnponognncdkcaaDoorW1
namespace Go.Proofs.YtnponognncdkcaaDoor
open Go.RowKit
open Adr Lx
def uz : Nat → Nat
  | 0 | 1 | 2 | 3 => 1
  | 4 => 2
  | _ => 0
theorem uN_size : ∀ k, k < 6 → (uN k).size = uz k
  | 0, _ => rfl
  | 1, _ => rfl
  | 2, _ => rfl
  | 3, _ => rfl
  | 4, _ => rfl
  | 5, _ => rfl
  | k + 6, h => by omega
/-- Of the first k units the longest that stands ahead. -/
def bst (l : List UInt8) : Nat → Nat
  | 0 => 5
  | k + 1 => if hp l (uN k).data.toList && decide (uz (bst l k) < uz k) then k else bst l k
theorem bst_un : ∀ (l : List UInt8), bst l 5 = un l
  | [] => by decide
  | [c] => by
    by_cases h1 : 100 = c
    · subst h1; decide
    · by_cases h2 : 104 = c
      · subst h2; decide
      · by_cases h3 : 109 = c
        · subst h3; decide
        · by_cases h4 : 115 = c
          · subst h4; decide
          · have e : un [c] = 5 := by unfold un; split <;> simp_all
            rw [e]
            simp [bst, hp, Lib.hasPrefix, uN, h1, h2, h3, h4]
  | c :: d :: l => by
    by_cases h1 : 100 = c
    · subst h1; simp [bst, hp, Lib.hasPrefix, uN, un, uz]
    · by_cases h2 : 104 = c
      · subst h2; simp [bst, hp, Lib.hasPrefix, uN, un, uz]
      · by_cases h3 : 109 = c
        · subst h3
          by_cases h5 : 115 = d
          · subst h5; simp [bst, hp, Lib.hasPrefix, uN, un, uz]
          · have e : un (109 :: d :: l) = 2 := by unfold un; split <;> simp_all
            rw [e]
            simp [bst, hp, Lib.hasPrefix, uN, uz, h5]
        · by_cases h4 : 115 = c
          · subst h4; simp [bst, hp, Lib.hasPrefix, uN, un, uz]
          · have e : un (c :: d :: l) = 5 := by unfold un; split <;> simp_all
            rw [e]
            simp [bst, hp, Lib.hasPrefix, uN, h1, h2, h3, h4]
theorem bst_lt (l : List UInt8) : ∀ k, k ≤ 5 → bst l k < 6
  | 0, _ => show 5 < 6 by decide
  | k + 1, h => by
    have := bst_lt l k (by omega)
    unfold bst
    split <;> omega
theorem ten_cells (w : World) (h : RowAt w 5 cells10) : w.cell? ⟨5, 0, none⟩ = some (.string (uN 0)) ∧ w.cell? ⟨5, 1, none⟩ = some (.int .i64 86400000) ∧ w.cell? ⟨5, 2, none⟩ = some (.string (uN 1)) ∧ w.cell? ⟨5, 3, none⟩ = some (.int .i64 3600000) ∧ w.cell? ⟨5, 4, none⟩ = some (.string (uN 2)) ∧ w.cell? ⟨5, 5, none⟩ = some (.int .i64 60000) ∧ w.cell? ⟨5, 6, none⟩ = some (.string (uN 3)) ∧ w.cell? ⟨5, 7, none⟩ = some (.int .i64 1000) ∧ w.cell? ⟨5, 8, none⟩ = some (.string (uN 4)) ∧ w.cell? ⟨5, 9, none⟩ = some (.int .i64 1) :=
  ⟨(h.cell 0).trans rfl, (h.cell 1).trans rfl, (h.cell 2).trans rfl, (h.cell 3).trans rfl, (h.cell 4).trans rfl, (h.cell 5).trans rfl, (h.cell 6).trans rfl, (h.cell 7).trans rfl, (h.cell 8).trans rfl, (h.cell 9).trans rfl⟩
theorem idxU_0 (W : World) : (Instr.index 134 (.agg #[.string (uN 0), .int .i64 86400000, .string (uN 1), .int .i64 3600000, .string (uN 2), .int .i64 60000, .string (uN 3), .int .i64 1000, .string (uN 4), .int .i64 1]) (.int .i64 0)).run Tryd.prog W = .ok (.agg #[.string (uN 0), .int .i64 ((uM 0 : Nat) : Int)]) W := by kernel_rfl
theorem idxU_1 (W : World) : (Instr.index 134 (.agg #[.string (uN 0), .int .i64 86400000, .string (uN 1), .int .i64 3600000, .string (uN 2), .int .i64 60000, .string (uN 3), .int .i64 1000, .string (uN 4), .int .i64 1]) (.int .i64 1)).run Tryd.prog W = .ok (.agg #[.string (uN 1), .int .i64 ((uM 1 : Nat) : Int)]) W := by kernel_rfl
theorem idxU_2 (W : World) : (Instr.index 134 (.agg #[.string (uN 0), .int .i64 86400000, .string (uN 1), .int .i64 3600000, .string (uN 2), .int .i64 60000, .string (uN 3), .int .i64 1000, .string (uN 4), .int .i64 1]) (.int .i64 2)).run Tryd.prog W = .ok (.agg #[.string (uN 2), .int .i64 ((uM 2 : Nat) : Int)]) W := by kernel_rfl
theorem idxU_3 (W : World) : (Instr.index 134 (.agg #[.string (uN 0), .int .i64 86400000, .string (uN 1), .int .i64 3600000, .string (uN 2), .int .i64 60000, .string (uN 3), .int .i64 1000, .string (uN 4), .int .i64 1]) (.int .i64 3)).run Tryd.prog W = .ok (.agg #[.string (uN 3), .int .i64 ((uM 3 : Nat) : Int)]) W := by kernel_rfl
theorem idxU_4 (W : World) : (Instr.index 134 (.agg #[.string (uN 0), .int .i64 86400000, .string (uN 1), .int .i64 3600000, .string (uN 2), .int .i64 60000, .string (uN 3), .int .i64 1000, .string (uN 4), .int .i64 1]) (.int .i64 4)).run Tryd.prog W = .ok (.agg #[.string (uN 4), .int .i64 ((uM 4 : Nat) : Int)]) W := by kernel_rfl
theorem idxU (k : Nat) (hk : k < 5) (W : World) : (Instr.index 134 (.agg #[.string (uN 0), .int .i64 86400000, .string (uN 1), .int .i64 3600000, .string (uN 2), .int .i64 60000, .string (uN 3), .int .i64 1000, .string (uN 4), .int .i64 1]) (.int .i64 (k : Int))).run Tryd.prog W = .ok (.agg #[.string (uN k), .int .i64 ((uM k : Nat) : Int)]) W := by
  have hc : k = 0 ∨ k = 1 ∨ k = 2 ∨ k = 3 ∨ k = 4 := by omega
  rcases hc with rfl | rfl | rfl | rfl | rfl
  · exact idxU_0 W
  · exact idxU_1 W
  · exact idxU_2 W
  · exact idxU_3 W
  · exact idxU_4 W
theorem ret_str {b c : Nat} (h : b = c) : Ending.returned (.string (uN b)) = .returned (.string (uN c)) := by rw [h]
set_option maxHeartbeats 1000000 in
theorem unitName_c (s : ByteArray) (w : World) (hT : Tabs w) : Calls Tryd.prog 80 #[.string s] w fun e w' => e = .returned (.string (uN (un s.data.toList))) ∧ Below w.heap.size w w' := by
  obtain ⟨c0, c1, c2, c3, c4, c5, c6, c7, c8, c9⟩ := ten_cells w hT.units
  have hU := hid_as (bst_un s.data.toList)
  have h0 : uN 5 = ⟨#[]⟩ := rfl
  go_enter Tryd.func80, Tryd.ntmps80
  go_wp2
  clear c0 c1 c2 c3 c4 c5 c6 c7 c8 c9
  go_loopw [3, 7] (fun g i wr => ∃ k b : Nat, k ≤ 5 ∧ b < 6 ∧ i = .int .i64 k ∧ g = .string (uN b) ∧ Hid (Below w.heap.size w wr) ∧ Hid (b = bst s.data.toList k)) (fun g i wr => 5 - (intOf i).toNat)
  case atStart => exact ⟨0, 5, by omega, by omega, rfl, by rw [h0], hid_as (Below.refl _ _), hid_as rfl⟩
  case round =>
    obtain ⟨k, b, hk, hb, rfl, rfl, hB, hn⟩ := hrel
    clear h0
    by_cases hlt : k < 5
    · have hlt' : (k : Int) < 5 := by omega
      have hix := idxU k hlt
      have hB2 : ∀ o, Hid (Below w.heap.size w (wr.alloc o)) := fun o => hid_as (Below.alloc hB.out hB.out.size o)
      have z1 := hid_as (uN_size k (by omega))
      have z2 := hid_as (uN_size b hb)
      cases hp' : hp s.data.toList (uN k).data.toList with
      | false =>
        have hq : Hid (b = bst s.data.toList (k + 1)) := by rw [bst, hp']; exact hn
        have H := hid_as (fun W => hasPrefix_c s (uN k) W)
        rw [hp'] at H
        clear hp'
        go_wp2_with (go_at_call 19; refine (H.out _).mono ?_; rintro e w' ⟨rfl, hw⟩; subst w')
        go_roundw
        case rel => exact ⟨k + 1, b, by omega, hb, by go_num, rfl, hB2 _, hq⟩
        case measure => simp [intOf]; omega
      | true =>
        have H := hid_as (fun W => hasPrefix_c s (uN k) W)
        rw [hp'] at H
        by_cases hlz : (uN b).size < (uN k).size
        · have hq : Hid (k = bst s.data.toList (k + 1)) := by rw [bst, hp', ← hn.out, ← z1.out, ← z2.out, decide_eq_true hlz]; exact hid_as rfl
          have hlz' : ((uN b).size : Int) < (uN k).size := by omega
          clear hp'
          go_wp2_with (go_at_call 19; refine (H.out _).mono ?_; rintro e w' ⟨rfl, hw⟩; subst w')
          go_roundw
          case rel => exact ⟨k + 1, k, by omega, by omega, by go_num, rfl, hB2 _, hq⟩
          case measure => simp [intOf]; omega
        · have hq : Hid (b = bst s.data.toList (k + 1)) := by rw [bst, hp', ← hn.out, ← z1.out, ← z2.out, decide_eq_false hlz]; exact hid_as rfl
          have hlz' : ¬ ((uN b).size : Int) < (uN k).size := by omega
          clear hp'
          go_wp2_with (go_at_call 19; refine (H.out _).mono ?_; rintro e w' ⟨rfl, hw⟩; subst w')
          go_roundw
          case rel => exact ⟨k + 1, b, by omega, hb, by go_num, rfl, hB2 _, hq⟩
          case measure => simp [intOf]; omega
    · have e : Hid (b = un s.data.toList) := by rw [← hU.out, hn.out, show k = 5 by omega]; exact hid_as rfl
      go_wp2
      go_ret
      exact ⟨ret_str e.out, hB.out⟩
end Go.Proofs.YtnponognncdkcaaDoor
