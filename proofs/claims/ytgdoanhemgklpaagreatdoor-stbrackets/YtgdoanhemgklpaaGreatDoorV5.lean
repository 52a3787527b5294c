/- Operators, and what begins an expression; variables and literals of a token (stage 13). -/
import Derived.Test.YtgdoanhemgklpaaGreatDoorV4
namespace Go.Proofs.YtgdoanhemgklpaaGreatDoor
open Go.RowKit
open Adr Lx Sx
theorem opr_leaf {s : ByteArray} {l : List UInt8} {a b : Int} (e : (s.toList == l) = true) (h : opr l = (a.toNat, b.toNat)) (ha : 0 ≤ a) (hb : 0 ≤ b) : Ending.returned (.tuple #[.int .i64 a, .int .i64 b]) = .returned (.tuple #[.int .i64 ((opr s.data.toList).1 : Int), .int .i64 ((opr s.data.toList).2 : Int)]) := by
  have e1 : s.data.toList = l := by rw [← Lib.toList_data]; exact eq_of_beq e
  rw [e1, h, Int.toNat_of_nonneg ha, Int.toNat_of_nonneg hb]
theorem both2 {s : ByteArray} {l : List UInt8} {m : List UInt8} (e : (s.toList == l) = true) (e' : (s.toList == m) = true) (h : (l == m) = false) : False := by
  have e1 := eq_of_beq e
  have e2 := eq_of_beq e'
  rw [← e1, ← e2] at h
  simp at h
set_option maxHeartbeats 4000000 in
set_option maxRecDepth 100000 in
theorem operator_c (s : ByteArray) (w : World) : Calls Tryz.prog 82 #[.string s] w fun e w' => e = .returned (.tuple #[.int .i64 ((opr s.data.toList).1 : Int), .int .i64 ((opr s.data.toList).2 : Int)]) ∧ w' = w := by
  go_enter Tryz.func82, Tryz.ntmps82
  go_wp2
  all_goals go_ret2
  all_goals refine ⟨?_, rfl⟩
  all_goals first | (apply opr_leaf; assumption; decide; decide; decide) | skip
  unfold opr
  rw [← Lib.toList_data]
  simp only [*, Bool.false_eq_true, if_false]
  rfl
theorem byTok {T : TL} {i : Nat} : (cu T i).1.tok = ck T i := rfl
set_option maxHeartbeats 4000000 in
set_option maxRecDepth 100000 in
theorem beginsExpr_c {w : World} {rb tb cap : Nat} {T : TL} {i : Nat} (h : Rd w rb tb cap T i) : Calls Tryz.prog 101 #[.pointer (some ⟨rb, 0, none⟩)] w fun e w' => e = .returned (.bool (beg T i)) ∧ Below w.heap.size w w' := by
  have N0 := hid_as (fun W (H : Rd W rb tb cap T i) => now_c H)
  have I1 : Hid (∀ W, Rd W rb tb cap T i → Calls Tryz.prog 57 #[.pointer (some ⟨rb, 0, none⟩), .string ⟨#[45]⟩] W fun e w' => e = .returned (.bool (isT T [45] i)) ∧ Below W.heap.size W w') := fun W H => is_c H ⟨#[45]⟩
  have I2 : Hid (∀ W, Rd W rb tb cap T i → Calls Tryz.prog 57 #[.pointer (some ⟨rb, 0, none⟩), .string ⟨#[78, 79, 84]⟩] W fun e w' => e = .returned (.bool (isT T [78, 79, 84] i)) ∧ Below W.heap.size W w') := fun W H => is_c H ⟨#[78, 79, 84]⟩
  have I3 : Hid (∀ W, Rd W rb tb cap T i → Calls Tryz.prog 57 #[.pointer (some ⟨rb, 0, none⟩), .string ⟨#[40]⟩] W fun e w' => e = .returned (.bool (isT T [40] i)) ∧ Below W.heap.size W w') := fun W H => is_c H ⟨#[40]⟩
  have F0 := fd0
  have H := hid_as h
  have hb : beg T i = (decide (ck T i = 2) || decide (ck T i = 3) || decide (ck T i = 4) || isT T [45] i || isT T [78, 79, 84] i || isT T [40] i) := rfl
  rw [hb, ← byTok]
  unfold tv at N0
  clear h hb
  generalize isT T [45] i = b1 at *
  generalize isT T [78, 79, 84] i = b2 at *
  generalize isT T [40] i = b3 at *
  generalize cu T i = c at *
  obtain ⟨⟨ta, tk, tn, tt⟩, pl⟩ := c
  simp only at N0 ⊢
  rw [show decide (ta = 2) = decide ((ta : Int) = 2) from decide_eq_decide.2 (by omega), show decide (ta = 3) = decide ((ta : Int) = 3) from decide_eq_decide.2 (by omega), show decide (ta = 4) = decide ((ta : Int) = 4) from decide_eq_decide.2 (by omega)]
  cases b1 <;> cases b2
  all_goals
    go_enter Tryz.func101, Tryz.ntmps101
    go_wp2_with (first
      | (go_at_call 52; (with_reducible refine (N0.out _ H.out).mono ?_); rintro e w1 ⟨rfl, b1⟩; have R1 := hid_as (H.out.below b1); have K1 := hid_as b1; clear b1)
      | (go_at_call 57; (with_reducible refine (I1.out _ R1.out).mono ?_); rintro e w2 ⟨rfl, b2⟩; have R2 := hid_as (R1.out.below b2); have K2 := hid_as (below_and K1.out b2); clear b2)
      | (go_at_call 57; (with_reducible refine (I2.out _ R2.out).mono ?_); rintro e w3 ⟨rfl, b3⟩; have R3 := hid_as (R2.out.below b3); have K3 := hid_as (below_and K2.out b3); clear b3)
      | (go_at_call 57; (with_reducible refine (I3.out _ R3.out).mono ?_); rintro e w4 ⟨rfl, b4⟩; have K4 := hid_as (below_and K3.out b4); clear b4))
    all_goals go_ret
    all_goals refine ⟨ret_bool ?_, by first | exact K4.out | exact K3.out | exact K2.out | exact K1.out⟩
    all_goals grind
set_option maxRecDepth 100000 in
theorem end_c {rb tb cap : Nat} {T : TL} : Cn 29 #[] rb tb cap T (endT T) qU := by
  intro w i h
  show Calls Tryz.prog 29 #[.pointer (some ⟨rb, 0, none⟩)] w _
  have N0 := hid_as (fun W (H : Rd W rb tb cap T i) => now_c H)
  have D := hid_as (fun W (H : Rd W rb tb cap T i) => refuse_130 H)
  have F0 := fd0
  have H := hid_as h
  by_cases hs : ck T i = 0
  · have em : endT T i = ok () i := by unfold endT; rw [if_pos hs]
    have hs' : ((cu T i).1.tok : Int) = 0 := by unfold ck at hs; omega
    rw [em]
    unfold tv at N0
    clear em h hs
    generalize cu T i = c at *
    obtain ⟨⟨ta, tk, tn, tt⟩, pl⟩ := c
    simp only at N0 hs'
    obtain rfl : ta = 0 := by omega
    clear hs'
    go_enter Tryz.func29, Tryz.ntmps29
    go_wp2_with (go_at_call 52; (with_reducible refine (N0.out _ H.out).mono ?_); rintro e w1 ⟨rfl, b1⟩; have R1 := hid_as (H.out.below b1); have K1 := hid_as (Kp.of (rb := rb) b1); clear b1)
    go_end0
    exact ⟨K1.out, Or.inl ⟨(), i, _, rfl, rfl, rfl, R1.out, Nat.le_refl _⟩⟩
  · have em : endT T i = no 130 i := by unfold endT; rw [if_neg hs]
    have hs' : ¬ ((cu T i).1.tok : Int) = 0 := by unfold ck at hs; omega
    rw [em]
    unfold tv at N0
    clear em h hs
    generalize cu T i = c at *
    obtain ⟨⟨ta, tk, tn, tt⟩, pl⟩ := c
    simp only at N0 hs'
    go_enter Tryz.func29, Tryz.ntmps29
    go_wp2_with (first
      | (go_at_call 52; (with_reducible refine (N0.out _ H.out).mono ?_); rintro e w1 ⟨rfl, b1⟩; have R1 := hid_as (H.out.below b1); have K1 := hid_as (Kp.of (rb := rb) b1); clear b1)
      | (go_at_call 53; (with_reducible refine (D.out _ R1.out).mono ?_); rintro e w2 ⟨rfl, b2⟩))
    exact ⟨rfl, K1.out.below b2, Or.inr ⟨130, i, rfl, rfl⟩⟩
theorem plainVar_c (tok kd : Int) (n : Int) (nm : ByteArray) (pl : Int) (w : World) : Calls Tryz.prog 131 #[.agg #[.int .i64 tok, .int .i64 kd, .int .i64 n, .string nm, .int .i64 pl]] w fun e w' => e = .returned (.agg #[.int .i64 2, .int .i64 0, .int .i64 0, .string nm, .string ⟨#[]⟩, .slice none 0 0, .int .i64 pl]) ∧ Below w.heap.size w w' := by
  go_enter Tryz.func131, Tryz.ntmps131
  go_wp2
  exact bodyPost_ret (v := .agg #[.int .i64 2, .int .i64 0, .int .i64 0, .string nm, .string ⟨#[]⟩, .slice none 0 0, .int .i64 pl]) (by simp [results, Tryz.results131, go_sem]) rfl ⟨rfl, Below.alloc (below_new1 w _) (by simp) _⟩
theorem literalOf_c (tok kd : Int) (n : Int) (nm : ByteArray) (pl : Int) (w : World) : Calls Tryz.prog 107 #[.agg #[.int .i64 tok, .int .i64 kd, .int .i64 n, .string nm, .int .i64 pl]] w fun e w' => e = .returned (.agg #[.int .i64 1, .int .i64 kd, .int .i64 n, .string ⟨#[]⟩, .string ⟨#[]⟩, .slice none 0 0, .int .i64 pl]) ∧ Below w.heap.size w w' := by
  go_enter Tryz.func107, Tryz.ntmps107
  go_wp2
  exact bodyPost_ret (v := .agg #[.int .i64 1, .int .i64 kd, .int .i64 n, .string ⟨#[]⟩, .string ⟨#[]⟩, .slice none 0 0, .int .i64 pl]) (by simp [results, Tryz.results107, go_sem]) rfl ⟨rfl, Below.alloc (below_new1 w _) (by simp) _⟩
end Go.Proofs.YtgdoanhemgklpaaGreatDoor
