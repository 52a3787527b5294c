/- The reference's scanner: letters, digits, the sign at a place, digits in a row (stage 12). -/
import Derived.Test.YtnponognncdkcaaDoorW3
import Derived.Test.YtnponognncdkcaaDoorT1
import Derived.Deep.CutRange
import Derived.Deep.CutBlock
namespace Go.Proofs.YtnponognncdkcaaDoor
open Go.RowKit
open Adr Lx
theorem rdigit_c (c : UInt8) (w : World) : Calls Tryd.prog 52 #[.int .u8 c.toNat] w fun e w' => e = .returned (.bool (dgt c)) ∧ w' = w := by
  go_enter Tryd.func52, Tryd.ntmps52
  go_wp2
  all_goals go_ret
  all_goals refine ⟨ret_bool ?_, rfl⟩
  all_goals unfold dgt
  all_goals (first | rfl | grind)
theorem rletter_c (c : UInt8) (w : World) : Calls Tryd.prog 51 #[.int .u8 c.toNat] w fun e w' => e = .returned (.bool (isL c)) ∧ w' = w := by
  go_enter Tryd.func51, Tryd.ntmps51
  go_wp2
  all_goals go_ret
  all_goals refine ⟨ret_bool ?_, rfl⟩
  all_goals unfold isL
  all_goals (first | rfl | grind)
/-- What a sign counts in a base; -1: it is no digit of it. -/
def vlb (b : Nat) (c : UInt8) : Int := if (b : Int) ≤ dv c then -1 else dv c
theorem rvalue_c (c : UInt8) (b : Nat) (w : World) : Calls Tryd.prog 85 #[.int .u8 c.toNat, .int .i64 b] w fun e w' => e = .returned (.int .i64 (vlb b c)) ∧ w' = w := by
  have hc := c.toNat_lt
  unfold vlb dv
  cases h : dgt c
  · rw [if_neg Bool.false_ne_true]
    by_cases h6 : 65 ≤ c.toNat ∧ c.toNat ≤ 70
    · rw [decide_eq_true h6.1, decide_eq_true h6.2, Bool.and_true, if_pos rfl]
      have a1 : (65 : Int) ≤ c.toNat := by omega
      have a2 : (c.toNat : Int) ≤ 70 := by omega
      go_enter Tryd.func85, Tryd.ntmps85
      go_wp2_with (go_at_call 52; refine (rdigit_c _ _).mono ?_; rintro e w' ⟨rfl, hw⟩; subst w'; rw [h])
      all_goals
        go_ret
        refine ⟨ret_int ?_, rfl⟩
        omega
    · have e0 : (decide (65 ≤ c.toNat) && decide (c.toNat ≤ 70)) = false := by
        rw [Bool.and_eq_false_iff, decide_eq_false_iff_not, decide_eq_false_iff_not]; omega
      rw [e0, if_neg Bool.false_ne_true, if_neg (by omega)]
      go_enter Tryd.func85, Tryd.ntmps85
      go_wp2_with (go_at_call 52; refine (rdigit_c _ _).mono ?_; rintro e w' ⟨rfl, hw⟩; subst w'; rw [h])
      all_goals first | (go_ret; exact ⟨rfl, rfl⟩) | (exfalso; omega)
  · rw [if_pos rfl]
    have hd : 48 ≤ c.toNat ∧ c.toNat ≤ 57 := by unfold dgt at h; simpa using h
    go_enter Tryd.func85, Tryd.ntmps85
    go_wp2_with (go_at_call 52; refine (rdigit_c _ _).mono ?_; rintro e w' ⟨rfl, hw⟩; subst w'; rw [h])
    all_goals
      go_ret
      refine ⟨ret_int ?_, rfl⟩
      omega
/-- A scanner of this text, at this place, lies in block g. -/
structure Sc (W : World) (g : Nat) (s : ByteArray) (a : Nat) : Prop where
  c0 : W.cell? ⟨g, 0, none⟩ = some (.string s)
  c1 : W.cell? ⟨g, 1, none⟩ = some (.int .i64 a)
  fr : W.frozen? ⟨g, 1, none⟩ = false
theorem Sc.same {W W' : World} {g : Nat} {s : ByteArray} {a : Nat} (h : Sc W g s a) (k : Same W W') : Sc W' g s a :=
  ⟨by rw [← h.c0]; simp [World.cell?, k.heap], by rw [← h.c1]; simp [World.cell?, k.heap], by rw [← h.fr]; simp [World.frozen?, k.heap]⟩
/-- The sign at a place; 0 behind the end. -/
def chr (s : ByteArray) (k : Nat) : UInt8 := s.data.toList.getD k 0
set_option maxHeartbeats 1000000 in
theorem c_r (s : ByteArray) (g a i : Nat) (w : World) (h : Sc w g s a) (ha : a ≤ 70000) (hi : i ≤ 2) : Calls Tryd.prog 34 #[.pointer (some ⟨g, 0, none⟩), .int .i64 i] w fun e w' => e = .returned (.int .u8 (chr s (a + i)).toNat) ∧ Same w w' := by
  obtain ⟨c0, c1, cf⟩ := h
  have hw : IntKind.i64.wrap ((a : Int) + i) = (a : Int) + i := by rw [IntKind.wrap_i64]; omega
  have hn : ((a : Int) + i).toNat = a + i := by omega
  by_cases hlt : a + i < s.size
  · have hlt' : (a : Int) + i < s.size := by omega
    have h0 : (0 : Int) ≤ (a : Int) + i := by omega
    have e : Hid (chr s (a + i) = s[a + i]) := by
      unfold chr
      rw [List.getD_eq_getElem?_getD, List.getElem?_eq_getElem (by rw [← Lib.size_eq]; exact hlt)]
      exact hid_as rfl
    go_enter Tryd.func34, Tryd.ntmps34
    go_wp2
    go_quiet (fail)
    go_wp2
    go_quiet (fail)
    go_wp2
    go_ret
    refine ⟨by rw [e.out]; rfl, ?_⟩
    first | exact Same.drew _ | exact Same.drewN _ _ | exact (Same.drewN _ _).trans (Same.drewN _ _) | exact (Same.drew _).trans (Same.drew _)
  · have hlt' : ¬ (a : Int) + i < s.size := by omega
    have e : Hid (chr s (a + i) = 0) := by
      unfold chr
      rw [List.getD_eq_getElem?_getD, List.getElem?_eq_none (by rw [← Lib.size_eq]; omega)]
      exact hid_as rfl
    go_enter Tryd.func34, Tryd.ntmps34
    go_wp2
    go_quiet (fail)
    go_wp2
    go_ret
    refine ⟨by rw [e.out]; rfl, ?_⟩
    first | exact Same.drew _ | exact Same.drewN _ _
end Go.Proofs.YtnponognncdkcaaDoor
