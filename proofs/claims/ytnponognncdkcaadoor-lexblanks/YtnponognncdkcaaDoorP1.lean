/- What stands behind an area's name: the project's readPlace; Parse (stage 12). -/
import Derived.Test.YtnponognncdkcaaDoorA1
namespace Go.Proofs.YtnponognncdkcaaDoor
open Go.RowKit
open Adr
namespace Adr
/-- What stands ahead of the first point, and behind it. -/
def bef (l : List UInt8) : List UInt8 := l.take (dot l)
def aft (l : List UInt8) : List UInt8 := l.drop (dot l + 1)
/-- The place that a text behind a name tells, if it tells one. -/
def pv (b : Bool) (l : List UInt8) : Nat := if b then nv (bef l) * 8 + nv (aft l) else nv l
def pb (b : Bool) (l : List UInt8) : Bool := if b then nb (bef l) && nb (aft l) && decide ((nv (aft l) : Int) < 8) else nb l
theorem pv_lt (b : Bool) (l : List UInt8) : pv b l < 9000 := by
  have h1 := nv_lt (bef l)
  have h2 := nv_lt (aft l)
  have h3 := nv_lt l
  unfold pv
  split <;> omega
end Adr
theorem rn_t (l : List UInt8) (w : World) : Calls Tryd.prog 82 #[.string (tx l)] w fun e w' => e = .returned (.tuple #[.int .i64 (nv l), .bool (nb l)]) ∧ w' = w := by
  have h := rn_c (tx l) w
  rw [tx_list] at h
  exact h
theorem ret_nb {a c : Int} {b d : Bool} (h : a = c) (k : b = d) : Ending.returned (.tuple #[.int .i64 a, .bool b]) = .returned (.tuple #[.int .i64 c, .bool d]) := by rw [h, k]
theorem place_reg (s : ByteArray) (w : World) : Calls Tryd.prog 67 #[.string s, .bool false] w fun e w' => e = .returned (.tuple #[.int .i64 (nv s.data.toList), .bool (nb s.data.toList)]) ∧ Same w w' := by
  go_enter Tryd.func67, Tryd.ntmps67
  go_wp2_with (go_at_call 82; refine (rn_c _ _).mono ?_; rintro e w' ⟨rfl, hw⟩; subst w')
  go_ret2
  exact ⟨rfl, Same.refl _⟩
set_option maxHeartbeats 800000 in
theorem place_bit0 (s B A : ByteArray) (x y : Nat) (p q : Bool) (hx : x < 1000) (hy : y < 1000)
    (C : Hid (∀ w, Calls Tryd.prog 83 #[.string s, .string ⟨#[46]⟩] w fun e w' => (∃ f, e = .returned (.tuple #[.string B, .string A, .bool f])) ∧ Same w w'))
    (X : Hid (∀ w, Calls Tryd.prog 82 #[.string B] w fun e w' => e = .returned (.tuple #[.int .i64 x, .bool p]) ∧ w' = w))
    (Y : Hid (∀ w, Calls Tryd.prog 82 #[.string A] w fun e w' => e = .returned (.tuple #[.int .i64 y, .bool q]) ∧ w' = w))
    (w : World) : Calls Tryd.prog 67 #[.string s, .bool true] w fun e w' => e = .returned (.tuple #[.int .i64 ((x : Int) * 8 + y), .bool (p && q && decide ((y : Int) < 8))]) ∧ Same w w' := by
  cases p <;> cases q
  all_goals
    go_enter Tryd.func67, Tryd.ntmps67
    go_wp2_with (first | (go_at_call 83; refine (C.out _).mono ?_; rintro e w1 ⟨⟨f, rfl⟩, k1⟩) | (go_at_call 82; (first | (with_reducible refine (X.out _).mono ?_) | (with_reducible refine (Y.out _).mono ?_)); rintro e w' ⟨rfl, hw⟩; subst w'))
    go_ret2
    exact ⟨ret_nb rfl rfl, k1⟩
/-- readPlace, of any text that isn't too long. -/
theorem readPlace_c (s : ByteArray) (b : Bool) (hs : s.size ≤ 70000) (w : World) : Calls Tryd.prog 67 #[.string s, .bool b] w fun e w' => e = .returned (.tuple #[.int .i64 (pv b s.data.toList), .bool (pb b s.data.toList)]) ∧ Same w w' := by
  cases b
  · exact place_reg s w
  · exact place_bit0 s (tx (bef s.data.toList)) (tx (aft s.data.toList)) (nv (bef s.data.toList)) (nv (aft s.data.toList)) (nb (bef s.data.toList)) (nb (aft s.data.toList)) (nv_lt _) (nv_lt _) (hid_as fun w => cut_c s w hs) (hid_as fun w => rn_t _ w) (hid_as fun w => rn_t _ w) w
end Go.Proofs.YtnponognncdkcaaDoor
