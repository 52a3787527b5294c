/- Parse, of any text that isn't too long (stage 12). -/
import Derived.Test.YtnponognncdkcaaDoorP1
namespace Go.Proofs.YtnponognncdkcaaDoor
open Go.RowKit
open Adr
namespace Adr
/-- What stands behind an area's name. -/
def rst (k : Nat) (l : List UInt8) : List UInt8 := l.drop (hed k).data.toList.length
/-- The text names a place of this area. -/
def hit (k : Nat) (l : List UInt8) : Bool := Lib.hasPrefix l (hed k).data.toList && (pb (bt k) (rst k l) && hasI k (pv (bt k) (rst k l)))
def fnd (l : List UInt8) : Option Nat := (List.range 7).find? fun k => hit k l
def pa (l : List UInt8) : Nat := (fnd l).getD 0
def pn (l : List UInt8) : Nat := match fnd l with
  | some k => pv (bt k) (rst k l)
  | none => 0
def pe (l : List UInt8) : Nat := if (fnd l).isSome then 0 else 100
theorem fnd_at {l : List UInt8} {k : Nat} (hk : k < 7) (h : hit k l = true) (hs : ∀ j, j < k → hit j l = false) : fnd l = some k := by
  unfold fnd
  rw [List.find?_range_eq_some]
  exact ⟨h, by simpa using hk, fun j hj => by rw [hs j hj]; rfl⟩
theorem fnd_none {l : List UInt8} (hs : ∀ j, j < 7 → hit j l = false) : fnd l = none := by
  unfold fnd
  rw [List.find?_eq_none]
  intro j hj
  rw [hs j (by simpa using hj)]
  exact Bool.false_ne_true
theorem hit_no {k : Nat} {l : List UInt8} (h : Lib.hasPrefix l (hed k).data.toList = false) : hit k l = false := by unfold hit; rw [h]; rfl
theorem hit_odd {k : Nat} {l : List UInt8} (h : pb (bt k) (rst k l) = false) : hit k l = false := by unfold hit; rw [h]; simp
theorem hit_far {k : Nat} {l : List UInt8} (h : hasI k (pv (bt k) (rst k l)) = false) : hit k l = false := by unfold hit; rw [h]; simp
theorem hit_yes {k : Nat} {l : List UInt8} (h : Lib.hasPrefix l (hed k).data.toList = true) (h1 : pb (bt k) (rst k l) = true) (h2 : hasI k (pv (bt k) (rst k l)) = true) : hit k l = true := by unfold hit; rw [h, h1, h2]; rfl
theorem none_yet {l : List UInt8} {k : Nat} (hs : ∀ j, j < k → hit j l = false) (h : hit k l = false) : ∀ j, j < k + 1 → hit j l = false := fun j hj => by
  by_cases e : j = k
  · subst e; exact h
  · exact hs j (by omega)
end Adr
theorem ret_three {a b c x y z : Int} (h : a = x) (k : b = y) (m : c = z) : Ending.returned (.tuple #[.int .i64 a, .int .i64 b, .int .i64 c]) = .returned (.tuple #[.int .i64 x, .int .i64 y, .int .i64 z]) := by rw [h, k, m]
theorem rest_size (k : Nat) (s : ByteArray) : (tx (rst k s.data.toList)).size ≤ s.size := by
  rw [tx_size, Lib.size_eq]
  unfold rst
  rw [List.length_drop]
  omega
theorem readPlace_t (b : Bool) (l : List UInt8) (hs : (tx l).size ≤ 70000) (w : World) : Calls Tryd.prog 67 #[.string (tx l), .bool b] w fun e w' => e = .returned (.tuple #[.int .i64 (pv b l), .bool (pb b l)]) ∧ Same w w' := by
  have h := readPlace_c (tx l) b hs w
  rw [tx_list] at h
  exact h
set_option maxHeartbeats 2000000 in
/-- Parse. -/
theorem parse_c (s : ByteArray) (hs : s.size ≤ 70000) (w : World) (hA : AreasAt w) : Calls Tryd.prog 49 #[.string s] w fun e w' => e = .returned (.tuple #[.int .i64 (pa s.data.toList), .int .i64 (pn s.data.toList), .int .i64 (pe s.data.toList)]) ∧ Same w w' := by
  go_enter Tryd.func49, Tryd.ntmps49
  go_wp2
  go_loopw [10] (fun i wr => ∃ k : Nat, k ≤ 7 ∧ i = .int .i64 k ∧ Hid (Same w wr) ∧ Hid (∀ j, j < k → hit j s.data.toList = false)) (fun i wr => 7 - (intOf i).toNat)
  case atStart => exact ⟨0, by omega, rfl, hid_as (Same.refl _), hid_as (fun j hj => by omega)⟩
  case round =>
    obtain ⟨k, hk, rfl, hw, hn⟩ := hrel
    have hB := hA.same hw.out
    by_cases hlt : k < 7
    · obtain ⟨c0, c1, c2, c3, c4⟩ := hB.row k hlt
      have hlt' : (k : Int) < 7 := by omega
      cases hp : Lib.hasPrefix s.data.toList (hed k).data.toList with
      | false =>
        have hs2 := hid_as (none_yet hn.out (hit_no hp))
        go_wp2_with (go_at_call 63; refine (head_no _ _ _ hp).mono ?_; rintro e w' ⟨rfl, hw⟩; subst w')
        go_roundw
        case rel => exact ⟨k + 1, by omega, by go_num, hw, hs2⟩
        case measure => simp [intOf]; omega
      | true =>
        have R := hid_as (readPlace_t (bt k) (rst k s.data.toList) (by have := rest_size k s; omega))
        have P := hid_as (fun W => (show Calls Tryd.prog 63 #[.string s, .string (hed k)] W fun e w' => e = .returned (.tuple #[.string (tx (rst k s.data.toList)), .bool true]) ∧ w' = W from head_yes s (hed k) W hp))
        cases hq : pb (bt k) (rst k s.data.toList) with
        | false =>
          rw [hq] at R
          have hs2 := hid_as (none_yet hn.out (hit_odd hq))
          clear hp hq
          go_wp2_with (first | (go_at_call 63; refine (P.out _).mono ?_; rintro e w' ⟨rfl, hw⟩; subst w') | (go_at_call 67; refine (R.out _).mono ?_; rintro e w2 ⟨rfl, k2⟩))
          go_roundw
          case rel => exact ⟨k + 1, by omega, by go_num, hid_as (hw.out.trans k2), hs2⟩
          case measure => simp [intOf]; omega
        | true =>
          rw [hq] at R
          cases hh : hasI k (pv (bt k) (rst k s.data.toList)) with
          | false =>
            have hs2 := hid_as (none_yet hn.out (hit_far hh))
            clear hp hq
            go_wp2_with (first | (go_at_call 63; refine (P.out _).mono ?_; rintro e w' ⟨rfl, hw⟩; subst w') | (go_at_call 67; refine (R.out _).mono ?_; rintro e w2 ⟨rfl, k2⟩; have hC := hB.same k2) | (go_at_call 68; refine (has_c _ _ _ hC).mono ?_; rintro e w' ⟨rfl, hw⟩; subst w'; rw [hh]))
            go_roundw
            case rel => exact ⟨k + 1, by omega, by go_num, hid_as (hw.out.trans k2), hs2⟩
            case measure => simp [intOf]; omega
          | true =>
            have e := hid_as (fnd_at hlt (hit_yes hp hq hh) hn.out)
            clear hp hq
            go_wp2_with (first | (go_at_call 63; refine (P.out _).mono ?_; rintro e w' ⟨rfl, hw⟩; subst w') | (go_at_call 67; refine (R.out _).mono ?_; rintro e w2 ⟨rfl, k2⟩; have hC := hB.same k2) | (go_at_call 68; refine (has_c _ _ _ hC).mono ?_; rintro e w' ⟨rfl, hw⟩; subst w'; rw [hh]))
            go_ret3
            exact ⟨ret_three (by unfold pa; rw [e.out]; rfl) (by unfold pn; rw [e.out]) (by unfold pe; rw [e.out]; rfl), hw.out.trans k2⟩
    · have e := hid_as (fnd_none (l := s.data.toList) (fun j hj => hn.out j (by omega)))
      go_wp2
      go_ret3
      exact ⟨ret_three (by unfold pa; rw [e.out]; rfl) (by unfold pn; rw [e.out]; rfl) (by unfold pe; rw [e.out]; rfl), hw.out⟩
end Go.Proofs.YtnponognncdkcaaDoor
