/- The walks of the timers' methods wait, last; counters' ends (stage 17). -/
import Derived.Test.YtbpnaenineinmaaF6
namespace Go.Proofs.Ytbpnaenineinmaa
open Go.RowKit
open Fb
theorem Lft.of {w w' : World} {g a b : Nat} {c : Ca} (l : Cl w' g a b c) (n : On g b w w') : Lft w g a b c (.returned (.tuple #[])) w' := ⟨rfl, l, n⟩
/-- The clock and the edge are DINTs. -/
def Bd (c : Ca) : Prop := (-2147483648 ≤ c.nw ∧ c.nw ≤ 2147483647) ∧ (-2147483648 ≤ c.k1 ∧ c.k1 ≤ 2147483647)
set_option maxHeartbeats 800000 in
theorem wait_c {w : World} {g a b : Nat} {c : Ca} (h : Cl w g a b c) (hi : c.i.length = 2) (ho : c.o.length = 2) (hb : Bd c) :
    Calls Try.prog 49 #[.pointer (some ⟨g, 0, none⟩)] w (Lft w g a b { c with o := [b01 (decide (max (c.i.getD 1 0) 0 ≤ el (max (c.i.getD 1 0) 0) c.nw c.k1)), el (max (c.i.getD 1 0) 0) c.nw c.k1], k2 := b01 (decide (max (c.i.getD 1 0) 0 ≤ el (max (c.i.getD 1 0) 0) c.nw c.k1)) }) := by
  have PR := hid_as (fun W (k : Same w W) => preset_c (h.same k) hi)
  have EL := hid_as (fun W (k : Same w W) => elapsed_c (h.same k) hi hb.1 hb.2)
  have TE := hid_as (fun W (k : Same w W) (q : Bool) (x : Int) => tell_c (h.same k) q x ho)
  obtain ⟨pt, hpt⟩ : ∃ pt, pt = max (c.i.getD 1 0) 0 := ⟨_, rfl⟩
  rw [← hpt] at PR EL ⊢
  obtain ⟨ee, he⟩ : ∃ x, x = el pt c.nw c.k1 := ⟨_, rfl⟩
  rw [← he] at EL ⊢
  clear he hpt
  have H := hid_as h
  clear h
  by_cases hq : pt ≤ ee
  · rw [decide_eq_true hq]
    go_enter Try.func49, Try.ntmps49
    go_wp2_with fail
    refine (EL.out _ (Same.refl _)).mono ?_
    rintro e w1 ⟨rfl, s1⟩
    go_wp2_with fail
    refine (PR.out _ s1).mono ?_
    rintro e w' ⟨rfl, hw⟩
    subst w'
    go_wp2_with fail
    refine (EL.out _ s1).mono ?_
    rintro e w2 ⟨rfl, s2⟩
    go_wp2_with fail
    refine (TE.out _ (s1.trans s2) _ _).mono ?_
    rintro e w3 ⟨rfl, l3, n3⟩
    have c4 := l3.c4
    have f4 := l3.fg 4
    have R := hid_as ((((Lft.of l3 ((Same.only (s1.trans s2) _).trans n3)).put4 0).put4 1))
    clear EL PR TE s1 s2 l3 n3
    go_wp2
    go_end0
    exact R.out
  · have hq2 : ee < pt := by omega
    rw [decide_eq_false hq]
    have hd : decide (pt ≤ ee) = false := decide_eq_false hq
    have hq := hid_as hq
    go_enter Try.func49, Try.ntmps49
    go_wp2_with fail
    refine (EL.out _ (Same.refl _)).mono ?_
    rintro e w1 ⟨rfl, s1⟩
    go_wp2_with fail
    refine (PR.out _ s1).mono ?_
    rintro e w' ⟨rfl, hw⟩
    subst w'
    go_wp2_with fail
    refine (EL.out _ s1).mono ?_
    rintro e w2 ⟨rfl, s2⟩
    go_wp2_with fail
    refine (TE.out _ (s1.trans s2) _ _).mono ?_
    rintro e w3 ⟨rfl, l3, n3⟩
    have c4 := l3.c4
    have f4 := l3.fg 4
    have R := hid_as (((Lft.of l3 ((Same.only (s1.trans s2) _).trans n3)).put4 0))
    clear EL PR TE s1 s2 l3 n3
    go_wp2
    go_end0
    exact R.out
set_option maxHeartbeats 800000 in
theorem last_c {w : World} {g a b : Nat} {c : Ca} (h : Cl w g a b c) (nx : Int) (hi : c.i.length = 2) (ho : c.o.length = 2) (hb : Bd c) :
    Calls Try.prog 70 #[.pointer (some ⟨g, 0, none⟩), .int .i64 nx] w (Lft w g a b { c with o := [b01 (decide (el (max (c.i.getD 1 0) 0) c.nw c.k1 < max (c.i.getD 1 0) 0)), el (max (c.i.getD 1 0) 0) c.nw c.k1], k2 := if el (max (c.i.getD 1 0) 0) c.nw c.k1 < max (c.i.getD 1 0) 0 then c.k2 else nx }) := by
  have PR := hid_as (fun W (k : Same w W) => preset_c (h.same k) hi)
  have EL := hid_as (fun W (k : Same w W) => elapsed_c (h.same k) hi hb.1 hb.2)
  have TE := hid_as (fun W (k : Same w W) (q : Bool) (x : Int) => tell_c (h.same k) q x ho)
  obtain ⟨pt, hpt⟩ : ∃ pt, pt = max (c.i.getD 1 0) 0 := ⟨_, rfl⟩
  rw [← hpt] at PR EL ⊢
  obtain ⟨ee, he⟩ : ∃ x, x = el pt c.nw c.k1 := ⟨_, rfl⟩
  rw [← he] at EL ⊢
  clear he hpt
  have H := hid_as h
  clear h
  by_cases hq : ee < pt
  · rw [decide_eq_true hq, if_pos hq]
    go_enter Try.func70, Try.ntmps70
    go_wp2_with fail
    refine (EL.out _ (Same.refl _)).mono ?_
    rintro e w1 ⟨rfl, s1⟩
    go_wp2_with fail
    refine (PR.out _ s1).mono ?_
    rintro e w' ⟨rfl, hw⟩
    subst w'
    go_wp2_with fail
    refine (EL.out _ s1).mono ?_
    rintro e w2 ⟨rfl, s2⟩
    go_wp2_with fail
    refine (TE.out _ (s1.trans s2) _ _).mono ?_
    rintro e w3 ⟨rfl, l3, n3⟩
    have c4 := l3.c4
    have f4 := l3.fg 4
    have R := hid_as (((Lft.of l3 ((Same.only (s1.trans s2) _).trans n3))))
    clear EL PR TE s1 s2 l3 n3
    go_wp2
    go_end0
    exact R.out
  · rw [decide_eq_false hq, if_neg hq]
    have hd : decide (ee < pt) = false := decide_eq_false hq
    have hq := hid_as hq
    go_enter Try.func70, Try.ntmps70
    go_wp2_with fail
    refine (EL.out _ (Same.refl _)).mono ?_
    rintro e w1 ⟨rfl, s1⟩
    go_wp2_with fail
    refine (PR.out _ s1).mono ?_
    rintro e w' ⟨rfl, hw⟩
    subst w'
    go_wp2_with fail
    refine (EL.out _ s1).mono ?_
    rintro e w2 ⟨rfl, s2⟩
    go_wp2_with fail
    refine (TE.out _ (s1.trans s2) _ _).mono ?_
    rintro e w3 ⟨rfl, l3, n3⟩
    have c4 := l3.c4
    have f4 := l3.fg 4
    have R := hid_as (((Lft.of l3 ((Same.only (s1.trans s2) _).trans n3)).put4 nx))
    clear EL PR TE s1 s2 l3 n3
    go_wp2
    go_end0
    exact R.out
set_option maxHeartbeats 400000 in
theorem oneMore_c (n : Int) (h : -40000 ≤ n ∧ n ≤ 40000) (w : World) : Calls Try.prog 60 #[.int .i64 n] w fun e w' => e = .returned (.int .i64 (min (n + 1) 32767)) ∧ w' = w := by
  go_enter Try.func60, Try.ntmps60
  go_wp2
  all_goals go_ret
  all_goals exact ⟨ret_int (by omega), rfl⟩
set_option maxHeartbeats 400000 in
theorem oneLess_c (n : Int) (h : -40000 ≤ n ∧ n ≤ 40000) (w : World) : Calls Try.prog 62 #[.int .i64 n] w fun e w' => e = .returned (.int .i64 (max (n - 1) (-32768))) ∧ w' = w := by
  go_enter Try.func62, Try.ntmps62
  go_wp2
  all_goals go_ret
  all_goals exact ⟨ret_int (by omega), rfl⟩
end Go.Proofs.Ytbpnaenineinmaa
