/- The walks of the reference's Read, Cut, Power, New (stage 8). -/
import Derived.Test.YtkjbgjiddpkcpaaR1
namespace Go.Proofs.Ytkjbgjiddpkcpaa
open Go.RowKit
open Pdu
set_option maxHeartbeats 400000 in
theorem readr_c {w : World} {r q h : Nat} {s : SS} (t : Rf w r q h s) (i : Int) : Calls Try.prog 12 #[.pointer (some ⟨r, 0, none⟩), .int .i64 i] w fun e w' => (∃ v, e = .returned (.tuple #[v, .int .i64 (s.err i : Int)]) ∧ Sl w' v (u8s (s.got i))) ∧ Same w w' := by
  have c5 := t.cDead
  obtain ⟨cap, c0, hcap⟩ := t.cells
  rcases s.err_cases i with ⟨hd, he⟩ | ⟨hd, hi, he⟩ | ⟨hd, he, k, rfl, hk⟩
  · rw [hd] at c5
    have e : s.got i = [] := by unfold SS.got; rw [if_neg (by rw [he]; decide)]
    rw [he, e]
    clear t hd he e
    go_enter Try.func12, Try.ntmps12
    go_wp2
    refine bodyPost_ret (v := .tuple #[.slice none 0 0, .int .i64 82]) (by simp [results, Try.results12, go_sem]) rfl ⟨⟨_, rfl, Sl.nil _⟩, Same.refl _⟩
  · rw [hd] at c5
    have e : s.got i = [] := by unfold SS.got; rw [if_neg (by rw [he]; decide)]
    rw [he, e]
    by_cases h0 : i < 0
    · clear t hd he e hi
      go_enter Try.func12, Try.ntmps12
      go_wp2
      refine bodyPost_ret (v := .tuple #[.slice none 0 0, .int .i64 80]) (by simp [results, Try.results12, go_sem]) rfl ⟨⟨_, rfl, Sl.nil _⟩, Same.refl _⟩
    · have h1 : (s.rows.length : Int) ≤ i := by omega
      clear t hd he e hi
      go_enter Try.func12, Try.ntmps12
      go_wp2
      refine bodyPost_ret (v := .tuple #[.slice none 0 0, .int .i64 80]) (by simp [results, Try.results12, go_sem]) rfl ⟨⟨_, rfl, Sl.nil _⟩, Same.refl _⟩
  · rw [hd] at c5
    have e : s.got k = s.row k := by unfold SS.got; rw [if_pos he]
    obtain ⟨p, c, ck, hc, hr⟩ := t.cRow hk
    have HR := hid_as hr.sl
    rw [he, e]
    have h1 : ¬ (s.rows.length : Int) ≤ k := by omega
    have h2 : (k : Int) < (s.rows.length : Int) := by omega
    clear t hd he e hr
    go_enter Try.func12, Try.ntmps12
    go_wp2
    refine bodyPost_ret (v := .tuple #[.slice (some ⟨p, 0, none⟩) s.sz c, .int .i64 0]) (by simp [results, Try.results12, go_sem]) rfl ⟨⟨_, rfl, HR.out⟩, Same.refl _⟩
def SS.rcut (s : SS) (n p : Int) : SS := if s.dead = true then s else { s with lft := if n < -1 then -1 else n, pre := p }
set_option maxHeartbeats 400000 in
theorem cutr_c {w : World} {r q h : Nat} {s : SS} (t : Rf w r q h s) (n p : Int) (hn : n ≤ 9223372036854775807) : Calls Try.prog 19 #[.pointer (some ⟨r, 0, none⟩), .int .i64 n, .int .i64 p] w fun e w' => e = .returned (.tuple #[]) ∧ Rf w' r q h (s.rcut n p) ∧ Only [r, q] w w' := by
  have c5 := t.cDead
  by_cases hd : s.dead = true
  · have e : s.rcut n p = s := by unfold SS.rcut; rw [if_pos hd]
    rw [e]
    rw [hd] at c5
    have T := hid_as t
    clear t hd e
    go_enter Try.func19, Try.ntmps19
    go_wp2
    go_end0
    exact ⟨rfl, T.out, Only.refl _ _⟩
  · have e : s.rcut n p = { s with lft := if n < -1 then -1 else n, pre := p } := by unfold SS.rcut; rw [if_neg hd]
    have hd' : s.dead = false := by simpa using hd
    rw [e]
    rw [hd'] at c5
    obtain ⟨m, hm⟩ : ∃ m, m = if n < -1 then -1 else n := ⟨_, rfl⟩
    rw [← hm]
    have T := hid_as ((t.setLeft m (by rw [hm]; split <;> omega)).setPre p)
    have U := hid_as (Only.ofTurn (((Turn.refl r w).set 3 (.int .i64 m)).set 4 (.int .i64 p)) (S := [r, q]) (by simp))
    have c3 := t.cLeft
    have c4 := t.cPre
    have f3 := t.free 3
    have f4 := t.free 4
    clear t e hd hd'
    by_cases h1 : n < -1
    · rw [if_pos h1] at hm
      subst hm
      go_enter Try.func19, Try.ntmps19
      go_wp2
      go_end0
      exact ⟨rfl, T.out, U.out⟩
    · rw [if_neg h1] at hm
      subst hm
      go_enter Try.func19, Try.ntmps19
      go_wp2
      go_end0
      exact ⟨rfl, T.out, U.out⟩
def SS.rpow (s : SS) : SS := { s with dead := false, lft := -1 }
set_option maxHeartbeats 400000 in
theorem powr_c {w : World} {r q h : Nat} {s : SS} (t : Rf w r q h s) : Calls Try.prog 21 #[.pointer (some ⟨r, 0, none⟩)] w fun e w' => e = .returned (.tuple #[]) ∧ Rf w' r q h s.rpow ∧ Only [r, q] w w' := by
  have T := hid_as ((t.setDead false).setLeft (-1) (by decide))
  have U := hid_as (Only.ofTurn (((Turn.refl r w).set 5 (.bool false)).set 3 (.int .i64 (-1))) (S := [r, q]) (by simp))
  have c3 := t.cLeft
  have c5 := t.cDead
  have f3 := t.free 3
  have f5 := t.free 5
  clear t
  go_enter Try.func21, Try.ntmps21
  go_wp2
  go_end0
  exact ⟨rfl, T.out, U.out⟩
end Go.Proofs.Ytkjbgjiddpkcpaa
