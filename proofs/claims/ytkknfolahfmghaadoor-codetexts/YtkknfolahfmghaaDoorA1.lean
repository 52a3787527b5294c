/- What is right by itself; the walks of the small functions, of isArray (stage 20). -/
import Derived.Test.YtkknfolahfmghaaDoorW5
namespace Go.Proofs.YtkknfolahfmghaaDoor
open Go.RowKit
open Fb Cod
namespace Cod
def shn (s : ByteArray) : Bool := s.toList == [83, 72, 76] || s.toList == [83, 72, 82] || s.toList == [82, 79, 76] || s.toList == [82, 79, 82]
def aris (K : List Int) (x : Ins) : Bool := decide (1 ≤ x.b) && decide (x.b ≤ 256) && decide (0 ≤ x.a) && decide (x.a ≤ (K.length : Int) - x.b) && ((K.drop x.a.toNat).take x.b.toNat).all (fun k => k == K.getD x.a.toNat 0) && decide (-2147483648 ≤ x.c) && decide (x.c ≤ 2147483648 - x.b)
def pk (k : Nat) : List Int := (pI k ++ pO k).map (·.2) ++ [4, 4, 4]
def blkAt (K : List Int) (x : Ins) (k : Nat) : Bool := decide (0 ≤ x.a) && decide (x.a ≤ (K.length : Int) - ((pk k).length : Int)) && decide ((K.drop x.a.toNat).take (pk k).length = pk k)
def blk (K : List Int) (x : Ins) : Bool := (List.range 10).any fun k => x.name.toList == nml k && blkAt K x k
def rgt (K : List Int) (n : Nat) (x : Ins) : Bool :=
  if x.op = 1 ∨ x.op = 8 then scal x.a
  else if x.op = 2 ∨ x.op = 3 then decide (0 ≤ x.a) && decide (x.a ≤ (K.length : Int) - 1)
  else if x.op = 4 ∨ x.op = 5 ∨ x.op = 6 then aris K x
  else if x.op = 7 ∨ x.op = 12 then sgn x.a
  else if x.op = 9 then scal x.a && decide (5 ≤ x.b) && decide (x.b ≤ 18)
  else if x.op = 10 then scal x.a && scal x.b
  else if x.op = 11 then bitk x.a && shn x.name
  else if x.op = 18 ∨ x.op = 19 ∨ x.op = 20 then decide (0 ≤ x.a) && decide (x.a < (n : Int))
  else if x.op = 22 then blk K x
  else if x.op = 24 then decide (0 ≤ x.a) && decide (x.a < 256)
  else decide (1 ≤ x.op) && decide (x.op ≤ 24)
def whole (K : List Int) (n : Nat) : Bool := K.all scal && decide (K.length ≤ 4096) && decide (0 < n) && decide (n ≤ 32768)
/-- The first instruction that is wrong by itself. -/
def alone (K : List Int) (L : List Ins) : Option Nat := if whole K L.length then L.findIdx? (fun x => !rgt K L.length x) else some 0
theorem rgt_ok {K : List Int} {n : Nat} {x : Ins} (h : rgt K n x = true) : OkI n x := by
  unfold rgt at h
  by_cases h1 : x.op = 1 ∨ x.op = 8
  · exact ⟨by omega, by omega, fun e => by omega, fun e => by rcases e with e | e | e <;> omega⟩
  rw [if_neg h1] at h
  by_cases h2 : x.op = 2 ∨ x.op = 3
  · exact ⟨by omega, by omega, fun e => by omega, fun e => by rcases e with e | e | e <;> omega⟩
  rw [if_neg h2] at h
  by_cases h3 : x.op = 4 ∨ x.op = 5 ∨ x.op = 6
  · exact ⟨by omega, by omega, fun e => by omega, fun e => by rcases e with e | e | e <;> omega⟩
  rw [if_neg h3] at h
  by_cases h4 : x.op = 7 ∨ x.op = 12
  · exact ⟨by omega, by omega, fun e => by omega, fun e => by rcases e with e | e | e <;> omega⟩
  rw [if_neg h4] at h
  by_cases h5 : x.op = 9
  · exact ⟨by omega, by omega, fun e => by omega, fun e => by rcases e with e | e | e <;> omega⟩
  rw [if_neg h5] at h
  by_cases h6 : x.op = 10
  · exact ⟨by omega, by omega, fun e => by omega, fun e => by rcases e with e | e | e <;> omega⟩
  rw [if_neg h6] at h
  by_cases h7 : x.op = 11
  · exact ⟨by omega, by omega, fun e => by omega, fun e => by rcases e with e | e | e <;> omega⟩
  rw [if_neg h7] at h
  by_cases h8 : x.op = 18 ∨ x.op = 19 ∨ x.op = 20
  · rw [if_pos h8, Bool.and_eq_true, decide_eq_true_iff, decide_eq_true_iff] at h
    exact ⟨by omega, by omega, fun e => by omega, fun _ => h⟩
  rw [if_neg h8] at h
  by_cases h9 : x.op = 22
  · exact ⟨by omega, by omega, fun e => by omega, fun e => by rcases e with e | e | e <;> omega⟩
  rw [if_neg h9] at h
  by_cases h10 : x.op = 24
  · rw [if_pos h10, Bool.and_eq_true, decide_eq_true_iff, decide_eq_true_iff] at h
    exact ⟨by omega, by omega, fun _ => h, fun e => by rcases e with e | e | e <;> omega⟩
  rw [if_neg h10, Bool.and_eq_true, decide_eq_true_iff, decide_eq_true_iff] at h
  exact ⟨h.1, h.2, fun e => absurd e h10, fun e => absurd e h8⟩
end Cod
theorem isShift_c (s : ByteArray) (w : World) : Calls Tryd.prog 70 #[.string s] w fun e w' => e = .returned (.bool (shn s)) ∧ w' = w := by
  unfold shn
  cases h1 : s.toList == [83, 72, 76] with
  | true =>
    go_enter Tryd.func70, Tryd.ntmps70
    go_wp2
    go_ret
    exact ⟨rfl, rfl⟩
  | false =>
    cases h2 : s.toList == [83, 72, 82] with
    | true =>
      go_enter Tryd.func70, Tryd.ntmps70
      go_wp2
      go_ret
      exact ⟨rfl, rfl⟩
    | false =>
      cases h3 : s.toList == [82, 79, 76] with
      | true =>
        go_enter Tryd.func70, Tryd.ntmps70
        go_wp2
        go_ret
        exact ⟨rfl, rfl⟩
      | false =>
        cases h4 : s.toList == [82, 79, 82] with
        | true =>
          go_enter Tryd.func70, Tryd.ntmps70
          go_wp2
          go_ret
          exact ⟨rfl, rfl⟩
        | false =>
          go_enter Tryd.func70, Tryd.ntmps70
          go_wp2
          go_ret
          exact ⟨rfl, rfl⟩
theorem isOp_c (op : Int) (w : World) : Calls Tryd.prog 49 #[.int .i64 op] w fun e w' => e = .returned (.bool (decide (1 ≤ op) && decide (op ≤ 24))) ∧ w' = w := by
  by_cases h1 : 1 ≤ op
  · by_cases h2 : op ≤ 24
    · have H : Hid ((decide (1 ≤ op) && decide (op ≤ 24)) = true) := by rw [decide_eq_true h1, decide_eq_true h2]; rfl
      have g1 : (0 : Int) < op := by omega
      have g2 : op < 25 := by omega
      clear h1 h2
      go_enter Tryd.func49, Tryd.ntmps49
      go_wp2
      go_ret
      exact ⟨ret_bool H.out.symm, rfl⟩
    · have H : Hid ((decide (1 ≤ op) && decide (op ≤ 24)) = false) := by rw [decide_eq_true h1, decide_eq_false h2]; rfl
      have g1 : (0 : Int) < op := by omega
      have g2 : ¬ op < 25 := by omega
      clear h1 h2
      go_enter Tryd.func49, Tryd.ntmps49
      go_wp2
      go_ret
      exact ⟨ret_bool H.out.symm, rfl⟩
  · have H : Hid ((decide (1 ≤ op) && decide (op ≤ 24)) = false) := by rw [decide_eq_false h1]; rfl
    have g1 : ¬ (0 : Int) < op := by omega
    clear h1
    go_enter Tryd.func49, Tryd.ntmps49
    go_wp2
    go_ret
    exact ⟨ret_bool H.out.symm, rfl⟩
/-- An error at a place. -/
theorem wrong_c (k : Nat) (w : World) : Calls Tryd.prog 46 #[.int .i64 (k : Int)] w fun e w' => e = .returned (.iface 52 (.pointer (some ⟨w.heap.size, 0, none⟩))) ∧ w' = w.alloc (.cells #[.int .i64 (k : Int), .int .i64 200] 57) := by
  go_enter Tryd.func46, Tryd.ntmps46
  go_wp2
  go_ret
  exact ⟨rfl, rfl⟩
end Go.Proofs.YtkknfolahfmghaaDoor
