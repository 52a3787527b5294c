/- What the laws' walks share (stage 9). -/
import Derived.Test.YtoiadofoclgnoaaK1
namespace Go.Proofs.Ytoiadofoclgnoaa
open Go.RowKit
open Pdu
theorem place_i (k m : Int) (h0 : 0 < m) (hm : m ≤ 1000000) (w : World) : Calls Try.prog 11 #[.int .i64 k, .int .i64 m] w fun e w' => (∃ p : Nat, (p : Int) < m ∧ e = .returned (.int .i64 p)) ∧ w' = w := by
  obtain ⟨n, rfl⟩ : ∃ n : Nat, m = n := ⟨m.toNat, by omega⟩
  refine (place_c k n (by omega) (by omega) w).mono ?_
  rintro e w' ⟨⟨p, hp, rfl⟩, rfl⟩
  exact ⟨⟨p, by omega, rfl⟩, rfl⟩
theorem new_room {z : Nat} (h1 : 128 ≤ z) : (SS.new 8 z).room = (z - 36) / 8 := by
  have hf : (SS.new 8 z).fit = true := by
    unfold SS.fit
    rw [decide_eq_true_eq]
    exact ⟨by simp [SS.new], by show 64 ≤ z; omega⟩
  unfold SS.room
  rw [if_pos hf]
  rfl
/-- A number and its twin, told alike. -/
theorem nums_told {W : World} {B B2 : Nat} {v v2 : Value} {a b : List Int} {n m : Nat} (h1 : W.ownsRow B 2 1 v n (i64s a)) (h2 : W.ownsRow B2 2 1 v2 m (i64s b)) (h9 : a.length ≤ 1000000) : Calls Try.prog 20 #[v, v2] W fun e w' => e = .returned (.bool (decide (a = b))) ∧ Same W w' := nums_c (own_sl h1) (own_sl h2) h9
theorem own64_len {W : World} {B n : Nat} {v : Value} {a : List Int} (h : W.ownsRow B 2 1 v n (i64s a)) : n = a.length := by
  have := h.1
  rw [i64s_len, Nat.mul_one] at this
  exact this.symm
/-- Who asks for another many finds none. -/
theorem fnd_other {s : SS} {n m T : Nat} {x : Nat × List Int} (hi : Ivr s n T (some x)) (hne : n ≠ m) {W : World} {B : Nat} {v : Value} {f : Int} (h : Fnd s m W B v f) : f = 2 ∧ v = .slice none 0 0 := by
  obtain ⟨t, hs⟩ := hi
  obtain ⟨i, h1, h2⟩ := hs.is
  rcases h with ⟨_, j, hj, hok, _⟩ | ⟨rfl, _, ⟨rfl, _⟩ | ⟨_, hb⟩⟩
  · have := hs.lens j hj hok.1
    rcases hok.2 with e | e
    · omega
    · omega
  · exact ⟨rfl, rfl⟩
  · exact absurd (Or.inr ⟨i, h1, by rw [h2]; exact hs.t0⟩) hb
end Go.Proofs.Ytoiadofoclgnoaa
