/- A store that a law holds (stage 9). -/
import Derived.Test.YtoiadofoclgnoaaS5
namespace Go.Proofs.Ytoiadofoclgnoaa
open Go.RowKit
open Pdu
structure Hs (w W : World) (g h : Nat) (s : SS) : Prop where
  st : St W g h s
  k : Below w.heap.size w W
  g0 : w.heap.size ≤ g
  h0 : w.heap.size ≤ h
theorem Hs.below {w W W' : World} {g h : Nat} {s : SS} (I : Hs w W g h s) (b : Below W.heap.size W W') : Hs w W' g h s := ⟨I.st.below b, below_and I.k b, I.g0, I.h0⟩
theorem Hs.mems {w W : World} {g h : Nat} {s : SS} (I : Hs w W g h s) : ∀ j ∈ [g, h], w.heap.size ≤ j := by
  intro j hj
  have h1 := I.g0
  have h2 := I.h0
  simp only [List.mem_cons, List.not_mem_nil, or_false] at hj
  rcases hj with rfl | rfl <;> assumption
theorem Hs.nxt {w W W' : World} {g h : Nat} {s s' : SS} (I : Hs w W g h s) (t : St W' g h s') (o : Only [g, h] W W') : Hs w W' g h s' := ⟨t, I.k.trans (o.below I.mems I.k.size), I.g0, I.h0⟩
theorem own_from {W : World} {B n c : Nat} {ao : Option Addr} {vs : List Value} (o : W.ownsRow B 5 1 (.slice ao n c) n vs) : ∀ a, ao = some a → B ≤ a.block := fun a ha => (o.lt a.block (by rw [ha]; rfl)).1
theorem new_h {nb sz : Nat} {b z : Int} {w W : World} (k : Below w.heap.size w W) (hb : (b < 1 ∧ (nb : Int) = 1) ∨ (64 < b ∧ (nb : Int) = 64) ∨ (1 ≤ b ∧ b ≤ 64 ∧ (nb : Int) = b)) (hz : (z < 16 ∧ (sz : Int) = 16) ∨ (4096 < z ∧ (sz : Int) = 4096) ∨ (16 ≤ z ∧ z ≤ 4096 ∧ (sz : Int) = z)) :
    Calls Try.prog 25 #[.int .i64 b, .int .i64 z] W fun e W' => ∃ g h, e = .returned (.pointer (some ⟨g, 0, none⟩)) ∧ Hs w W' g h (SS.new nb sz) := by
  refine (newb_c nb sz b z W hb hz).mono ?_
  rintro e W' ⟨rfl, s, b1, _⟩
  exact ⟨_, _, rfl, s, below_and k b1, by have := k.size; omega, k.size⟩
theorem Hs.wrt {w W : World} {g h B : Nat} {s : SS} {v : Value} {bs : List Nat} (I : Hs w W g h s) (i : Int) (o : W.ownsRow B 5 1 v bs.length (u8s bs)) (hg : g < B) (hh : h < B) (hB : Bytes bs) (hn : s.n ≤ 1000000) :
    Calls Try.prog 48 #[.pointer (some ⟨g, 0, none⟩), .int .i64 i, v] W fun e W' => e = .returned (.int .i64 (s.errW i bs.length : Int)) ∧ Hs w W' g h (s.wr i bs) ∧ Only [g, h] W W' := by
  obtain ⟨ao, c, rfl⟩ := (own_sl o).shape
  rw [u8s_len] at o ⊢
  refine (writeb_c I.st i (own_sl o) rfl hB ?_ hn).mono ?_
  · intro _ a ha hm
    have := own_from o a ha
    simp only [List.mem_cons, List.not_mem_nil, or_false] at hm
    omega
  · rintro e W' ⟨rfl, t, k⟩
    exact ⟨rfl, I.nxt t k, k⟩
theorem Hs.read {w W : World} {g h : Nat} {s : SS} (I : Hs w W g h s) (i : Int) : Calls Try.prog 40 #[.pointer (some ⟨g, 0, none⟩), .int .i64 i] W fun e W' => ∃ v, e = .returned (.tuple #[v, .int .i64 (s.err i : Int)]) ∧ W'.ownsRow W.heap.size 5 1 v (s.got i).length (u8s (s.got i)) ∧ Hs w W' g h s ∧ Below W.heap.size W W' := by
  refine (read_c I.st i).mono ?_
  rintro e W' ⟨v, rfl, o, k⟩
  exact ⟨v, rfl, o, I.below k, k⟩
theorem Hs.cut {w W : World} {g h : Nat} {s : SS} (I : Hs w W g h s) (n p : Int) (hn : n ≤ 9223372036854775807) : Calls Try.prog 18 #[.pointer (some ⟨g, 0, none⟩), .int .i64 n, .int .i64 p] W fun e W' => e = .returned (.tuple #[]) ∧ Hs w W' g h (s.cut n p) ∧ Only [g, h] W W' := by
  refine (cutb_c I.st n p hn).mono ?_
  rintro e W' ⟨rfl, t, k⟩
  exact ⟨rfl, I.nxt t (Only.ofTurn k (by simp)), Only.ofTurn k (by simp)⟩
theorem Hs.pwr2 {w W : World} {g h : Nat} {s : SS} (I : Hs w W g h s) : Calls Try.prog 19 #[.pointer (some ⟨g, 0, none⟩)] W fun e W' => e = .returned (.tuple #[]) ∧ Hs w W' g h s.pwr ∧ Only [g, h] W W' := by
  refine (powb_c I.st).mono ?_
  rintro e W' ⟨rfl, t, k⟩
  exact ⟨rfl, I.nxt t (Only.ofTurn k (by simp)), Only.ofTurn k (by simp)⟩
theorem Hs.spoil {w W : World} {g h x : Nat} {s : SS} (I : Hs w W g h s) (i a : Int) : Calls Try.prog 24 #[.pointer (some ⟨g, 0, none⟩), .int .i64 i, .int .i64 a, .int .u8 (x : Int)] W fun e W' => e = .returned (.tuple #[]) ∧ Hs w W' g h (s.spl i a x) ∧ Only [g, h] W W' := by
  refine (spoilb_c I.st i a).mono ?_
  rintro e W' ⟨rfl, t, k⟩
  exact ⟨rfl, I.nxt t k, k⟩
theorem Hs.cpy {w W : World} {g h : Nat} {s : SS} (I : Hs w W g h s) : Calls Try.prog 22 #[.pointer (some ⟨g, 0, none⟩)] W fun e W' => ∃ g' h', e = .returned (.pointer (some ⟨g', 0, none⟩)) ∧ Hs w W' g' h' s ∧ Below W.heap.size W W' ∧ W.heap.size ≤ g' ∧ W.heap.size ≤ h' := by
  refine (copyb_c I.st).mono ?_
  rintro e W' ⟨g', h', rfl, t, k, k1, k2⟩
  exact ⟨g', h', rfl, ⟨t, below_and I.k k, Nat.le_trans I.k.size k1, Nat.le_trans I.k.size k2⟩, k, k1, k2⟩
theorem Hs.dead {w W : World} {g h : Nat} {s : SS} (I : Hs w W g h s) : Calls Try.prog 28 #[.pointer (some ⟨g, 0, none⟩)] W fun e W' => e = .returned (.bool s.dead) ∧ W' = W := dead_c I.st
theorem Hs.size {w W : World} {g h : Nat} {s : SS} (I : Hs w W g h s) : Calls Try.prog 21 #[.pointer (some ⟨g, 0, none⟩)] W fun e W' => e = .returned (.int .i64 (s.sz : Int)) ∧ W' = W := size_c I.st
theorem Hs.blocks {w W : World} {g h : Nat} {s : SS} (I : Hs w W g h s) : Calls Try.prog 23 #[.pointer (some ⟨g, 0, none⟩)] W fun e W' => e = .returned (.int .i64 (s.rows.length : Int)) ∧ Hs w W' g h s ∧ Same W W' := by
  refine (blocks_c I.st).mono ?_
  rintro e W' ⟨rfl, k⟩
  exact ⟨rfl, I.below k.below, k⟩
theorem Hs.lt {w W : World} {g h : Nat} {s : SS} (I : Hs w W g h s) : g < W.heap.size ∧ h < W.heap.size := ⟨I.st.lt, I.st.lth⟩
end Go.Proofs.Ytoiadofoclgnoaa
