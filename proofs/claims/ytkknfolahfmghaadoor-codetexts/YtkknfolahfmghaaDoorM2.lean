/- Bits of words of sixty-four; a meeting turned (stage 20). -/
import Derived.Test.YtkknfolahfmghaaDoorW1
namespace Go.Proofs.YtkknfolahfmghaaDoor
open Go.RowKit
open Fb Cod
theorem pow_wrap {r : Nat} (h : r < 64) : IntKind.u64.wrap (2 ^ r) = ((2 ^ r : Nat) : Int) := by
  have h1 : 2 ^ r < 2 ^ 64 := Nat.pow_lt_pow_right (by decide) h
  have e : (2 : Int) ^ r = ((2 ^ r : Nat) : Int) := by simp
  rw [e]
  generalize 2 ^ r = P at *
  simp only [IntKind.wrap, IntKind.bits, IntKind.signed]
  simp
  omega
theorem pow_small {r : Nat} (h : r < 64) : 2 ^ r < 18446744073709551616 := by
  have h1 : 2 ^ r < 2 ^ 64 := Nat.pow_lt_pow_right (by decide) h
  omega
theorem u64_is {a : Nat} (h : a < 18446744073709551616) : IntKind.u64.wrap (a : Int) = (a : Int) := by
  simp only [IntKind.wrap, IntKind.bits, IntKind.signed]
  simp
  omega
theorem and_64 {a b : Nat} (ha : a < 18446744073709551616) (hb : b < 18446744073709551616) : bits .and .u64 (a : Int) (b : Int) = ((a &&& b : Nat) : Int) := by
  show IntKind.u64.wrap ((BitVec.ofInt 64 (a : Int) &&& BitVec.ofInt 64 (b : Int)).toNat : Int) = _
  have h : (BitVec.ofInt 64 (a : Int) &&& BitVec.ofInt 64 (b : Int)).toNat = a &&& b := by
    rw [BitVec.toNat_and, BitVec.ofInt_natCast, BitVec.toNat_ofNat, BitVec.ofInt_natCast, BitVec.toNat_ofNat, Nat.mod_eq_of_lt ha, Nat.mod_eq_of_lt hb]
  have hlt : a &&& b < 2 ^ 64 := Nat.and_lt_two_pow a hb
  rw [h, u64_is (by omega)]
theorem or_64 {a b : Nat} (ha : a < 18446744073709551616) (hb : b < 18446744073709551616) : bits .or .u64 (a : Int) (b : Int) = ((a ||| b : Nat) : Int) := by
  show IntKind.u64.wrap ((BitVec.ofInt 64 (a : Int) ||| BitVec.ofInt 64 (b : Int)).toNat : Int) = _
  have h : (BitVec.ofInt 64 (a : Int) ||| BitVec.ofInt 64 (b : Int)).toNat = a ||| b := by
    rw [BitVec.toNat_or, BitVec.ofInt_natCast, BitVec.toNat_ofNat, BitVec.ofInt_natCast, BitVec.toNat_ofNat, Nat.mod_eq_of_lt ha, Nat.mod_eq_of_lt hb]
  have hlt : a ||| b < 2 ^ 64 := Nat.or_lt_two_pow ha hb
  rw [h, u64_is (by omega)]
theorem and_pow (a r : Nat) : (a &&& 2 ^ r = 0) ↔ a.testBit r = false := by
  constructor
  · intro h
    have := congrArg (fun n => n.testBit r) h
    simpa [Nat.testBit_and, Nat.testBit_two_pow] using this
  · intro h
    apply Nat.eq_of_testBit_eq
    intro j
    rw [Nat.testBit_and, Nat.testBit_two_pow, Nat.zero_testBit]
    by_cases hj : r = j
    · subst hj; rw [h]; rfl
    · rw [decide_eq_false hj, Bool.and_false]
theorem bit_yes {a r : Nat} (ha : a < 18446744073709551616) (hr : r < 64) (h : a.testBit r = true) : (bits .and .u64 (a : Int) ((2 ^ r : Nat) : Int) != 0) = true := by
  rw [and_64 ha (pow_small hr), bne_iff_ne]
  intro e
  have e' : a &&& 2 ^ r = 0 := by omega
  rw [(and_pow a r).1 e'] at h
  cases h
theorem bit_no {a r : Nat} (ha : a < 18446744073709551616) (hr : r < 64) (h : a.testBit r = false) : (bits .and .u64 (a : Int) ((2 ^ r : Nat) : Int) != 0) = false := by
  rw [and_64 ha (pow_small hr), (and_pow a r).2 h]
  rfl
theorem or_small {a r : Nat} (ha : a < 18446744073709551616) (hr : r < 64) : a ||| 2 ^ r < 18446744073709551616 := by
  have : a ||| 2 ^ r < 2 ^ 64 := Nat.or_lt_two_pow ha (by have := pow_small hr; omega)
  omega
theorem or_bit (a r j : Nat) : (a ||| 2 ^ r).testBit j = true ↔ a.testBit j = true ∨ r = j := by
  rw [Nat.testBit_or, Nat.testBit_two_pow, Bool.or_eq_true, decide_eq_true_iff]
/-- One word of a meeting, set. -/
def usb (u : Nat → Nat) (q v : Nat) : Nat → Nat := fun j => if j = q then v else u j
theorem Meet.add {S : List (Nat × Nat)} {wr wr' i f d q r : Nat} {u : Nat → Nat} (h : Meet S wr i f u) (hd : d ≤ 256) (hq : d = q * 64 + r) (hr : r < 64) (hl : wr' ≤ wr) (hw : d ≠ f → wr' ≤ i) : Meet (S ++ [(i, d)]) wr' i f (usb u q (u q ||| 2 ^ r)) where
  f6 := h.f6
  fm := List.mem_append.2 (Or.inl h.fm)
  sm := fun j => by
    unfold usb
    split
    · exact or_small (h.sm q) hr
    · exact h.sm j
  bit := fun e he => by
    rw [List.mem_append, List.mem_singleton, Prod.mk.injEq, ← h.bit e he]
    unfold usb
    by_cases hj : e / 64 = q
    · rw [if_pos hj, hj, or_bit]
      have : (r = e % 64) ↔ (i = i ∧ e = d) := ⟨fun k => ⟨rfl, by omega⟩, fun k => by omega⟩
      rw [this]
    · rw [if_neg hj]
      exact ⟨Or.inl, fun k => k.elim id (fun k => absurd (show e / 64 = q by omega) hj)⟩
  two := fun e he hne => by
    rcases List.mem_append.1 he with he | he
    · exact Nat.le_trans hl (h.two e he hne)
    · simp at he; subst he; exact hw hne
theorem Meet.new {S : List (Nat × Nat)} {wr i d q r : Nat} (h : ∀ e, (i, e) ∉ S) (hd : d ≤ 256) (hq : d = q * 64 + r) (hr : r < 64) : Meet (S ++ [(i, d)]) wr i d (usb (fun _ => 0) q (0 ||| 2 ^ r)) where
  f6 := hd
  fm := List.mem_append.2 (Or.inr (by simp))
  sm := fun j => by
    unfold usb
    split
    · exact or_small (by decide) hr
    · exact (by decide : (0 : Nat) < 18446744073709551616)
  bit := fun e he => by
    rw [List.mem_append, List.mem_singleton, Prod.mk.injEq]
    unfold usb
    by_cases hj : e / 64 = q
    · rw [if_pos hj, or_bit]
      have : (r = e % 64) ↔ (i = i ∧ e = d) := ⟨fun k => ⟨rfl, by omega⟩, fun k => by omega⟩
      rw [this]
      simp [h]
    · rw [if_neg hj]
      refine ⟨fun k => ?_, fun k => k.elim (fun k => absurd k (h e)) (fun k => absurd (show e / 64 = q by omega) hj)⟩
      simp at k
  two := fun e he hne => by
    rcases List.mem_append.1 he with he | he
    · exact absurd he (h e)
    · simp at he; exact absurd he hne
theorem Meet.other {S : List (Nat × Nat)} {wr wr' j i f d : Nat} {u : Nat → Nat} (h : Meet S wr j f u) (hne : j ≠ i) (hl : wr' ≤ wr) : Meet (S ++ [(i, d)]) wr' j f u where
  f6 := h.f6
  fm := List.mem_append.2 (Or.inl h.fm)
  sm := h.sm
  bit := fun e he => by
    rw [List.mem_append, List.mem_singleton, Prod.mk.injEq, ← h.bit e he]
    simp [hne]
  two := fun e he hn => by
    rcases List.mem_append.1 he with he | he
    · exact Nat.le_trans hl (h.two e he hn)
    · simp at he; exact absurd he.1 hne
theorem Met.put {F : Nat → Option Value} {S : List (Nat × Nat)} {wr wr' i f d : Nat} {u : Nat → Nat} (h : Met F S wr) (hl : wr' ≤ wr) (hm : Meet (S ++ [(i, d)]) wr' i f u) : Met (upd F i (mv f u)) (S ++ [(i, d)]) wr' := by
  intro j
  by_cases hj : j = i
  · subst hj
    exact Or.inr ⟨f, u, by simp [upd], hm⟩
  · rcases h j with ⟨h1, h2⟩ | ⟨f', u', h1, h2⟩
    · refine Or.inl ⟨by simp [upd, hj, h1], fun e he => ?_⟩
      rcases List.mem_append.1 he with he | he
      · exact h2 e he
      · simp at he; exact hj he.1
    · exact Or.inr ⟨f', u', by simp [upd, hj, h1], h2.other hj hl⟩
/-- A meeting's row, a word of it set. -/
def mrow (f : Nat) (u : Nat → Nat) : List Value := [.int .i64 (f : Int), .int .u64 (u 0 : Nat), .int .u64 (u 1 : Nat), .int .u64 (u 2 : Nat), .int .u64 (u 3 : Nat), .int .u64 (u 4 : Nat)]
theorem mrow_set (f : Nat) (u : Nat → Nat) (q v : Nat) (h : q < 5) : (mrow f u).set (1 + q) (.int .u64 (v : Int)) = mrow f (usb u q v) := by
  match q, h with
  | 0, _ => rfl
  | 1, _ => rfl
  | 2, _ => rfl
  | 3, _ => rfl
  | 4, _ => rfl
theorem mrow_at (f : Nat) (u : Nat → Nat) (q : Nat) (h : q < 5) : (mrow f u)[1 + q]? = some (.int .u64 (u q : Nat)) := by
  match q, h with
  | 0, _ => rfl
  | 1, _ => rfl
  | 2, _ => rfl
  | 3, _ => rfl
  | 4, _ => rfl
end Go.Proofs.YtkknfolahfmghaaDoor
