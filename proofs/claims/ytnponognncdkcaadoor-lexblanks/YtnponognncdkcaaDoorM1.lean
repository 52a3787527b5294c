/- Numbers of at most three digits, in plain mathematics (stage 12). -/
import Derived.Test.YtnponognncdkcaaDoorProg
import Derived.WalkKit
import Derived.WalkSpells
import Derived.WalkLawsBesides
import Derived.Lib.Strings
import Derived.Lib.Bytealg
import Derived.Lib.Walk
namespace Go.Proofs.YtnponognncdkcaaDoor
open Go.RowKit
namespace Adr
/-- A digit's sign. -/
def dgt (c : UInt8) : Bool := decide (48 ≤ c.toNat) && decide (c.toNat ≤ 57)
/-- The number that these digits write. -/
def vl : List UInt8 → Nat := List.foldl (fun n c => 10 * n + (c.toNat - 48)) 0
/-- Digits alone, one to three, with no nought ahead of others. -/
def nb (l : List UInt8) : Bool := decide (1 ≤ l.length) && decide (l.length ≤ 3) && (decide (l.length ≤ 1) || !(l.head? == some 48)) && l.all dgt
def nv (l : List UInt8) : Nat := if nb l then vl l else 0
/-- The same, as one number: -1 for none. -/
def nm (l : List UInt8) : Int := if nb l then (vl l : Int) else -1
theorem val_nil : vl [] = 0 := rfl
theorem val_snoc (l : List UInt8) (c : UInt8) : vl (l ++ [c]) = 10 * vl l + (c.toNat - 48) := by simp [vl]
theorem val_lt : ∀ (n : Nat) (l : List UInt8), l.length = n → l.all dgt = true → vl l < 10 ^ n
  | 0, l, h, _ => by
    obtain rfl := List.length_eq_zero_iff.1 h
    decide
  | n + 1, l, h, hd => by
    have hne : l ≠ [] := by intro e; subst e; simp at h
    obtain ⟨q, c, rfl⟩ : ∃ q c, l = q ++ [c] := ⟨l.dropLast, l.getLast hne, (List.dropLast_concat_getLast hne).symm⟩
    rw [List.all_append, Bool.and_eq_true] at hd
    have hq := val_lt n q (by simpa using h) hd.1
    have hc : c.toNat ≤ 57 := by have := hd.2; simp [dgt] at this; exact this.2
    rw [val_snoc, Nat.pow_succ]
    omega
theorem val_999 {l : List UInt8} (h : l.length ≤ 3) (hd : l.all dgt = true) : vl l < 1000 := by
  have := val_lt l.length l rfl hd
  have h2 : 10 ^ l.length ≤ 10 ^ 3 := Nat.pow_le_pow_right (by decide) h
  omega
theorem nb_0 {l : List UInt8} (h : l = []) : nb l = false := by subst h; rfl
theorem nb_4 {l : List UInt8} (h : 3 < l.length) : nb l = false := by unfold nb; rw [decide_eq_false (p := l.length ≤ 3) (by omega)]; simp
theorem nb_nought {l : List UInt8} (h : 1 < l.length) (h0 : l.head? = some 48) : nb l = false := by unfold nb; rw [decide_eq_false (p := l.length ≤ 1) (by omega), h0]; simp
theorem nb_odd {l : List UInt8} (h : l.all dgt = false) : nb l = false := by unfold nb; rw [h]; simp
theorem nb_yes {l : List UInt8} (h1 : 1 ≤ l.length) (h3 : l.length ≤ 3) (h0 : l.length ≤ 1 ∨ ¬ l.head? = some 48) (hd : l.all dgt = true) : nb l = true := by
  unfold nb
  rw [decide_eq_true h1, decide_eq_true h3, hd]
  rcases h0 with h0 | h0
  · rw [decide_eq_true h0]; rfl
  · rw [show (l.head? == some 48) = false from beq_eq_false_iff_ne.2 h0]; simp
theorem nb_len {l : List UInt8} (h : nb l = true) : 1 ≤ l.length ∧ l.length ≤ 3 ∧ l.all dgt = true := by
  unfold nb at h
  simp only [Bool.and_eq_true, decide_eq_true_eq] at h
  exact ⟨h.1.1.1, h.1.1.2, h.2⟩
theorem nv_lt (l : List UInt8) : nv l < 1000 := by
  unfold nv
  split
  · rename_i h; obtain ⟨_, h3, hd⟩ := nb_len h; exact val_999 h3 hd
  · decide
theorem nv_no {l : List UInt8} (h : nb l = false) : nv l = 0 := by unfold nv; rw [h]; rfl
theorem nv_yes {l : List UInt8} (h : nb l = true) : nv l = vl l := by unfold nv; rw [h]; rfl
theorem nm_no {l : List UInt8} (h : nb l = false) : nm l = -1 := by unfold nm; rw [h]; rfl
theorem nm_yes {l : List UInt8} (h : nb l = true) : nm l = nv l := by unfold nm nv; rw [h]; rfl
theorem take_at {l : List UInt8} {k : Nat} (h : k < l.length) : l.take (k + 1) = l.take k ++ [l[k]] := by rw [List.take_add_one, List.getElem?_eq_getElem h]; rfl
theorem all_at {l : List UInt8} {k : Nat} (h : k < l.length) (hd : (l.take k).all dgt = true) (hc : dgt l[k] = true) : (l.take (k + 1)).all dgt = true := by rw [take_at h, List.all_append, hd]; simp [hc]
theorem all_odd {l : List UInt8} {k : Nat} (h : k < l.length) (hc : dgt l[k] = false) : l.all dgt = false := by
  cases e : l.all dgt with
  | false => rfl
  | true =>
    have := List.all_eq_true.1 e l[k] (List.getElem_mem h)
    rw [hc] at this
    cases this
theorem val_at {l : List UInt8} {k : Nat} (h : k < l.length) : vl (l.take (k + 1)) = 10 * vl (l.take k) + (l[k].toNat - 48) := by rw [take_at h, val_snoc]
end Adr
end Go.Proofs.YtnponognncdkcaaDoor
