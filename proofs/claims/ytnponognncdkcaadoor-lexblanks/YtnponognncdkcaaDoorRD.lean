/- The reference's times, in plain mathematics: what its loop counts (stage 12). -/
import Derived.Test.YtnponognncdkcaaDoorRC
import Derived.Test.YtnponognncdkcaaDoorW8
namespace Go.Proofs.YtnponognncdkcaaDoor
open Go.RowKit
open Adr Lx
/-- Which unit stands at two signs; 5: none. -/
def unC (c d : UInt8) : Nat := if c = 100 then 0 else if c = 104 then 1 else if c = 109 then (if d = 115 then 4 else 2) else if c = 115 then 3 else 5
theorem un_cons (c d : UInt8) (l : List UInt8) : un (c :: d :: l) = unC c d := by
  unfold unC
  split
  · rename_i h; subst h; rfl
  · split
    · rename_i h; subst h; rfl
    · split
      · rename_i h; subst h
        split
        · rename_i h; subst h; rfl
        · unfold un; split <;> simp_all
      · split
        · rename_i h; subst h; rfl
        · unfold un; split <;> simp_all
theorem un_one (c : UInt8) : un [c] = unC c 0 := by
  unfold unC
  split
  · rename_i h; subst h; rfl
  · split
    · rename_i h; subst h; rfl
    · split
      · rename_i h; subst h; rfl
      · split
        · rename_i h; subst h; rfl
        · unfold un; split <;> simp_all
theorem un_chr (s : ByteArray) (p : Nat) : un (s.data.toList.drop p) = unC (chr s p) (chr s (p + 1)) := by
  by_cases h : p < s.size
  · rw [chr_drop h]
    by_cases h2 : p + 1 < s.size
    · rw [chr_drop h2, un_cons]
    · obtain ⟨e1, e2⟩ := chr_end (s := s) (k := p + 1) (by omega)
      rw [e1, e2, un_one]
  · obtain ⟨e1, e2⟩ := chr_end (s := s) (k := p) (by omega)
    obtain ⟨e3, e4⟩ := chr_end (s := s) (k := p + 1) (by omega)
    rw [e1, e2, e3]
    rfl
/-- A unit's number, from 1 on; 0: none. -/
def u1 (r : List UInt8) : Nat := if un r = 5 then 0 else un r + 1
/-- One part more, as the reference adds. -/
def nst (n : Int) (k u : Nat) : Int := min (wrap64 (n + min (wrap64 ((k : Int) * (uM u : Int))) 1099511627776)) 1099511627776
/-- The reference's loop over a time's parts: the number, the last unit's number, how many signs. -/
def rtl : Nat → List UInt8 → Int → Nat → Nat → Int × Nat × Nat
  | 0, _, n, lp, z => (n, lp, z)
  | f + 1, r, n, lp, z =>
    if hdk 10 r then
      (if u1 (r.drop (rdg 10 r 0 0).2) ≤ lp then (n, lp, z)
       else rtl f (r.drop ((rdg 10 r 0 0).2 + uz (un (r.drop (rdg 10 r 0 0).2)))) (nst n (rdg 10 r 0 0).1 (un (r.drop (rdg 10 r 0 0).2))) (u1 (r.drop (rdg 10 r 0 0).2)) (z + ((rdg 10 r 0 0).2 + uz (un (r.drop (rdg 10 r 0 0).2)))))
    else (n, lp, z)
theorem rdg_le (b : Nat) : ∀ (l : List UInt8) (n z : Nat), n ≤ 1099511627776 → (rdg b l n z).1 ≤ 1099511627776 ∧ z ≤ (rdg b l n z).2 ∧ (rdg b l n z).2 ≤ z + l.length
  | [], n, z, h => ⟨h, Nat.le_refl _, Nat.le_refl _⟩
  | c :: l, n, z, h => by
    unfold rdg
    split
    · obtain ⟨q1, q2, q3⟩ := rdg_le b l (min (b * n + (dv c).toNat) 1099511627776) (z + 1) (Nat.min_le_right _ _)
      exact ⟨q1, by omega, by rw [List.length_cons]; omega⟩
    · split
      · obtain ⟨q1, q2, q3⟩ := rdg_le b l n (z + 1) h
        exact ⟨q1, by omega, by rw [List.length_cons]; omega⟩
      · exact ⟨h, Nat.le_refl _, Nat.le_add_right _ _⟩
/-- Digits are there: at least one sign is read. -/
theorem rdg_pos {b : Nat} {l : List UInt8} (h : hdk b l = true) : 1 ≤ (rdg b l 0 0).2 := by
  cases l with
  | nil => cases h
  | cons c l =>
    have hc : okd b c = true := h
    unfold rdg
    rw [if_pos hc]
    exact (rdg_le b l _ 1 (Nat.min_le_right _ _)).2.1
theorem okd_dgt (c : UInt8) : okd 10 c = dgt c := by
  have hc := c.toNat_lt
  unfold okd dv
  cases h : dgt c
  · rw [if_neg Bool.false_ne_true]
    split
    · rename_i q; rw [decide_eq_false (p := (c.toNat : Int) - 55 < (10 : Nat)) (by simp at q; omega), Bool.and_false]
    · rfl
  · rw [if_pos rfl]
    have hd : 48 ≤ c.toNat ∧ c.toNat ≤ 57 := by unfold dgt at h; simpa using h
    rw [decide_eq_true (by omega), decide_eq_true (by omega)]
    rfl
end Go.Proofs.YtnponognncdkcaaDoor
