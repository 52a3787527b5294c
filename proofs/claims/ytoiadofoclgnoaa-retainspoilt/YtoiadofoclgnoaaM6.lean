/- Blocks with one byte spoilt, in plain mathematics (stage 9). -/
import Derived.Test.YtoiadofoclgnoaaL1
namespace Go.Proofs.Ytoiadofoclgnoaa
open Go.RowKit
open Pdu
/-- One byte of a block, spoilt. -/
def sp1 (at_ x : Nat) (row : List Nat) : List Nat := row.set at_ (xr (row.getD at_ 0) x)
theorem sp1_len (a x : Nat) (row : List Nat) : (sp1 a x row).length = row.length := List.length_set ..
theorem unp_t {l : List Nat} (h : (unp l).t ≠ 0) : same4 l ∧ gv l (l.length - 10) = bsum l := by
  unfold unp at h
  split at h
  · rename_i q
    exact ⟨q.1, q.2.1⟩
  · exact absurd rfl h
/-- A whole block that is spoilt is none, but was begun. -/
theorem sp1_whole {l : List Nat} {a x : Nat} (hB : Bytes l) (h64 : 64 ≤ l.length) (h : (unp l).t ≠ 0) (ha : a < l.length) (hx0 : x ≠ 0) (hx : x < 256) : unp (sp1 a x l) = r0 ∧ bgn (sp1 a x l) = true := by
  obtain ⟨h1, h2⟩ := unp_t h
  refine ⟨unp_spoilt hB h64 h1 h2 ha hx0 hx, ?_⟩
  obtain ⟨w0, w1, w2, w3⟩ := h1
  unfold bgn
  rw [decide_eq_true_eq]
  simp only [e0, e1, e2, e3, sp1, List.length_set, getD_set l a _ _ ha] at *
  generalize xr (l.getD a 0) x = v
  have K : ∀ i : Nat, l.getD i 0 ≠ 0 → (if a = i then 0 else 1) ≤ nz (if a = i then v else l.getD i 0) := by
    intro i hi
    by_cases e : a = i
    · rw [if_pos e]
      exact Nat.zero_le _
    · rw [if_neg e, if_neg e]
      unfold nz
      rw [if_neg hi]
      exact Nat.le_refl _
  have q0 := K 0 w0
  have q1 := K 1 (by rw [w1]; exact w0)
  have q2 := K (l.length - 2) (by rw [w2]; exact w0)
  have q3 := K (l.length - 1) (by rw [w3]; exact w0)
  generalize nz (if a = 0 then v else l.getD 0 0) = n0 at *
  generalize nz (if a = 1 then v else l.getD 1 0) = n1 at *
  generalize nz (if a = l.length - 2 then v else l.getD (l.length - 2) 0) = n2 at *
  generalize nz (if a = l.length - 1 then v else l.getD (l.length - 1) 0) = n3 at *
  clear K
  split at q0 <;> split at q1 <;> split at q2 <;> split at q3 <;> omega
/-- A block of zeros that is spoilt is none. -/
theorem sp1_zero {l : List Nat} {a x : Nat} (h : ∀ i, l.getD i 0 = 0) (ha : a < l.length) : unp (sp1 a x l) = r0 := by
  refine unp_no (fun q => ?_)
  obtain ⟨⟨q0, q1, _, _⟩, _⟩ := q
  simp only [e0, e1, sp1, getD_set l a _ _ ha, h] at q0 q1
  by_cases j0 : a = 0
  · rw [if_pos j0] at q0 q1
    rw [if_neg (by omega)] at q1
    exact q0 q1.symm
  · rw [if_neg j0] at q0
    exact q0 rfl
/-- Blocks that hold no record are zeros. -/
def Zr (s : SS) : Prop := ∀ i : Nat, i < 4 → (Rs s i).t = 0 → ∀ k, (s.row i).getD k 0 = 0
theorem Zr.kp {s s' : SS} (h : Zr s) (k : Kp s s') : Zr s' := by
  intro i hi ht
  rcases k i hi with e | e
  · rw [e]
    exact h i hi (by unfold Rs at ht ⊢; rw [e] at ht; exact ht)
  · exact absurd ht e
theorem Zr.new (nb z : Nat) (h : 4 ≤ nb) : Zr (SS.new nb z) := by
  intro i hi _ k
  have hrow : (SS.new nb z).row i = List.replicate z 0 := by
    unfold SS.row SS.new
    simp only [Int.toNat_natCast]
    rw [List.getD_eq_getElem?_getD, List.getElem?_replicate, if_pos (by omega)]
    rfl
  rw [hrow, List.getD_eq_getElem?_getD, List.getElem?_replicate]
  split <;> rfl
/-- Some blocks are spoilt, each in one byte. -/
structure Spt (s s' : SS) (a x : Nat) (P : Nat → Prop) : Prop where
  hit : ∀ i : Nat, i < 4 → P i → s'.row i = sp1 a x (s.row i)
  miss : ∀ i : Nat, i < 4 → ¬ P i → s'.row i = s.row i
  ok : s'.Ok
  sz : s'.sz = s.sz
  dead : s'.dead = false
  len : s'.rows.length = s.rows.length
theorem Spt.gone {s s' : SS} {a x : Nat} {P : Nat → Prop} (h : Spt s s' a x P) (o : s.Ok) (hf : s.fit = true) (hz : Zr s) (ha : a < s.sz) (hx0 : x ≠ 0) (hx : x < 256) {i : Nat} (hi : i < 4) (hP : P i) : Rs s' i = r0 := by
  have hf2 := fit_is hf
  have hrow := o.row (k := i) (by omega)
  show unp (s'.row i) = r0
  rw [h.hit i hi hP]
  by_cases ht : (Rs s i).t = 0
  · exact sp1_zero (hz i hi ht) (by omega)
  · exact (sp1_whole hrow.2 (by omega) ht (by omega) hx0 hx).1
/-- One block alone is spoilt: what was laid last is found all the same. -/
theorem Spt.lone {s s' : SS} {a x wh n T slot turn : Nat} {y : Nat × List Int} (h : Spt s s' a x (fun i => i = wh)) (o : s.Ok) (hf : s.fit = true) (hz : Zr s) (ha : a < s.sz) (hx0 : x ≠ 0) (hx : x < 256) (hs : Sd s n T slot turn (some y)) : Ivr s' n T (some y) := by
  obtain ⟨hi, hsl, h1, h2⟩ := hs
  have hb : ∀ i, i < 4 → i ≠ wh → Rs s' i = Rs s i := fun i h4 hne => by
    unfold Rs
    rw [h.miss i h4 hne]
  have key : ∀ i, i < 4 → Rs s' i = Rs s i ∨ Rs s' i = r0 := fun i h4 => by
    by_cases e : i = wh
    · exact Or.inr (h.gone o hf hz ha hx0 hx h4 e)
    · exact Or.inl (hb i h4 e)
  have hex : ∃ i, i < 4 ∧ Rs s' i = ⟨turn, y.1, y.2⟩ := by
    by_cases e : 2 * slot = wh
    · exact ⟨2 * slot + 1, by omega, by rw [hb _ (by omega) (by omega)]; exact h2⟩
    · exact ⟨2 * slot, by omega, by rw [hb _ (by omega) e]; exact h1⟩
  refine ⟨turn, hi.t0, hi.tT, hi.len, hex, fun i h4 => ?_, fun i h4 => ?_, fun i h4 => ?_⟩
  · rcases key i h4 with e | e
    · rw [e]; exact hi.top i h4
    · rw [e]; exact Nat.zero_le _
  · rcases key i h4 with e | e
    · rw [e]; exact hi.uniq i h4
    · rw [e]; intro q; exact absurd q.symm hi.t0
  · rcases key i h4 with e | e
    · rw [e]; exact hi.lens i h4
    · rw [e]; intro q; exact absurd rfl q
/-- All are spoilt: none is found, but something was laid. -/
theorem Spt.every1 {s s' : SS} {a x n T slot turn : Nat} {y : Nat × List Int} {P : Nat → Prop} (hP : ∀ i, P i) (h : Spt s s' a x P) (o : s.Ok) (hf : s.fit = true) (hz : Zr s) (ha : a < s.sz) (hx0 : x ≠ 0) (hx : x < 256) (hs : Sd s n T slot turn (some y)) {W : World} {B : Nat} {v : Value} {f : Int} (fn : Fnd s' n W B v f) : f = 2 ∧ v = .slice none 0 0 := by
  obtain ⟨hi, hsl, h1, h2⟩ := hs
  have hf2 := fit_is hf
  have hb : Bg s' = true := by
    have hj : 2 * slot + 1 < 4 := by omega
    have hrow := o.row (k := 2 * slot + 1) (by omega)
    have ht : (Rs s (2 * slot + 1)).t ≠ 0 := by rw [h2]; exact hi.t0
    have hw := (sp1_whole (a := a) (x := x) hrow.2 (by omega) ht (by omega) hx0 hx).2
    rw [← h.hit _ hj (hP _)] at hw
    have hc : slot = 0 ∨ slot = 1 := by omega
    unfold Bg
    show (bgn (s'.row ((1 : Nat) : Int)) || bgn (s'.row ((2 : Nat) : Int)) || bgn (s'.row ((3 : Nat) : Int))) = true
    rcases hc with rfl | rfl
    · have hw : bgn (s'.row ((1 : Nat) : Int)) = true := hw
      rw [hw]; rfl
    · have hw : bgn (s'.row ((3 : Nat) : Int)) = true := hw
      rw [hw]; simp
  rcases fn with ⟨_, j, hj, hok, _⟩ | ⟨rfl, _, ⟨rfl, _⟩ | ⟨_, hb2⟩⟩
  · have := h.gone o hf hz ha hx0 hx hj (hP j)
    exact absurd (by rw [this]; rfl) hok.1
  · exact ⟨rfl, rfl⟩
  · exact absurd (Or.inl hb) hb2
end Go.Proofs.Ytoiadofoclgnoaa
