/- What sorts of tokens there are: keywords are keywords, names aren't (stage 12). -/
import Derived.Test.YtnponognncdkcaaDoorWE
namespace Go.Proofs.YtnponognncdkcaaDoor
open Go.RowKit
open Adr Lx
/-- A word's token says whether it is a keyword. -/
def Wrd (t : Tk) : Prop := (t.tok = 1 → wrd t.text = true) ∧ (t.tok = 2 → wrd t.text = false)
theorem Wrd.other {t : Tk} (h : 3 ≤ t.tok ∨ t.tok = 0) : Wrd t := ⟨fun e => by omega, fun e => by omega⟩
theorem ltR_wrd {tok k : Nat} {n : Int} {a z : Nat} (h : 3 ≤ tok) : Wrd (ltR tok k n a z).t := by
  unfold ltR
  split
  · exact Wrd.other (Or.inr rfl)
  · split
    · exact Wrd.other (Or.inr rfl)
    · exact Wrd.other (Or.inl h)
theorem nx_wrd (l : List UInt8) : Wrd (nx l).t := by
  cases l with
  | nil => exact Wrd.other (Or.inr rfl)
  | cons c l =>
    rw [nx_cons]
    split
    · unfold wdR
      split
      · unfold tmR
        split <;> exact ltR_wrd (by omega)
      · split
        · unfold tyR
          split
          · exact Wrd.other (Or.inl (Nat.le_refl 3))
          · split
            · exact Wrd.other (Or.inl (Nat.le_refl 3))
            · split <;> exact ltR_wrd (by omega)
        · unfold plainW
          split
          · exact Wrd.other (Or.inl (Nat.le_refl 3))
          · split
            · exact Wrd.other (Or.inl (Nat.le_refl 3))
            · split
              · rename_i h; exact ⟨fun _ => h, fun e => (by cases e)⟩
              · rename_i h
                split
                · exact Wrd.other (Or.inr rfl)
                · exact ⟨fun e => (by cases e), fun _ => (by simpa using h)⟩
    · split
      · unfold unR
        split
        · exact Wrd.other (Or.inr rfl)
        · split
          · exact Wrd.other (Or.inr rfl)
          · exact Wrd.other (Or.inl (Nat.le_refl 3))
      · split
        · unfold adR
          split
          · exact Wrd.other (Or.inl (by show 3 ≤ 5; omega))
          · exact Wrd.other (Or.inr rfl)
        · split
          · exact Wrd.other (Or.inl (by show 3 ≤ 7; omega))
          · unfold sgR
            split
            · exact Wrd.other (Or.inr rfl)
            · exact Wrd.other (Or.inl (by show 3 ≤ 6; omega))
theorem scn_wrd (il : Bool) : ∀ (f : Nat) (l : List UInt8) (a : Nat) (A : List (Tk × Nat)), (∀ p ∈ A, Wrd p.1) → ∀ p ∈ (scn il f l a A).1, Wrd p.1
  | 0, _, _, A, h => h
  | f + 1, [], _, A, h => h
  | f + 1, c :: l, a, A, h => by
    rw [scn_cons]
    split
    · exact scn_wrd il f _ _ A h
    · split
      · split
        · intro p hp; cases hp
        · exact scn_wrd il f _ _ A h
      · split
        · refine scn_wrd il f _ _ _ (fun p hp => ?_)
          rcases List.mem_append.1 hp with hp | hp
          · exact h p hp
          · obtain rfl := List.mem_singleton.1 hp
            exact nx_wrd _
        · intro p hp; cases hp
theorem toks_wrd {l : List UInt8} {il : Bool} : ∀ p ∈ (toks l il).1, Wrd p.1 := by
  unfold toks
  split
  · intro p hp; cases hp
  · intro p hp
    rcases List.mem_append.1 hp with hp | hp
    · exact scn_wrd il _ _ _ [] (fun q hq => by cases hq) p hp
    · obtain rfl := List.mem_singleton.1 hp
      exact Wrd.other (Or.inr rfl)
end Go.Proofs.YtnponognncdkcaaDoor
