/- The kinds' words. -/
import Derived.Test.YtonbbibnledleabDoorPlain
namespace Go.Proofs.YtonbbibnledleabDoor
namespace Num
open Go.RowKit
/-- The kinds' words, from the empty one on. -/
def word (i : Nat) : ByteArray :=
  match i with
  | 1 => ⟨#[66, 79, 79, 76]⟩
  | 2 => ⟨#[83, 73, 78, 84]⟩
  | 3 => ⟨#[73, 78, 84]⟩
  | 4 => ⟨#[68, 73, 78, 84]⟩
  | 5 => ⟨#[85, 83, 73, 78, 84]⟩
  | 6 => ⟨#[85, 73, 78, 84]⟩
  | 7 => ⟨#[85, 68, 73, 78, 84]⟩
  | 8 => ⟨#[66, 89, 84, 69]⟩
  | 9 => ⟨#[87, 79, 82, 68]⟩
  | 10 => ⟨#[68, 87, 79, 82, 68]⟩
  | 11 => ⟨#[84, 73, 77, 69]⟩
  | _ => ⟨#[]⟩
def cells12 : Array Value := #[.string ⟨#[]⟩, .string ⟨#[66, 79, 79, 76]⟩, .string ⟨#[83, 73, 78, 84]⟩, .string ⟨#[73, 78, 84]⟩, .string ⟨#[68, 73, 78, 84]⟩, .string ⟨#[85, 83, 73, 78, 84]⟩, .string ⟨#[85, 73, 78, 84]⟩, .string ⟨#[85, 68, 73, 78, 84]⟩, .string ⟨#[66, 89, 84, 69]⟩, .string ⟨#[87, 79, 82, 68]⟩, .string ⟨#[68, 87, 79, 82, 68]⟩, .string ⟨#[84, 73, 77, 69]⟩]
/-- The table of words lies in the program's first block. -/
def NamesAt (w : World) : Prop := ∃ t fr, w.heap[0]? = some (.cells cells12 t fr)
theorem text_inj {a b : ByteArray} (h : a.toList = b.toList) : a = b := by
  rw [ByteArray.toList_eq, ByteArray.toList_eq] at h
  cases a; cases b
  exact congrArg ByteArray.mk (Array.toList_inj.1 h)
theorem ret_str {a b : ByteArray} (h : a = b) : Ending.returned (.string a) = .returned (.string b) := by rw [h]
theorem word_none {k : Int} (h : k < 1 ∨ 11 < k) : word k.toNat = ⟨#[]⟩ := by
  unfold word
  split
  all_goals first | rfl | omega
theorem NamesAt.kept {w w' : World} (h : NamesAt w) (k : Kept w w') : NamesAt w' := by
  obtain ⟨t, fr, h⟩ := h
  have hs : 0 < w.heap.size := by
    by_cases hz : 0 < w.heap.size
    · exact hz
    · rw [Array.getElem?_eq_none (by omega)] at h; cases h
  exact ⟨t, fr, (Below.block k 0 hs).trans h⟩
theorem NamesAt.cell {w : World} (h : NamesAt w) (j : Nat) : w.cell? ⟨0, j, none⟩ = cells12[j]? := by
  obtain ⟨t, fr, h⟩ := h
  exact cell_of_row w 0 j cells12 t fr h
/-- Which kind a text names. -/
def kd (s : ByteArray) : Int :=
  if s = word 1 then 1 else if s = word 2 then 2 else if s = word 3 then 3 else if s = word 4 then 4 else if s = word 5 then 5 else if s = word 6 then 6 else if s = word 7 then 7 else if s = word 8 then 8 else if s = word 9 then 9 else if s = word 10 then 10 else if s = word 11 then 11 else 0
theorem kd_found (s : ByteArray) (j : Nat) (hj : j < 12) (h : s = word j) : kd s = (j : Int) := by
  subst h
  have hc : j = 0 ∨ j = 1 ∨ j = 2 ∨ j = 3 ∨ j = 4 ∨ j = 5 ∨ j = 6 ∨ j = 7 ∨ j = 8 ∨ j = 9 ∨ j = 10 ∨ j = 11 := by omega
  rcases hc with rfl | rfl | rfl | rfl | rfl | rfl | rfl | rfl | rfl | rfl | rfl | rfl
  all_goals decide
theorem kd_none (s : ByteArray) (h : ∀ j, 1 ≤ j → j < 12 → ¬ s = word j) : kd s = 0 := by
  unfold kd
  rw [if_neg (h 1 (by decide) (by decide)), if_neg (h 2 (by decide) (by decide)), if_neg (h 3 (by decide) (by decide)), if_neg (h 4 (by decide) (by decide)), if_neg (h 5 (by decide) (by decide)), if_neg (h 6 (by decide) (by decide)), if_neg (h 7 (by decide) (by decide)), if_neg (h 8 (by decide) (by decide)), if_neg (h 9 (by decide) (by decide)), if_neg (h 10 (by decide) (by decide)), if_neg (h 11 (by decide) (by decide))]
end Num
end Go.Proofs.YtonbbibnledleabDoor
