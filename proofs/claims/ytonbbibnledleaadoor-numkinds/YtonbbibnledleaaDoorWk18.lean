/- The walk of the reference kinds by words. -/
import Derived.Test.YtonbbibnledleaaDoorProg
import Derived.Test.YtonbbibnledleaaDoorPlain
import Derived.Test.YtonbbibnledleaaDoorPlain4
import Derived.Test.YtonbbibnledleaaDoorWk1
import Derived.WalkKit
import Derived.WalkSpells
import Derived.WalkLawsBesides
namespace Go.Proofs.YtonbbibnledleaaDoor
open Go.RowKit
open Num

def cells11 : Array Value := #[.string ⟨#[66, 79, 79, 76]⟩, .string ⟨#[83, 73, 78, 84]⟩, .string ⟨#[73, 78, 84]⟩, .string ⟨#[68, 73, 78, 84]⟩, .string ⟨#[85, 83, 73, 78, 84]⟩, .string ⟨#[85, 73, 78, 84]⟩, .string ⟨#[85, 68, 73, 78, 84]⟩, .string ⟨#[66, 89, 84, 69]⟩, .string ⟨#[87, 79, 82, 68]⟩, .string ⟨#[68, 87, 79, 82, 68]⟩, .string ⟨#[84, 73, 77, 69]⟩]
theorem cells11_at (k : Nat) (hk : k < 11) : cells11[k]? = some (.string (word (k + 1))) := by
  have hc : k = 0 ∨ k = 1 ∨ k = 2 ∨ k = 3 ∨ k = 4 ∨ k = 5 ∨ k = 6 ∨ k = 7 ∨ k = 8 ∨ k = 9 ∨ k = 10 := by omega
  rcases hc with rfl | rfl | rfl | rfl | rfl | rfl | rfl | rfl | rfl | rfl | rfl
  all_goals rfl
theorem names_r (w : World) : Calls Tryd.prog 39 #[] w fun e w' => e = .returned (.slice (some ⟨w.heap.size, 0, none⟩) 11 11) ∧ w' = w.alloc (.cells cells11 9) := by
  go_enter Tryd.func39, Tryd.ntmps39
  go_wp2
  go_ret
  exact ⟨rfl, rfl⟩
theorem names_cell (w : World) (k : Nat) (hk : k < 11) : (w.alloc (.cells cells11 9)).cell? ⟨w.heap.size, k, none⟩ = some (.string (word (k + 1))) := by
  rw [← cells11_at k hk]
  exact cell_of_row _ _ _ cells11 9 (0, 0) (MapKept.heap_alloc w _).1
theorem names_h (w : World) : Calls Tryd.prog 39 #[] w fun e w' => e = .returned (.slice (some ⟨w.heap.size, 0, none⟩) 11 11) ∧ Hid (∀ k, k < 11 → w'.cell? ⟨w.heap.size, k, none⟩ = some (.string (word (k + 1)))) ∧ Hid (Kept w w') :=
  (names_r w).mono fun e w' h => ⟨h.1, fun k hk => by rw [h.2]; exact names_cell w k hk, by rw [h.2]; exact (Kept.refl w).alloc _⟩
set_option maxHeartbeats 2000000 in
theorem kind_r (s : ByteArray) (w : World) : Calls Tryd.prog 21 #[.string s] w fun e w' => e = .returned (.int .i64 (kd s)) ∧ Kept w w' := by
  go_enter Tryd.func21, Tryd.ntmps21
  go_wp2_with (go_at_call 39; refine (names_h _).mono ?_; rintro e w2 ⟨rfl, HC, HK⟩)
  go_loop [4] (fun i => ∃ k : Nat, k ≤ 11 ∧ i = .int .i64 k ∧ Hid (∀ j, 1 ≤ j → j < k + 1 → ¬ s = word j)) (fun i => 11 - (intOf i).toNat)
  case atStart => exact ⟨0, by omega, rfl, fun j hj => by omega⟩
  case round =>
    obtain ⟨k, hk, rfl, hs⟩ := hrel
    by_cases hlt : k < 11
    · have ix := HC.out k hlt
      by_cases he : s = word (k + 1)
      · subst he
        go_wp2
        go_ret
        exact ⟨ret_int (by rw [kd_found _ (k + 1) (by omega) rfl]; omega), HK.out⟩
      · have he2 : ((word (k + 1)).toList == s.toList) = false := beq_eq_false_iff_ne.2 (fun q => he (text_inj q).symm)
        have he3 : Hid (∀ j, 1 ≤ j → j < k + 1 + 1 → ¬ s = word j) := fun j h1 hj q => by
          by_cases e : j = k + 1
          · subst e; exact he q
          · exact hs.out j h1 (by omega) q
        clear he
        go_wp2
        go_round
        case rel => exact ⟨k + 1, by omega, by go_num, he3⟩
        case measure => simp [intOf]; omega
    · go_wp2
      go_ret
      exact ⟨ret_int (by rw [kd_none s (fun j h1 h2 => hs.out j h1 (by omega))]), HK.out⟩
end Go.Proofs.YtonbbibnledleaaDoor
