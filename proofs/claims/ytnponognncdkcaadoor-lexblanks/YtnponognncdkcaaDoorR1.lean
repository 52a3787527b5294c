/- The reference's kinds' names and keywords (stage 12). -/
import Derived.Test.YtnponognncdkcaaDoorW4
import Derived.Test.YtnponognncdkcaaDoorWD
namespace Go.Proofs.YtnponognncdkcaaDoor
open Go.RowKit
open Adr Lx
def kcells : Array Value := #[.string ⟨#[66, 79, 79, 76]⟩, .string ⟨#[83, 73, 78, 84]⟩, .string ⟨#[73, 78, 84]⟩, .string ⟨#[68, 73, 78, 84]⟩, .string ⟨#[85, 83, 73, 78, 84]⟩, .string ⟨#[85, 73, 78, 84]⟩, .string ⟨#[85, 68, 73, 78, 84]⟩, .string ⟨#[66, 89, 84, 69]⟩, .string ⟨#[87, 79, 82, 68]⟩, .string ⟨#[68, 87, 79, 82, 68]⟩, .string ⟨#[84, 73, 77, 69]⟩]
def wcells : Array Value := #[.string ⟨#[80, 82, 79, 71, 82, 65, 77]⟩, .string ⟨#[69, 78, 68, 95, 80, 82, 79, 71, 82, 65, 77]⟩, .string ⟨#[86, 65, 82]⟩, .string ⟨#[82, 69, 84, 65, 73, 78]⟩, .string ⟨#[69, 78, 68, 95, 86, 65, 82]⟩, .string ⟨#[84, 89, 80, 69]⟩, .string ⟨#[69, 78, 68, 95, 84, 89, 80, 69]⟩, .string ⟨#[83, 84, 82, 85, 67, 84]⟩, .string ⟨#[69, 78, 68, 95, 83, 84, 82, 85, 67, 84]⟩, .string ⟨#[65, 82, 82, 65, 89]⟩, .string ⟨#[79, 70]⟩, .string ⟨#[65, 84]⟩, .string ⟨#[73, 70]⟩, .string ⟨#[84, 72, 69, 78]⟩, .string ⟨#[69, 76, 83, 73, 70]⟩, .string ⟨#[69, 76, 83, 69]⟩, .string ⟨#[69, 78, 68, 95, 73, 70]⟩, .string ⟨#[67, 65, 83, 69]⟩, .string ⟨#[69, 78, 68, 95, 67, 65, 83, 69]⟩, .string ⟨#[70, 79, 82]⟩, .string ⟨#[84, 79]⟩, .string ⟨#[66, 89]⟩, .string ⟨#[68, 79]⟩, .string ⟨#[69, 78, 68, 95, 70, 79, 82]⟩, .string ⟨#[87, 72, 73, 76, 69]⟩, .string ⟨#[69, 78, 68, 95, 87, 72, 73, 76, 69]⟩, .string ⟨#[82, 69, 80, 69, 65, 84]⟩, .string ⟨#[85, 78, 84, 73, 76]⟩, .string ⟨#[69, 78, 68, 95, 82, 69, 80, 69, 65, 84]⟩, .string ⟨#[69, 88, 73, 84]⟩, .string ⟨#[82, 69, 84, 85, 82, 78]⟩, .string ⟨#[65, 78, 68]⟩, .string ⟨#[79, 82]⟩, .string ⟨#[88, 79, 82]⟩, .string ⟨#[78, 79, 84]⟩, .string ⟨#[77, 79, 68]⟩]
def wat (k : Nat) : ByteArray := tx (words.getD k [])
theorem kcells_at (k : Nat) (h : k < 11) : kcells[k]? = some (.string (kn (k + 1))) := by
  have hc : k = 0 ∨ k = 1 ∨ k = 2 ∨ k = 3 ∨ k = 4 ∨ k = 5 ∨ k = 6 ∨ k = 7 ∨ k = 8 ∨ k = 9 ∨ k = 10 := by omega
  rcases hc with rfl | rfl | rfl | rfl | rfl | rfl | rfl | rfl | rfl | rfl | rfl <;> rfl
theorem wcells_at : ∀ (k : Nat), k < 36 → wcells[k]? = some (.string (wat k))
  | 0, _ => rfl
  | 1, _ => rfl
  | 2, _ => rfl
  | 3, _ => rfl
  | 4, _ => rfl
  | 5, _ => rfl
  | 6, _ => rfl
  | 7, _ => rfl
  | 8, _ => rfl
  | 9, _ => rfl
  | 10, _ => rfl
  | 11, _ => rfl
  | 12, _ => rfl
  | 13, _ => rfl
  | 14, _ => rfl
  | 15, _ => rfl
  | 16, _ => rfl
  | 17, _ => rfl
  | 18, _ => rfl
  | 19, _ => rfl
  | 20, _ => rfl
  | 21, _ => rfl
  | 22, _ => rfl
  | 23, _ => rfl
  | 24, _ => rfl
  | 25, _ => rfl
  | 26, _ => rfl
  | 27, _ => rfl
  | 28, _ => rfl
  | 29, _ => rfl
  | 30, _ => rfl
  | 31, _ => rfl
  | 32, _ => rfl
  | 33, _ => rfl
  | 34, _ => rfl
  | 35, _ => rfl
  | k + 36, h => by omega
theorem names_r (w : World) : Calls Tryd.prog 36 #[] w fun e w' => e = .returned (.slice (some ⟨w.heap.size, 0, none⟩) 11 11) ∧ w' = w.alloc (.cells kcells 9) := by
  go_enter Tryd.func36, Tryd.ntmps36
  go_wp2
  go_ret
  exact ⟨rfl, rfl⟩
set_option maxHeartbeats 1000000 in
theorem kind_r (s : ByteArray) (w : World) : Calls Tryd.prog 24 #[.string s] w fun e w' => e = .returned (.int .i64 (kf s.data.toList)) ∧ Below w.heap.size w w' := by
  have hB := hid_as (below_new1 w (.cells kcells 9))
  have hC : Hid (∀ k, k < 11 → (w.alloc (.cells kcells 9)).cell? ⟨w.heap.size, k, none⟩ = some (.string (kn (k + 1)))) := fun k hk => by
    rw [World.cell?_alloc_at _ _ _ _ rfl]
    exact kcells_at k hk
  have N : Hid (Calls Tryd.prog 36 #[] w fun e w' => e = .returned (.slice (some ⟨w.heap.size, 0, none⟩) 11 11) ∧ w' = w.alloc (.cells kcells 9)) := names_r w
  generalize w.alloc (.cells kcells 9) = W at *
  generalize hg : w.heap.size = g at *
  go_enter Tryd.func24, Tryd.ntmps24
  go_wp2_with (go_at_call 36; refine N.out.mono ?_; rintro e w' ⟨rfl, hw⟩; subst w')
  go_loopw [4] (fun i wr => ∃ k : Nat, k ≤ 11 ∧ i = .int .i64 k ∧ wr = W ∧ Hid (∀ j, j < k + 1 → isK s.data.toList j = false)) (fun i wr => 11 - (intOf i).toNat)
  case atStart => exact ⟨0, by omega, rfl, rfl, hid_as (fun j hj => by obtain rfl : j = 0 := by omega
                                                                       rfl)⟩
  case round =>
    obtain ⟨k, hk, rfl, hw, hn⟩ := hrel
    subst hw
    by_cases hlt : k < 11
    · have c0 := hC.out k hlt
      have hlt' : (k : Int) < 11 := by omega
      have hd : decide ((11 : Int) ≤ k) = false := decide_eq_false (by omega)
      cases hp : ((kn (k + 1)).toList == s.toList) with
      | false =>
        have hp2 := hid_as (isK_no (l := s.data.toList) (k := k + 1) (by rw [← Lib.toList_data, ← Lib.toList_data]; exact hp))
        go_wp2
        go_roundw
        case rel =>
          refine ⟨k + 1, by omega, by go_num, trivial, hid_as (fun j hj => ?_)⟩
          by_cases e : j = k + 1
          · subst e; exact hp2.out
          · exact hn.out j (by omega)
        case measure => simp [intOf]; omega
      | true =>
        have e := hid_as (kf_at (show k + 1 < 12 by omega) (isK_of (l := s.data.toList) (by omega) (by rw [← Lib.toList_data, ← Lib.toList_data]; exact hp)) hn.out)
        go_wp2
        go_ret
        exact ⟨ret_int (by rw [e.out]; rfl), hB.out⟩
    · have e := hid_as (kf_none (l := s.data.toList) (fun j hj => hn.out j (by omega)))
      go_wp2
      go_ret
      exact ⟨ret_int (by rw [e.out]; rfl), hB.out⟩
theorem words_at {l : List UInt8} {k : Nat} (hk : k < 36) (h : ((wat k).toList == l) = true) : words.contains l = true := by
  rw [← beq_iff_eq.1 h, wat, tx_toList]
  simp only [List.getD_eq_getElem?_getD]
  rw [List.getElem?_eq_getElem (show k < words.length from hk)]
  simp only [Option.getD_some]
  exact List.elem_eq_true_of_mem (List.getElem_mem _)
theorem words_none {l : List UInt8} (h : ∀ k, k < 36 → ((wat k).toList == l) = false) : words.contains l = false := by
  cases e : words.contains l with
  | false => rfl
  | true =>
    have hm : l ∈ words := by simpa using e
    obtain ⟨k, hk, hx⟩ := List.getElem_of_mem hm
    have h2 := h k hk
    rw [wat, tx_toList, List.getD_eq_getElem?_getD, List.getElem?_eq_getElem hk, Option.getD_some, hx] at h2
    simp at h2
set_option maxHeartbeats 1000000 in
theorem word_r (s : ByteArray) (w : World) : Calls Tryd.prog 12 #[.string s] w fun e w' => e = .returned (.bool (wrd s.data.toList)) ∧ Below w.heap.size w w' := by
  have hB := hid_as (below_new1 w (.cells wcells 9))
  have hC : Hid (∀ k, k < 36 → (w.alloc (.cells wcells 9)).cell? ⟨w.heap.size, k, none⟩ = some (.string (wat k))) := fun k hk => by
    rw [World.cell?_alloc_at _ _ _ _ rfl]
    exact wcells_at k hk
  have hK := hid_as (kind_r s)
  go_enter Tryd.func12, Tryd.ntmps12
  go_wp2
  rw [show (#[Value.string ⟨#[80, 82, 79, 71, 82, 65, 77]⟩, Value.string ⟨#[69, 78, 68, 95, 80, 82, 79, 71, 82, 65, 77]⟩, Value.string ⟨#[86, 65, 82]⟩, Value.string ⟨#[82, 69, 84, 65, 73, 78]⟩, Value.string ⟨#[69, 78, 68, 95, 86, 65, 82]⟩, Value.string ⟨#[84, 89, 80, 69]⟩, Value.string ⟨#[69, 78, 68, 95, 84, 89, 80, 69]⟩, Value.string ⟨#[83, 84, 82, 85, 67, 84]⟩, Value.string ⟨#[69, 78, 68, 95, 83, 84, 82, 85, 67, 84]⟩, Value.string ⟨#[65, 82, 82, 65, 89]⟩, Value.string ⟨#[79, 70]⟩, Value.string ⟨#[65, 84]⟩, Value.string ⟨#[73, 70]⟩, Value.string ⟨#[84, 72, 69, 78]⟩, Value.string ⟨#[69, 76, 83, 73, 70]⟩, Value.string ⟨#[69, 76, 83, 69]⟩, Value.string ⟨#[69, 78, 68, 95, 73, 70]⟩, Value.string ⟨#[67, 65, 83, 69]⟩, Value.string ⟨#[69, 78, 68, 95, 67, 65, 83, 69]⟩, Value.string ⟨#[70, 79, 82]⟩, Value.string ⟨#[84, 79]⟩, Value.string ⟨#[66, 89]⟩, Value.string ⟨#[68, 79]⟩, Value.string ⟨#[69, 78, 68, 95, 70, 79, 82]⟩, Value.string ⟨#[87, 72, 73, 76, 69]⟩, Value.string ⟨#[69, 78, 68, 95, 87, 72, 73, 76, 69]⟩, Value.string ⟨#[82, 69, 80, 69, 65, 84]⟩, Value.string ⟨#[85, 78, 84, 73, 76]⟩, Value.string ⟨#[69, 78, 68, 95, 82, 69, 80, 69, 65, 84]⟩, Value.string ⟨#[69, 88, 73, 84]⟩, Value.string ⟨#[82, 69, 84, 85, 82, 78]⟩, Value.string ⟨#[65, 78, 68]⟩, Value.string ⟨#[79, 82]⟩, Value.string ⟨#[88, 79, 82]⟩, Value.string ⟨#[78, 79, 84]⟩, Value.string ⟨#[77, 79, 68]⟩] : Array Value) = wcells from rfl]
  generalize w.alloc (.cells wcells 9) = W at *
  go_loopw [4] (fun i wr => ∃ k : Nat, k ≤ 36 ∧ i = .int .i64 k ∧ wr = W ∧ Hid (∀ j, j < k → ((wat j).toList == s.data.toList) = false)) (fun i wr => 36 - (intOf i).toNat)
  case atStart => exact ⟨0, by omega, rfl, rfl, hid_as (fun j hj => by omega)⟩
  case round =>
    obtain ⟨k, hk, rfl, hw, hn⟩ := hrel
    subst hw
    by_cases hlt : k < 36
    · have c0 := hC.out k hlt
      have hlt' : (k : Int) < 36 := by omega
      have hd : decide ((36 : Int) ≤ k) = false := decide_eq_false (by omega)
      cases hp : ((wat k).toList == s.toList) with
      | false =>
        have hp2 : Hid (((wat k).toList == s.data.toList) = false) := by rw [← Lib.toList_data]; exact hid_as hp
        go_wp2
        go_roundw
        case rel =>
          refine ⟨k + 1, by omega, by go_num, trivial, hid_as (fun j hj => ?_)⟩
          by_cases e : j = k
          · subst e; exact hp2.out
          · exact hn.out j (by omega)
        case measure => simp [intOf]; omega
      | true =>
        have e := hid_as (words_at (l := s.data.toList) hlt (by rw [← Lib.toList_data s]; exact hp))
        go_wp2
        go_ret
        exact ⟨ret_bool (by unfold wrd; rw [e.out]; rfl), hB.out⟩
    · have e := hid_as (words_none (l := s.data.toList) (fun j hj => hn.out j (by omega)))
      go_wp2_with (go_at_call 24; refine (hK.out _).mono ?_; rintro e w3 ⟨rfl, b3⟩; have hB3 := hid_as (below_and hB.out b3))
      go_ret
      exact ⟨ret_bool (by unfold wrd; rw [e.out, Bool.false_or, ← neg_0]; rfl), hB3.out⟩
end Go.Proofs.YtnponognncdkcaaDoor
