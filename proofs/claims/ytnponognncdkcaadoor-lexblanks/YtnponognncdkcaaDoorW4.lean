/- Which kind a name is; keywords (stage 12). -/
import Derived.Test.YtnponognncdkcaaDoorT1
import Derived.Test.YtnponognncdkcaaDoorW3
namespace Go.Proofs.YtnponognncdkcaaDoor
open Go.RowKit
open Adr Lx
set_option maxHeartbeats 1000000 in
theorem kindNamed_c (s : ByteArray) (w : World) (hT : Tabs w) : Calls Tryd.prog 23 #[.string s] w fun e w' => e = .returned (.int .i64 (kf s.data.toList)) ∧ w' = w := by
  have hK := hid_as (hT.kind)
  go_enter Tryd.func23, Tryd.ntmps23
  go_wp2
  go_loopw [3] (fun i wr => ∃ k : Nat, 1 ≤ k ∧ k ≤ 12 ∧ i = .int .i64 k ∧ wr = w ∧ Hid (∀ j, j < k → isK s.data.toList j = false)) (fun i wr => 12 - (intOf i).toNat)
  case atStart => exact ⟨1, by omega, by omega, rfl, rfl, hid_as (fun j hj => by obtain rfl : j = 0 := by omega
                                                                                 rfl)⟩
  case round =>
    obtain ⟨k, hk0, hk, rfl, hw, hn⟩ := hrel
    subst hw
    by_cases hlt : k < 12
    · obtain ⟨c0, c1, c2⟩ := hK.out k hlt
      have hlt' : (k : Int) < 12 := by omega
      have hd : decide ((12 : Int) ≤ k) = false := decide_eq_false (by omega)
      cases hp : ((kn k).toList == s.toList) with
      | false =>
        have hp2 := hid_as (isK_no (l := s.data.toList) (k := k) (by rw [← Lib.toList_data, ← Lib.toList_data]; exact hp))
        go_wp2
        go_roundw
        case rel =>
          refine ⟨k + 1, by omega, by omega, by go_num, trivial, hid_as (fun j hj => ?_)⟩
          by_cases e : j = k
          · subst e; exact hp2.out
          · exact hn.out j (by omega)
        case measure => simp [intOf]; omega
      | true =>
        have e := hid_as (kf_at hlt (isK_of (l := s.data.toList) hk0 (by rw [← Lib.toList_data, ← Lib.toList_data]; exact hp)) hn.out)
        go_wp2
        go_ret
        exact ⟨ret_int (by rw [e.out]), rfl⟩
    · have e := hid_as (kf_none (l := s.data.toList) (fun j hj => hn.out j (by omega)))
      go_wp2
      go_ret
      exact ⟨ret_int (by rw [e.out]; rfl), rfl⟩
theorem word_leaf {s : ByteArray} {l : List UInt8} (e : (s.toList == l) = true) (h : words.contains l = true) : Ending.returned (.bool true) = .returned (.bool (wrd s.data.toList)) := by
  unfold wrd
  rw [← Lib.toList_data, beq_iff_eq.1 e, h]
  rfl
theorem both {b : Bool} (h : b = true) (k : b = false) : False := by rw [h] at k; cases k
theorem neg_0 (n : Nat) : (!decide ((n : Int) = 0)) = !decide (n = 0) := by
  congr 1
  exact decide_eq_decide.2 (by omega)
set_option maxHeartbeats 4000000 in
set_option maxRecDepth 100000 in
theorem Word_c (s : ByteArray) (w : World) (hT : Tabs w) : Calls Tryd.prog 11 #[.string s] w fun e w' => e = .returned (.bool (wrd s.data.toList)) ∧ w' = w := by
  have K := hid_as (kindNamed_c s w hT)
  go_enter Tryd.func11, Tryd.ntmps11
  go_wp2_with (go_at_call 23; refine K.out.mono ?_; rintro e w' ⟨rfl, hw⟩; subst w')
  all_goals go_ret
  all_goals refine ⟨?_, rfl⟩
  all_goals first | (apply word_leaf; assumption; decide) | (exfalso; apply both; assumption; assumption) | skip
  refine ret_bool ?_
  unfold wrd
  rw [← Lib.toList_data]
  simp only [words, List.contains_cons, List.contains_nil, *, Bool.or_false, Bool.false_or]
  rw [bne, ← neg_0]
  rfl
end Go.Proofs.YtnponognncdkcaaDoor
