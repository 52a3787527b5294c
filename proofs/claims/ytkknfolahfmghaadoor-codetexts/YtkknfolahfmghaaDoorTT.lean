/- The walk of Text (stage 20). -/
import Derived.Test.YtkknfolahfmghaaDoorA6
import Derived.Test.YtkknfolahfmghaaDoorSH
namespace Go.Proofs.YtkknfolahfmghaaDoor
open Go.RowKit
open Fb Cod
namespace Cod
/-- An operator's word; a question mark of none. -/
def wrd (op : Int) : List UInt8 := if 1 ≤ op ∧ op ≤ 24 then opw op.toNat else [63]
end Cod
theorem ret_str {a b : ByteArray} (h : a = b) : Ending.returned (.string a) = .returned (.string b) := by rw [h]
set_option maxHeartbeats 800000 in
theorem word_c (op : Int) (w : World) (hT : Tabs w) : Calls Tryd.prog 28 #[.int .i64 op] w fun e w' => e = .returned (.string (tx (wrd op))) ∧ w' = w := by
  have OC := hid_as (isOp_c op w)
  by_cases h : 1 ≤ op ∧ op ≤ 24
  · obtain ⟨k, rfl⟩ : ∃ k : Nat, op = (k : Int) := ⟨op.toNat, by omega⟩
    obtain ⟨c0, _, _⟩ := hT.at_ (show k < 25 by omega)
    have hk0 : (0 : Int) ≤ (k : Int) := by omega
    have hk2 : (k : Int) < 25 := by omega
    have e : wrd (k : Int) = opw k := by unfold wrd; rw [if_pos h, Int.toNat_natCast]
    rw [e]
    rw [show (decide ((1 : Int) ≤ (k : Int)) && decide ((k : Int) ≤ 24)) = true by rw [decide_eq_true h.1, decide_eq_true h.2]; rfl] at OC
    generalize tx (opw k) = s at *
    clear hT h e
    go_enter Tryd.func28, Tryd.ntmps28
    go_wp2_with (go_at_call 49; refine OC.out.mono ?_; rintro e w' ⟨rfl, hw⟩; subst w')
    go_ret
    exact ⟨rfl, rfl⟩
  · have e : wrd op = [63] := by unfold wrd; rw [if_neg h]
    rw [e]
    rw [show (decide ((1 : Int) ≤ op) && decide (op ≤ 24)) = false by rw [Bool.eq_false_iff]; intro q; rw [Bool.and_eq_true, decide_eq_true_iff, decide_eq_true_iff] at q; exact h q] at OC
    clear hT h e
    go_enter Tryd.func28, Tryd.ntmps28
    go_wp2_with (go_at_call 49; refine OC.out.mono ?_; rintro e w' ⟨rfl, hw⟩; subst w')
    go_ret
    exact ⟨rfl, rfl⟩
theorem IsB.below {B b : Nat} {bs : List Value} {w u : World} (h : IsB B b bs w) (k : Below w.heap.size w u) : IsB B b bs u := by
  have g : w.grownBy u none := ⟨k.os, k.tape, k.output, k.size, fun j hj _ => k.block j hj⟩
  have one : ∀ p, Lib.BuilderAtF 65 5 B b p bs w → Lib.BuilderAtF 65 5 B b p bs u := by
    rintro p ⟨hB, v, hb, ho, hne⟩
    refine ⟨hB, v, (k.block b (row_lt hb)).trans hb, ho.kept g ?_, hne⟩
    cases v.ownBlock with
    | none => exact Or.inl rfl
    | some j => exact Or.inr (by simp)
  exact h.elim (fun q => Or.inl (one _ q)) (fun q => Or.inr (one _ q))
theorem grow_below (w : World) (k : Nat) (os : Array Obj) : Below w.heap.size w (Sort.grow (w.drewN k) os) := by
  refine ⟨rfl, rfl, rfl, ?_, fun j hj => ?_⟩
  · show w.heap.size ≤ (w.heap ++ os).size
    rw [Array.size_append]; omega
  · show (w.heap ++ os)[j]? = w.heap[j]?
    rw [Array.getElem?_append_left hj]
theorem isB_new (w : World) : IsB w.heap.size w.heap.size [] (w.alloc (.cells #[.pointer none, .slice none 0 0] 65)) :=
  Or.inl ⟨Nat.le_refl _, .slice none 0 0, heap_alloc_new w _, World.ownsRowF_nil .., by simp [Value.ownBlock]⟩
end Go.Proofs.YtkknfolahfmghaaDoor
