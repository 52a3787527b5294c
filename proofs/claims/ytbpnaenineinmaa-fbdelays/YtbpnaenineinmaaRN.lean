/- Step of any text: the program's and the reference's (stage 17). -/
import Derived.Test.YtbpnaenineinmaaRS0
import Derived.Test.YtbpnaenineinmaaRS1
import Derived.Test.YtbpnaenineinmaaRS2
import Derived.Test.YtbpnaenineinmaaRS34
import Derived.Test.YtbpnaenineinmaaRS5
import Derived.Test.YtbpnaenineinmaaRS67
import Derived.Test.YtbpnaenineinmaaRS89
import Derived.Laws.Strings
namespace Go.Proofs.Ytbpnaenineinmaa
open Go.RowKit
open Fb
/-- What a step tells: numbers, what is kept. -/
def SE2 (w : World) (r : Rs) (e : Ending) (w' : World) : Prop := ∃ ao n, e = .returned (.tuple #[.slice ao n n, .agg #[.int .i64 r.k0, .int .i64 r.k1, .int .i64 r.k2]]) ∧ Sl w' (.slice ao n n) (i64s r.o) ∧ n = r.o.length ∧ Below w.heap.size w w'
theorem se2_of {w : World} {r : Rs} {e : Ending} {w' : World} (h : StepEnd w r e w') : SE2 w r e w' := by
  obtain ⟨b, rfl, _, h2, h3⟩ := h
  exact ⟨_, _, rfl, row_sl h2 rfl, rfl, h3⟩
set_option maxRecDepth 100000 in
set_option maxHeartbeats 800000 in
theorem fstep_none (s : ByteArray) (h : Nob s) {w : World} (i o : Value) (p0 p1 p2 t : Int) : Calls Try.prog 10 #[.string s, i, .agg #[.int .i64 p0, .int .i64 p1, .int .i64 p2], o, .int .i64 t] w (SE2 w ⟨[], 0, 0, 0⟩) := by
  have M := hid_as (fun U => mach_none s h U)
  clear h
  have K0 : Hid (Tb w ((w.alloc (.cells #[.int .i64 p0, .int .i64 p1, .int .i64 p2] 23)).alloc (.cells #[.int .i64 0, .int .i64 0, .int .i64 0] 23)) p0 p1 p2) := ⟨(two_new w _ _).1, (two_new w _ _).2.1, below_new (below_new (Below.refl _ _) _) _⟩
  go_enter Try.func10, Try.ntmps10
  go_upto_region 1 with fail
  generalize ((w.alloc (.cells #[.int .i64 p0, .int .i64 p1, .int .i64 p2] 23)).alloc (.cells #[.int .i64 0, .int .i64 0, .int .i64 0] 23)) = W0 at *
  obtain ⟨s0, s1, s2, sf⟩ := K0.out.rs.cells
  have FIN : Hid (Below w.heap.size w (st3 W0 (w.heap.size + 1) 0 0 0)) := K0.out.bl.trans ((st3_turn W0 (w.heap.size + 1) 0 0 0).below (by omega) K0.out.bl.size)
  go_wp2_with (go_at_call 17; (refine (M.out _).mono ?_); rintro e w1 ⟨rfl, hw⟩; subst w1)
  refine bodyPost_ret (v := .tuple #[.slice none 0 0, .agg #[.int .i64 0, .int .i64 0, .int .i64 0]]) (by simp [results, Try.results10, go_sem, s0, s1, s2]) rfl ?_
  exact ⟨none, 0, rfl, Sl.nil _, rfl, FIN.out⟩
set_option maxRecDepth 100000 in
set_option maxHeartbeats 800000 in
theorem rstep_none (s : ByteArray) (h : Nob s) {w : World} (i o : Value) (p0 p1 p2 t : Int) : Calls Try.prog 11 #[.string s, i, .agg #[.int .i64 p0, .int .i64 p1, .int .i64 p2], o, .int .i64 t] w (SE2 w ⟨[], 0, 0, 0⟩) := by
  have M := hid_as (fun U => rpins_none s h U)
  clear h
  have K0 : Hid (Tb w ((w.alloc (.cells #[.int .i64 p0, .int .i64 p1, .int .i64 p2] 23)).alloc (.cells #[.int .i64 0, .int .i64 0, .int .i64 0] 23)) p0 p1 p2) := ⟨(two_new w _ _).1, (two_new w _ _).2.1, below_new (below_new (Below.refl _ _) _) _⟩
  go_enter Try.func11, Try.ntmps11
  go_upto_region 1 with fail
  generalize ((w.alloc (.cells #[.int .i64 p0, .int .i64 p1, .int .i64 p2] 23)).alloc (.cells #[.int .i64 0, .int .i64 0, .int .i64 0] 23)) = W0 at *
  obtain ⟨s0, s1, s2, sf⟩ := K0.out.rs.cells
  have FIN : Hid (Below w.heap.size w (st3 W0 (w.heap.size + 1) 0 0 0)) := K0.out.bl.trans ((st3_turn W0 (w.heap.size + 1) 0 0 0).below (by omega) K0.out.bl.size)
  go_wp2_with (go_at_call 21; (refine (M.out _).mono ?_); rintro e w1 ⟨rfl, hw⟩; subst w1)
  refine bodyPost_ret (v := .tuple #[.slice none 0 0, .agg #[.int .i64 0, .int .i64 0, .int .i64 0]]) (by simp [results, Try.results11, go_sem, s0, s1, s2]) rfl ?_
  exact ⟨none, 0, rfl, Sl.nil _, rfl, FIN.out⟩
theorem rstep_any {w : World} {ia oa : Option Addr} {n m ic oc : Nat} {l q : List Int} (k : Nat) (hk : k < 10) (p0 p1 p2 t : Int) (hi : Sl w (.slice ia n ic) (i64s l)) (hn : n = l.length) (ho : Sl w (.slice oa m oc) (i64s q)) (hm : m = q.length) :
    Calls Try.prog 11 #[.string (nm k), .slice ia n ic, .agg #[.int .i64 p0, .int .i64 p1, .int .i64 p2], .slice oa m oc, .int .i64 t] w (StepEnd w (stp k l q p0 p1 p2 t)) := by
  match k, hk with
  | 0, _ => exact rstep_0 p0 p1 p2 t hi hn ho hm
  | 1, _ => exact rstep_1 p0 p1 p2 t hi hn ho hm
  | 2, _ => exact rstep_2 p0 p1 p2 t hi hn ho hm
  | 3, _ => exact rstep_3 p0 p1 p2 t hi hn ho hm
  | 4, _ => exact rstep_4 p0 p1 p2 t hi hn ho hm
  | 5, _ => exact rstep_5 p0 p1 p2 t hi hn ho hm
  | 6, _ => exact rstep_6 p0 p1 p2 t hi hn ho hm
  | 7, _ => exact rstep_7 p0 p1 p2 t hi hn ho hm
  | 8, _ => exact rstep_8 p0 p1 p2 t hi hn ho hm
  | 9, _ => exact rstep_9 p0 p1 p2 t hi hn ho hm
theorem name_or (s : ByteArray) : Nob s ∨ ∃ k, k < 10 ∧ s = nm k := by
  by_cases h : ∃ k, k < 10 ∧ (s.toList == nml k) = true
  · obtain ⟨k, hk, e⟩ := h
    refine Or.inr ⟨k, hk, ?_⟩
    have e2 : s.data.toList = nml k := by rw [← ByteArray.toList_eq]; simpa using e
    cases s with
    | mk d =>
      show _ = ByteArray.mk (nml k).toArray
      simp only at e2
      rw [← e2]
  · refine Or.inl (fun k hk => ?_)
    cases he : (s.toList == nml k)
    · rfl
    · exact (h ⟨k, hk, he⟩).elim
/-- Both steps of any text tell the same. -/
theorem two_steps (s : ByteArray) (l q : List Int) (p0 p1 p2 t : Int) : ∃ r : Rs, r.o.length ≤ 3 ∧ ∀ (w : World) (ia oa : Option Addr) (n m ic oc : Nat), Sl w (.slice ia n ic) (i64s l) → n = l.length → n ≤ 9223372036854775807 → Sl w (.slice oa m oc) (i64s q) → m = q.length → m ≤ 9223372036854775807 →
    Calls Try.prog 10 #[.string s, .slice ia n ic, .agg #[.int .i64 p0, .int .i64 p1, .int .i64 p2], .slice oa m oc, .int .i64 t] w (SE2 w r) ∧ Calls Try.prog 11 #[.string s, .slice ia n ic, .agg #[.int .i64 p0, .int .i64 p1, .int .i64 p2], .slice oa m oc, .int .i64 t] w (SE2 w r) := by
  rcases name_or s with h | ⟨k, hk, rfl⟩
  · exact ⟨⟨[], 0, 0, 0⟩, by decide, fun w ia oa n m ic oc _ _ _ _ _ _ => ⟨fstep_none s h _ _ p0 p1 p2 t, rstep_none s h _ _ p0 p1 p2 t⟩⟩
  · exact ⟨stp k l q p0 p1 p2 t, by rw [stp_len]; exact pO_le3 k, fun w ia oa n m ic oc h1 h2 h3 h4 h5 h6 => ⟨(step_any k hk p0 p1 p2 t h1 h2 h3 h4 h5 h6).mono fun _ _ => se2_of, (rstep_any k hk p0 p1 p2 t h1 h2 h4 h5).mono fun _ _ => se2_of⟩⟩
end Go.Proofs.Ytbpnaenineinmaa
