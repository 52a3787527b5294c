/- The walks: two requests held against one another; light ones. -/
import Derived.Test.YtehbbkdiekgpbaaWk12
namespace Go.Proofs.Ytehbbkdiekgpbaa
open Go.RowKit
open Pdu
theorem below_and {a b c : World} (h : Below a.heap.size a b) (k : Below b.heap.size b c) : Below a.heap.size a c := h.trans (k.mono h.size)
set_option maxRecDepth 100000 in
set_option maxHeartbeats 800000 in
theorem light_c {v : Value} {q : Rq} {w : World} (h : IsRq w v q) : Calls Try.prog 10 #[v] w fun e w' => e = .returned (.bool (decide (q.bits.length ≤ 2500 ∧ q.regs.length ≤ 200))) ∧ Below w.heap.size w w' := by
  obtain ⟨ok, bv, rv, rfl, h1, h2⟩ := h
  obtain ⟨bo, bc, rfl⟩ := h1.shape
  obtain ⟨ro, rc, rfl⟩ := h2.shape
  rw [bls_len, u16s_len]
  obtain ⟨fn, addr, n, addr2, bits, regs⟩ := q
  simp only
  generalize bits.length = nb
  generalize regs.length = nr
  unfold rqV
  clear h1 h2 ok
  by_cases hb : nb ≤ 2500
  · by_cases hr : nr ≤ 200
    · have d1 : decide ((nb : Int) ≤ 2500) = true := decide_eq_true (by omega)
      have d2 : decide ((nr : Int) ≤ 200) = true := decide_eq_true (by omega)
      rw [decide_eq_true (show nb ≤ 2500 ∧ nr ≤ 200 from ⟨hb, hr⟩)]
      go_enter Try.func10, Try.ntmps10
      go_wp2
      go_ret
      exact ⟨rfl, below_new (Below.refl _ w) _⟩
    · have d1 : decide ((nb : Int) ≤ 2500) = true := decide_eq_true (by omega)
      have d2 : decide ((nr : Int) ≤ 200) = false := decide_eq_false (by omega)
      rw [decide_eq_false (fun h : nb ≤ 2500 ∧ nr ≤ 200 => hr h.2)]
      go_enter Try.func10, Try.ntmps10
      go_wp2
      go_ret
      exact ⟨rfl, below_new (Below.refl _ w) _⟩
  · have d1 : decide ((nb : Int) ≤ 2500) = false := decide_eq_false (by omega)
    rw [decide_eq_false (fun h : nb ≤ 2500 ∧ nr ≤ 200 => hb h.1)]
    go_enter Try.func10, Try.ntmps10
    go_wp2
    go_ret
    exact ⟨rfl, below_new (Below.refl _ w) _⟩
end Go.Proofs.Ytehbbkdiekgpbaa
