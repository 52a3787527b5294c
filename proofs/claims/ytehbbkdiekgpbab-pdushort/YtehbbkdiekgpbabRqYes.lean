/- The walk: a request's bytes, of counted bits and words. -/
import Derived.Test.YtehbbkdiekgpbabRq15
import Derived.Test.YtehbbkdiekgpbabRq16
import Derived.Test.YtehbbkdiekgpbabRq23
namespace Go.Proofs.Ytehbbkdiekgpbab
open Go.RowKit
open Pdu
theorem request_yes {v : Value} {q : Rq} {w : World} (h : IsRq w v q) (hf : q.Fits) : Calls Try.prog 7 #[v] w fun e w' => ∃ v', e = .returned (.tuple #[v', .int .i64 0]) ∧ w'.ownsRow w.heap.size 5 1 v' (reqBytes q).length (u8s (reqBytes q)) ∧ Below w.heap.size w w' := by
  obtain ⟨ok, bv, rv, rfl, h1, h2⟩ := h
  obtain ⟨fn, addr, n, addr2, bits, regs⟩ := q
  have hk : fn = 1 ∨ fn = 2 ∨ fn = 3 ∨ fn = 4 ∨ fn = 5 ∨ fn = 6 ∨ fn = 15 ∨ fn = 16 ∨ fn = 22 ∨ fn = 23 := by have hf := hf; unfold Rq.Fits FitsN at hf; simp only at hf; omega
  rcases hk with hk | hk | hk | hk | hk | hk | hk | hk | hk | hk
  · exact request_1 fn addr n addr2 bits regs bv rv w ok hf h1 h2 (by omega)
  · exact request_1 fn addr n addr2 bits regs bv rv w ok hf h1 h2 (by omega)
  · exact request_1 fn addr n addr2 bits regs bv rv w ok hf h1 h2 (by omega)
  · exact request_1 fn addr n addr2 bits regs bv rv w ok hf h1 h2 (by omega)
  · exact request_5 fn addr n addr2 bits regs bv rv w ok hf h1 h2 hk
  · exact request_6 fn addr n addr2 bits regs bv rv w ok hf h1 h2 (by omega)
  · exact request_15 fn addr n addr2 bits regs bv rv w ok hf h1 h2 hk
  · exact request_16 fn addr n addr2 bits regs bv rv w ok hf h1 h2 hk
  · exact request_6 fn addr n addr2 bits regs bv rv w ok hf h1 h2 (by omega)
  · exact request_23 fn addr n addr2 bits regs bv rv w ok hf h1 h2 hk
end Go.Proofs.Ytehbbkdiekgpbab
