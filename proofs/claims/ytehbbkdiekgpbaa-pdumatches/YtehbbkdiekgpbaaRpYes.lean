/- The walk: a reply's bytes, of a writing function. -/
import Derived.Test.YtehbbkdiekgpbaaRp5
import Derived.Test.YtehbbkdiekgpbaaRp6
import Derived.Test.YtehbbkdiekgpbaaRp22
namespace Go.Proofs.Ytehbbkdiekgpbaa
open Go.RowKit
open Pdu
theorem reply_yes {v : Value} {r : Rp} {w : World} (h : IsRp w v r) (hf : r.Fits) : Calls Try.prog 19 #[v] w fun e w' => ∃ v', e = .returned (.tuple #[v', .int .i64 0]) ∧ w'.ownsRow w.heap.size 5 1 v' (repBytes r).length (u8s (repBytes r)) ∧ Below w.heap.size w w' := by
  obtain ⟨ok, bv, rv, rfl, h1, h2⟩ := h
  obtain ⟨fn, exc, addr, n, bits, regs⟩ := r
  by_cases he : exc = 0
  · subst he
    have hk : fn = 1 ∨ fn = 2 ∨ fn = 3 ∨ fn = 4 ∨ fn = 5 ∨ fn = 6 ∨ fn = 15 ∨ fn = 16 ∨ fn = 22 ∨ fn = 23 := by have hf := hf; unfold Rp.Fits RFitsN at hf; simp only at hf; omega
    rcases hk with hk | hk | hk | hk | hk | hk | hk | hk | hk | hk
    · exact reply_1 fn addr n bits regs bv rv w ok hf h1 h2 (by omega)
    · exact reply_1 fn addr n bits regs bv rv w ok hf h1 h2 (by omega)
    · exact reply_3 fn addr n bits regs bv rv w ok hf h1 h2 (by omega)
    · exact reply_3 fn addr n bits regs bv rv w ok hf h1 h2 (by omega)
    · exact reply_5 fn addr n bits regs bv rv w ok hf h1 h2 hk
    · exact reply_6 fn addr n bits regs bv rv w ok hf h1 h2 hk
    · exact reply_15 fn addr n bits regs bv rv w ok hf h1 h2 (by omega)
    · exact reply_15 fn addr n bits regs bv rv w ok hf h1 h2 (by omega)
    · exact reply_22 fn addr n bits regs bv rv w ok hf h1 h2 hk
    · exact reply_3 fn addr n bits regs bv rv w ok hf h1 h2 (by omega)
  · exact reply_exc fn exc addr n bits regs bv rv w ok hf h1 h2 he
end Go.Proofs.Ytehbbkdiekgpbaa
