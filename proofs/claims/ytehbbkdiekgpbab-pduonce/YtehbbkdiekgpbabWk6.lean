/- The walks: bits taken out of bytes, the document's. -/
import Derived.Test.YtehbbkdiekgpbabWk5
namespace Go.Proofs.Ytehbbkdiekgpbab
open Go.RowKit
open Pdu
def Gather (w wr : World) (v : Value) (bs : List Nat) (k : Nat) : Prop := wr.ownsRow w.heap.size 4 1 v k (bls (ub bs k)) ∧ Below w.heap.size w wr
theorem one_cell (w : World) (e : TypeId) (x : Value) : ∀ j u, [x][j]? = some u → (w.alloc (.cells #[x] e)).cell? ((⟨w.heap.size, 0, none⟩ : Addr).add j) = some u := by
  intro j u hj
  match j, hj with
  | 0, hj => simp at hj; subst hj; simp [Addr.add]
theorem one_bool (x : Bool) : ∀ u ∈ [Value.bool x], u.oneCell' = true := by
  intro u hu
  simp at hu
  subst hu
  rfl
theorem one_int (k : IntKind) (x : Int) : ∀ u ∈ [Value.int k x], u.oneCell' = true := by
  intro u hu
  simp at hu
  subst hu
  rfl
theorem gather_step {w wr w1 : World} {v v' : Value} {bs : List Nat} {k : Nat} {t : Bool} {o : Obj} (h : Gather w wr v bs k) (ht : t = (bs.getD (k / 8) 0).testBit (k % 8)) (hown : w1.ownsRow w.heap.size 4 1 v' (k + 1) (bls (ub bs k) ++ [.bool t])) (hg : (wr.alloc o).grownBy w1 v.ownBlock) : Gather w w1 v' bs (k + 1) := by
  obtain ⟨h1, h2⟩ := h
  have hs := h2.size
  refine ⟨?_, (h2.alloc (by omega) o).grown hg (by simp; omega) (fun g hg' => (h1.lt g hg').1)⟩
  rw [ub_succ, ← ht, bls_app]
  exact hown
end Go.Proofs.Ytehbbkdiekgpbab
