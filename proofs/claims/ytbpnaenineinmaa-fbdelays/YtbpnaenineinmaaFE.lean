/- What a step tells, in memory; the keeps as they are wrapped (stage 17). -/
import Derived.Test.YtbpnaenineinmaaF8
namespace Go.Proofs.Ytbpnaenineinmaa
open Go.RowKit
open Fb
/-- What Step tells: a row of its own, the keeps. -/
def StepEnd (w : World) (r : Rs) (e : Ending) (w' : World) : Prop := ∃ b, e = .returned (.tuple #[.slice (some ⟨b, 0, none⟩) r.o.length r.o.length, .agg #[.int .i64 r.k0, .int .i64 r.k1, .int .i64 r.k2]]) ∧ w.heap.size ≤ b ∧ Row64 w' b r.o ∧ Below w.heap.size w w'
/-- The call while the keeps are laid, j of them. -/
def kpj (i o : List Int) (p0 p1 p2 nw : Int) (j : Nat) : Ca := ⟨i, o, if 0 < j then w32 p0 else 0, if 1 < j then w32 p1 else 0, if 2 < j then w32 p2 else 0, nw⟩
theorem idx_0 (x y z : Value) (W : World) : (Instr.index 23 (.agg #[x, y, z]) (.int .i64 0)).run Try.prog W = .ok x W := by kernel_rfl
theorem idx_1 (x y z : Value) (W : World) : (Instr.index 23 (.agg #[x, y, z]) (.int .i64 1)).run Try.prog W = .ok y W := by kernel_rfl
theorem idx_2 (x y z : Value) (W : World) : (Instr.index 23 (.agg #[x, y, z]) (.int .i64 2)).run Try.prog W = .ok z W := by kernel_rfl
theorem cl_new {W : World} {a b : Nat} {i o : List Int} {nw : Int} {ni no : Nat} (hi : ni = i.length) (ho : no = o.length) (ra : Row64 W a i) (rb : Row64 W b o) (hab : a ≠ b) : Cl (W.alloc (.cells #[.slice (some ⟨a, 0, none⟩) ni ni, .slice (some ⟨b, 0, none⟩) no no, .int .i64 0, .int .i64 0, .int .i64 0, .int .i64 nw] 56)) W.heap.size a b ⟨i, o, 0, 0, 0, nw⟩ := by
  have la : a < W.heap.size := (Array.getElem?_eq_some_iff.1 ra).1
  have lb : b < W.heap.size := (Array.getElem?_eq_some_iff.1 rb).1
  have k := below_new (Below.refl _ W) (.cells #[.slice (some ⟨a, 0, none⟩) ni ni, .slice (some ⟨b, 0, none⟩) no no, .int .i64 0, .int .i64 0, .int .i64 0, .int .i64 nw] 56)
  subst hi ho
  exact ⟨heap_alloc_new W _, (k.block _ la).trans ra, (k.block _ lb).trans rb, by omega, by omega, hab⟩
end Go.Proofs.Ytbpnaenineinmaa
