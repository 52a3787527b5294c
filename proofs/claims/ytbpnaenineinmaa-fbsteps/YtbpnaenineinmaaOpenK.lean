/- An array of three numbers, as it is handed in (stage 17). -/
import Derived.Test.YtbpnaenineinmaaOpenF
import Derived.Laws.IdiomArrays
namespace Go.Proofs.Ytbpnaenineinmaa
open Go.ChangeShapes Go.WideShapes Go.ChangeAt Go.RowKit Go.Deep Go.Joins
theorem open_k3 {H : Type} {enc : TypeId × Value → H} {W : World} {base : Nat} {v : Value} {d : DataW H} {p : List MemPlace} (hok : Value.okWide Try.prog W .any base 23 v) (h : DataW.Trod enc Try.prog W 0 (fun _ => true) true 23 v d p) :
    ∃ a b c : Int, v = .agg #[.int .i64 a, .int .i64 b, .int .i64 c] := by
  simp only [Value.okWide, Try.underlying23] at hok
  obtain ⟨cs, rfl, h2, _⟩ := hok
  rw [show Try.prog.cellsOf 23 = 3 by kernel_rfl] at h2
  obtain ⟨l⟩ := cs
  match l, h2, h with
  | [c0, c1, c2], _, ⟨fuel, hf⟩ =>
    obtain ⟨y0, y1, y2, n, _, h0, h1, h2⟩ := trod_array3 Try.underlying23 Try.cells64 (show DataW.trod enc Try.prog W 0 (fun _ => true) true fuel 23 [c0, c1, c2] = some (d, p) from hf)
    obtain ⟨a, ea, _⟩ := DataW.trod_int Try.underlying2 h0
    obtain ⟨b, eb, _⟩ := DataW.trod_int Try.underlying2 h1
    obtain ⟨c, ec, _⟩ := DataW.trod_int Try.underlying2 h2
    simp at ea eb ec
    subst ea eb ec
    exact ⟨a, b, c, rfl⟩
end Go.Proofs.Ytbpnaenineinmaa
