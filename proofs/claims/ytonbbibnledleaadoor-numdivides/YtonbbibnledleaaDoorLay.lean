/- What the rows' list gives: the table of the kinds' words lies in the program's first block; and a world in which it does. -/
import Derived.Test.YtonbbibnledleaaDoorCards
import Derived.Test.YtonbbibnledleaaDoorTie
import Derived.Test.YtonbbibnledleaaDoorPlain4
import Derived.WalkKit
import Derived.ProofKit
import Derived.OpenShut
import Derived.Deep.DeepHandedRow
import Derived.Lib.LaidTab
namespace Go.Proofs.YtonbbibnledleaaDoor
open Go.ChangeShapes Go.WideShapes Go.ChangeAt Go.RowKit
open Num

theorem own : ownKnob Tryd.prog.godebug = none := by kernel_rfl
theorem gTab : Tryd.prog.globalNamed "rung/num.names" = some 0 := by kernel_rfl
theorem gTabType : (Tryd.prog.globals[0]?).map (·.type) = some 48 := by kernel_rfl
theorem cells48 : Tryd.prog.cellsOf 48 = 12 := by kernel_rfl
theorem cells9 : Tryd.prog.cellsOf 9 = 1 := by kernel_rfl

/-- An array of strings that reads as a list of texts holds those texts, cell for cell. -/
theorem cells_of_strs {H : Type} {enc : TypeId × Value → H} {P : Program} {w : World} {base : Nat} {sp : Nat → Bool} {held : Bool} {fuel : Nat} {t e : TypeId} {n : Nat} {cs : List Value} {ls : List (List UInt8)} {p : List MemPlace}
    (ht : P.underlying t = some (.array n e)) (he : P.underlying e = some .string) (hce : P.cellsOf e = 1) (hct : P.cellsOf t = n)
    (h : DataW.trod enc P w base sp held fuel t cs = some (.agg (ls.map fun l => .lit (.string l)), p)) : cs = ls.map fun l => Value.string ⟨l.toArray⟩ := by
  cases fuel with
  | zero => simp [DataW.trod] at h
  | succ fuel =>
    simp only [DataW.trod, ht, hce, hct, Nat.mul_one] at h
    split at h
    · obtain ⟨xs, hm, hx⟩ := Option.map_eq_some_iff.1 h
      have hxs : xs.map (·.1) = ls.map fun l => (DataW.lit (.string l) : DataW H) := by
        have := congrArg Prod.fst hx
        simpa using this
      have hxl : xs.length = n := by simpa using Lib.mapM_length hm
      have hzl : ls.length = n := by
        have := congrArg List.length hxs
        simp at this
        omega
      apply List.ext_getElem?
      intro i
      by_cases hi : i < n
      · obtain ⟨b, hb, hf⟩ := Lib.mapM_at hm i i (by simp [hi])
        obtain ⟨s, hc, rfl, _⟩ := DataW.trod_string he hf
        have h1 : cs[i]? = some (.string s) := by
          have := congrArg (·[0]?) hc
          simpa [List.getElem?_take, List.getElem?_drop] using this
        have h2 : (xs.map (·.1))[i]? = some (DataW.lit (.string s.data.toList) : DataW H) := by simp [hb]
        rw [hxs] at h2
        simp only [List.getElem?_map, Option.map_eq_some_iff, DataW.lit.injEq, Lit.string.injEq] at h2
        obtain ⟨l, hl, e1⟩ := h2
        have e2 : s = ⟨l.toArray⟩ := by cases s; rw [e1]
        simp [h1, hl, e2]
      · rw [List.getElem?_eq_none (by omega), List.getElem?_eq_none (by simp; omega)]
    · cases h

def wordsL : List (List UInt8) := [[], [66, 79, 79, 76], [83, 73, 78, 84], [73, 78, 84], [68, 73, 78, 84], [85, 83, 73, 78, 84], [85, 73, 78, 84], [85, 68, 73, 78, 84], [66, 89, 84, 69], [87, 79, 82, 68], [68, 87, 79, 82, 68], [84, 73, 77, 69]]

theorem names_of_laid {W : World} (h : laidMetH Tryd.prog [("rung/num.names", Rows.laid_rung_num_names)] W) : NamesAt W := by
  obtain ⟨ps, ⟨g, t, cs, fuel, p, q, hg, ht, hvar, hd, _, _⟩, _⟩ := h
  obtain rfl := Option.some.inj (gTab.symm.trans hg)
  obtain rfl := Option.some.inj (gTabType.symm.trans ht)
  have e := cells_of_strs (ls := wordsL) Tryd.underlying48 Tryd.underlying9 cells9 cells48 hd
  have e2 : cs = cells12 := by
    obtain ⟨l⟩ := cs
    exact congrArg Array.mk e
  subst e2
  simp only [World.var?, gTab, Option.bind_some] at hvar
  split at hvar
  · rename_i cs t fr hh
    exact ⟨t, fr, by rw [hh, Option.some.inj hvar]⟩
  · cases hvar

/-- For the witness: a world with the table holding what its initialiser lays. -/
def laidIn (w : World) : World :=
  { w with heap := w.heap.modify 0 fun
      | .cells _ t frozen => .cells cells12 t frozen
      | o => o }
end Go.Proofs.YtonbbibnledleaaDoor
