/- What the rows' list gives: the tables lie as the program lays them; and a world in which they do (stage 20). -/
import Derived.Test.YtkknfolahfmghaaDoorCards
import Derived.Test.YtkknfolahfmghaaDoorTie
import Derived.Test.YtkknfolahfmghaaDoorO1
import Derived.WalkKit
import Derived.ProofKit
import Derived.OpenShut
import Derived.Deep.DeepHandedRow
import Derived.Lib.LaidTab
import Derived.Lib.Strings
import Derived.Stop.LaidErr
import Derived.LaidHandle
import Derived.LaidLaws
import Derived.Shelf.Vars
namespace Go.Proofs.YtkknfolahfmghaaDoor
open Go.ChangeShapes Go.WideShapes Go.ChangeAt Go.RowKit
open Cod Fb
theorem own : ownKnob Tryd.prog.godebug = none := by kernel_rfl
theorem laidOut : laidOutB Tryd.prog = true := by kernel_rfl
theorem cellsInt : Tryd.prog.cellsOf 3 = 1 := by kernel_rfl
theorem cellsStr : Tryd.prog.cellsOf 9 = 1 := by kernel_rfl
theorem is_str {H : Type} {enc : TypeId × Value → H} {w : World} {base : Nat} {sp : Nat → Bool} {held : Bool} {fuel : Nat} {cs : List Value} {l : List UInt8} {p : List MemPlace} (h : DataW.trod enc Tryd.prog w base sp held fuel 9 cs = some (.lit (.string l), p)) : cs = [.string ⟨l.toArray⟩] := by
  obtain ⟨s, hc, e, _⟩ := DataW.trod_string Tryd.underlying9 h
  have e1 := congrArg Prod.fst e
  simp only [DataW.lit.injEq, Lit.string.injEq] at e1
  rw [hc, e1, Lib.mk_data]
theorem is_int {H : Type} {enc : TypeId × Value → H} {w : World} {base : Nat} {sp : Nat → Bool} {held : Bool} {fuel : Nat} {cs : List Value} {n : Int} {p : List MemPlace} (h : DataW.trod enc Tryd.prog w base sp held fuel 3 cs = some (.lit (.int .i64 n), p)) : cs = [.int .i64 n] := by
  obtain ⟨m, hc, e, _⟩ := DataW.trod_int Tryd.underlying3 h
  have e1 := congrArg Prod.fst e
  simp only [DataW.lit.injEq, Lit.int.injEq, true_and] at e1
  rw [hc, e1]
theorem g_ops : Tryd.prog.globalNamed "rung/code.operators" = some 1 := by kernel_rfl
theorem gt_ops : (Tryd.prog.globals[1]?).map (·.type) = some 105 := by kernel_rfl
theorem c_ops : Tryd.prog.cellsOf 105 = 75 := by kernel_rfl
theorem cr_ops : Tryd.prog.cellsOf 104 = 3 := by kernel_rfl
theorem row_ops {H : Type} {enc : TypeId × Value → H} {w : World} {base : Nat} {sp : Nat → Bool} {held : Bool} {fuel : Nat} {cs : List Value} {x0 : List UInt8} {x1 x2 : Int} {p : List MemPlace}
    (h : DataW.trod enc Tryd.prog w base sp held fuel 104 cs = some (.agg [.lit (.string x0), .lit (.int .i64 x1), .lit (.int .i64 x2)], p)) : cs = [.string ⟨x0.toArray⟩, .int .i64 x1, .int .i64 x2] := by
  cases fuel with
  | zero => simp [DataW.trod] at h
  | succ fuel =>
    simp only [DataW.trod, Tryd.underlying104, cr_ops] at h
    split at h
    · rename_i hl
      obtain ⟨xs, hm, hx⟩ := Option.map_eq_some_iff.1 h
      have hxs : xs.map (·.1) = [.lit (.string x0), .lit (.int .i64 x1), .lit (.int .i64 x2)] := by
        have := congrArg Prod.fst hx
        simpa using this
      have g0 : cs[0]? = some (.string ⟨x0.toArray⟩) := by
        obtain ⟨y, hy, hf⟩ := Lib.mapM_at hm 0 _ rfl
        have hy2 : (xs.map (·.1))[0]? = some y.1 := by simp [hy]
        rw [hxs] at hy2
        obtain ⟨y1, y2⟩ := y
        obtain rfl := Option.some.inj hy2
        have q := is_str hf
        have q2 := congrArg (·[0]?) q
        simpa [List.getElem?_take, List.getElem?_drop, cellsInt, cellsStr] using q2
      have g1 : cs[1]? = some (.int .i64 x1) := by
        obtain ⟨y, hy, hf⟩ := Lib.mapM_at hm 1 _ rfl
        have hy2 : (xs.map (·.1))[1]? = some y.1 := by simp [hy]
        rw [hxs] at hy2
        obtain ⟨y1, y2⟩ := y
        obtain rfl := Option.some.inj hy2
        have q := is_int hf
        have q2 := congrArg (·[0]?) q
        simpa [List.getElem?_take, List.getElem?_drop, cellsInt, cellsStr] using q2
      have g2 : cs[2]? = some (.int .i64 x2) := by
        obtain ⟨y, hy, hf⟩ := Lib.mapM_at hm 2 _ rfl
        have hy2 : (xs.map (·.1))[2]? = some y.1 := by simp [hy]
        rw [hxs] at hy2
        obtain ⟨y1, y2⟩ := y
        obtain rfl := Option.some.inj hy2
        have q := is_int hf
        have q2 := congrArg (·[0]?) q
        simpa [List.getElem?_take, List.getElem?_drop, cellsInt, cellsStr] using q2
      apply List.ext_getElem?
      intro i
      match i with
      | 0 => exact g0
      | 1 => exact g1
      | 2 => exact g2
      | k + 3 => rw [List.getElem?_eq_none (by omega), List.getElem?_eq_none (by simp)]
    · cases h
def D_ops {H : Type} (k : Nat) : DataW H := .agg [.lit (.string (opw k)), .lit (.int .i64 (tk k : Nat)), .lit (.int .i64 (pt k : Nat))]
theorem ops_of_trod {w : World} {sp : Nat → Bool} {held : Bool} {fuel : Nat} {cs : List Value} {p : List MemPlace}
    (h : DataW.trod (H := Unit) (fun _ => ()) Tryd.prog w 0 sp held fuel 105 cs = some (Rows.laid_rung_code_operators, p)) : cs = ops75 := by
  cases fuel with
  | zero => simp [DataW.trod] at h
  | succ fuel =>
    simp only [DataW.trod, Tryd.underlying105, cr_ops, c_ops] at h
    split at h
    · rename_i hl
      obtain ⟨xs, hm, hx⟩ := Option.map_eq_some_iff.1 h
      have hxs : xs.map (·.1) = [D_ops 0, D_ops 1, D_ops 2, D_ops 3, D_ops 4, D_ops 5, D_ops 6, D_ops 7, D_ops 8, D_ops 9, D_ops 10, D_ops 11, D_ops 12, D_ops 13, D_ops 14, D_ops 15, D_ops 16, D_ops 17, D_ops 18, D_ops 19, D_ops 20, D_ops 21, D_ops 22, D_ops 23, D_ops 24] := by
        have := congrArg Prod.fst hx
        exact DataW.agg.inj this
      have hrow : ∀ i, i < 25 → (cs.drop (i * 3)).take 3 = opv i := by
        intro i hi
        obtain ⟨y, hy, hf⟩ := Lib.mapM_at hm i i (by simp [hi])
        have hy2 : (xs.map (·.1))[i]? = some y.1 := by simp [hy]
        rw [hxs] at hy2
        obtain ⟨y1, y2⟩ := y
        have e : y1 = D_ops i := by
          have hc : i = 0 ∨ i = 1 ∨ i = 2 ∨ i = 3 ∨ i = 4 ∨ i = 5 ∨ i = 6 ∨ i = 7 ∨ i = 8 ∨ i = 9 ∨ i = 10 ∨ i = 11 ∨ i = 12 ∨ i = 13 ∨ i = 14 ∨ i = 15 ∨ i = 16 ∨ i = 17 ∨ i = 18 ∨ i = 19 ∨ i = 20 ∨ i = 21 ∨ i = 22 ∨ i = 23 ∨ i = 24 := by omega
          rcases hc with rfl | rfl | rfl | rfl | rfl | rfl | rfl | rfl | rfl | rfl | rfl | rfl | rfl | rfl | rfl | rfl | rfl | rfl | rfl | rfl | rfl | rfl | rfl | rfl | rfl <;> exact (Option.some.inj hy2).symm
        subst e
        exact row_ops hf
      apply List.ext_getElem?
      intro j
      by_cases hj : j < 75
      · have e : ops75[j / 3 * 3 + j % 3]? = (opv (j / 3))[j % 3]? := flat3 (f := opv) (fun _ => rfl) 25 (j / 3) (j % 3) (by omega) (by omega)
        rw [show j / 3 * 3 + j % 3 = j by omega] at e
        rw [e, ← hrow (j / 3) (by omega), List.getElem?_take, if_pos (by omega), List.getElem?_drop]
        congr 1
        omega
      · rw [List.getElem?_eq_none (by omega), List.getElem?_eq_none (by rw [ops_len]; omega)]
    · cases h
theorem ops_of_laid {W : World} {rest : List (String × DataW Unit)} (h : laidMet Tryd.prog (("rung/code.operators", Rows.laid_rung_code_operators) :: rest) W) : ∃ t fr, W.heap[1]? = some (.cells ops75.toArray t fr) := by
  obtain ⟨ps, ⟨g, t, cs, fuel, p, q, hg, ht, hvar, hd, _, _⟩, _⟩ := h
  obtain rfl := Option.some.inj (g_ops.symm.trans hg)
  obtain rfl := Option.some.inj (gt_ops.symm.trans ht)
  have e := ops_of_trod hd
  have e2 : cs = ops75.toArray := by
    obtain ⟨l⟩ := cs
    exact congrArg Array.mk e
  subst e2
  simp only [World.var?, g_ops, Option.bind_some] at hvar
  split at hvar
  · rename_i cs t fr hh
    exact ⟨t, fr, by rw [hh, Option.some.inj hvar]⟩
  · cases hvar
theorem g_pow : Tryd.prog.globalNamed "internal/strconv.uint64pow10" = some 2 := by kernel_rfl
theorem gt_pow : (Tryd.prog.globals[2]?).map (·.type) = some 135 := by kernel_rfl
theorem c_pow : Tryd.prog.cellsOf 135 = 20 := by kernel_rfl
theorem c_u64 : Tryd.prog.cellsOf 98 = 1 := by kernel_rfl
theorem pow_is {H : Type} : (Rows.laid_internal_strconv_uint64pow10 : DataW H) = Lib.tabData .u64 Lib.pow10Tab := by rfl
theorem pow_of_laid {W : World} {rest : List (String × DataW Unit)} (h : laidMet Tryd.prog (("internal/strconv.uint64pow10", Rows.laid_internal_strconv_uint64pow10) :: rest) W) : Lib.TabIs Tryd.prog W "internal/strconv.uint64pow10" .u64 Lib.pow10Tab := by
  rw [pow_is] at h
  exact Lib.tabIs_of_head g_pow gt_pow Tryd.underlying135 Tryd.underlying98 c_u64 c_pow h
theorem g_tab64 : Tryd.prog.globalNamed "math/bits.deBruijn64tab" = some 4 := by kernel_rfl
theorem big_of_laid {W : World} {rest : List (String × DataW Unit)} (h : laidMet Tryd.prog (("math/bits.deBruijn64tab", Rows.laid_math_bits_deBruijn64tab) :: rest) W) : 4 < W.heap.size := by
  obtain ⟨ps, ⟨g, t, cs, fuel, p, q, hg, ht, hvar, hd, _, _⟩, _⟩ := h
  simp only [World.var?, g_tab64, Option.bind_some] at hvar
  split at hvar
  · rename_i cs t fr hh
    exact (Array.getElem?_eq_some_iff.1 hh).1
  · cases hvar
theorem g_err : Tryd.prog.globalNamed "errors.errorType" = some 0 := by kernel_rfl
theorem rt_is : (Tryd.prog.cutTypes.find? (·.1 == "internal/reflectlite.rtype")).map (·.2) = some 111 := by kernel_rfl
theorem oneRow : ((List.range 178).filter fun t => Tryd.prog.rowNamed t [101, 114, 114, 111, 114]) = [33] := by kernel_rfl
theorem types_n : Tryd.prog.types.size = 178 := by kernel_rfl
theorem err_of_laid {W : World} (h : handlesMet Tryd.prog [("errors.errorType", Rows.laid_errors_errorType)] W) : W.cell? ⟨0, 0, none⟩ = some (.iface 111 (.agg #[.pointer (some ⟨5, 33, none⟩)])) := by
  obtain ⟨name, u, ty, e1, e2, e3, e4, e5⟩ := h _ (List.mem_singleton.2 rfl)
  have en : name = [101, 114, 114, 111, 114] := (Option.some.inj e1).symm
  subst en
  obtain rfl := Option.some.inj (rt_is.symm.trans e2)
  have hm : ty ∈ (List.range 178).filter fun t => Tryd.prog.rowNamed t [101, 114, 114, 111, 114] := List.mem_filter.2 ⟨List.mem_range.2 (by rw [← types_n]; exact e3), e4⟩
  rw [oneRow] at hm
  obtain rfl := List.mem_singleton.1 hm
  have hh : typeHandle Tryd.prog 33 = .pointer (some ⟨5, 33, none⟩) := by kernel_rfl
  rw [hh] at e5
  simpa using World.var?_cell g_err e5 0
/-- What a row's premises give. -/
theorem tabs_of {W : World} (h : laidMetH Tryd.prog [("math/bits.deBruijn32tab", Rows.laid_math_bits_deBruijn32tab), ("math/bits.deBruijn64tab", Rows.laid_math_bits_deBruijn64tab), ("internal/strconv.uint64pow10", Rows.laid_internal_strconv_uint64pow10), ("errors.errorType", Rows.laid_errors_errorType), ("rung/code.operators", Rows.laid_rung_code_operators)] W) : Tabs W := by
  have h' : laidMet Tryd.prog [("math/bits.deBruijn32tab", Rows.laid_math_bits_deBruijn32tab), ("math/bits.deBruijn64tab", Rows.laid_math_bits_deBruijn64tab), ("internal/strconv.uint64pow10", Rows.laid_internal_strconv_uint64pow10), ("rung/code.operators", Rows.laid_rung_code_operators)] W ∧ handlesMet Tryd.prog [("errors.errorType", Rows.laid_errors_errorType)] W := h
  obtain ⟨t, fr, ho⟩ := ops_of_laid h'.1.tail.tail.tail
  have hp := pow_of_laid h'.1.tail.tail
  refine ⟨err_of_laid h'.2, fun j u hj => ?_, fun u hu => ?_, big_of_laid h'.1.tail⟩
  · simp [World.cell?, ho, hj]
  · unfold Lib.TabIs at hp ⊢
    rw [← hp]
    simp only [World.var?, g_pow, Option.bind_some]
    rw [hu]
/-- For the witness: a world with the tables holding what their initialisers lay. -/
def litV : DataW Unit → Value
  | .lit (.int k n) => .int k n
  | _ => .int .u8 0
def tabV : DataW Unit → Array Value
  | .agg l => (l.map litV).toArray
  | _ => #[]
def setV (cs : Array Value) : Obj → Obj
  | .cells _ t frozen => .cells cs t frozen
  | o => o
def laidIn (w : World) : World :=
  { w with heap := ((((w.heap.modify 0 (setV #[.iface 111 (.agg #[.pointer (some ⟨5, 33, none⟩)])])).modify 1 (setV ops75.toArray)).modify 2 (setV (tabV Rows.laid_internal_strconv_uint64pow10))).modify 3 (setV (tabV Rows.laid_math_bits_deBruijn32tab))).modify 4 (setV (tabV Rows.laid_math_bits_deBruijn64tab)) }
end Go.Proofs.YtkknfolahfmghaaDoor
