/- What the rows' list gives: the table of areas lies in the program's first block; and a world in which it does (stage 11). -/
import Derived.Test.YtlokdkpfeckdoaaDoorCards
import Derived.Test.YtlokdkpfeckdoaaDoorTie
import Derived.Test.YtlokdkpfeckdoaaDoorA1
import Derived.WalkKit
import Derived.ProofKit
import Derived.OpenShut
import Derived.Deep.DeepHandedRow
import Derived.Lib.LaidTab
import Derived.Lib.Strings
import Derived.Stop.LaidErr
namespace Go.Proofs.YtlokdkpfeckdoaaDoor
open Go.ChangeShapes Go.WideShapes Go.ChangeAt Go.RowKit
open Adr
theorem own : ownKnob Tryd.prog.godebug = none := by kernel_rfl
theorem gAreas : Tryd.prog.globalNamed "rung/addr.areas" = some 0 := by kernel_rfl
theorem gAreasType : (Tryd.prog.globals[0]?).map (·.type) = some 74 := by kernel_rfl
theorem cellsAreas : Tryd.prog.cellsOf 74 = 35 := by kernel_rfl
theorem cellsRow : Tryd.prog.cellsOf 73 = 5 := by kernel_rfl
theorem cellsInt : Tryd.prog.cellsOf 3 = 1 := by kernel_rfl
theorem cellsStr : Tryd.prog.cellsOf 9 = 1 := by kernel_rfl
theorem cellsBool : Tryd.prog.cellsOf 4 = 1 := by kernel_rfl
theorem is_str {H : Type} {enc : TypeId × Value → H} {w : World} {base : Nat} {sp : Nat → Bool} {held : Bool} {fuel : Nat} {cs : List Value} {l : List UInt8} {p : List MemPlace} (h : DataW.trod enc Tryd.prog w base sp held fuel 9 cs = some (.lit (.string l), p)) : cs = [.string ⟨l.toArray⟩] := by
  obtain ⟨s, hc, e, _⟩ := DataW.trod_string Tryd.underlying9 h
  have e1 := congrArg Prod.fst e
  simp only [DataW.lit.injEq, Lit.string.injEq] at e1
  rw [hc, e1, Lib.mk_data]
theorem is_int {H : Type} {enc : TypeId × Value → H} {w : World} {base : Nat} {sp : Nat → Bool} {held : Bool} {fuel : Nat} {cs : List Value} {n : Int} {p : List MemPlace} (h : DataW.trod enc Tryd.prog w base sp held fuel 3 cs = some (.lit (.int .i64 n), p)) : cs = [.int .i64 n] := by
  obtain ⟨m, hc, e, _⟩ := DataW.trod_int Tryd.underlying3 h
  have e1 := congrArg Prod.fst e
  simp only [DataW.lit.injEq, Lit.int.injEq, true_and] at e1
  rw [hc, e1]
theorem is_bool {H : Type} {enc : TypeId × Value → H} {w : World} {base : Nat} {sp : Nat → Bool} {held : Bool} {fuel : Nat} {cs : List Value} {b : Bool} {p : List MemPlace} (h : DataW.trod enc Tryd.prog w base sp held fuel 4 cs = some (.lit (.bool b), p)) : cs = [.bool b] := by
  obtain ⟨m, hc, e⟩ := DataW.trod_bool Tryd.underlying4 h
  have e1 := congrArg Prod.fst e
  simp only [DataW.lit.injEq, Lit.bool.injEq] at e1
  rw [hc, e1]
/-- A row of the table that reads as these five holds these five. -/
theorem is_row {H : Type} {enc : TypeId × Value → H} {w : World} {base : Nat} {sp : Nat → Bool} {held : Bool} {fuel : Nat} {cs : List Value} {n : List UInt8} {s t f : Int} {b : Bool} {p : List MemPlace}
    (h : DataW.trod enc Tryd.prog w base sp held fuel 73 cs = some (.agg [.lit (.string n), .lit (.int .i64 s), .lit (.bool b), .lit (.int .i64 t), .lit (.int .i64 f)], p)) : cs = [.string ⟨n.toArray⟩, .int .i64 s, .bool b, .int .i64 t, .int .i64 f] := by
  cases fuel with
  | zero => simp [DataW.trod] at h
  | succ fuel =>
    simp only [DataW.trod, Tryd.underlying73, cellsRow] at h
    split at h
    · rename_i hl
      obtain ⟨xs, hm, hx⟩ := Option.map_eq_some_iff.1 h
      have hxs : xs.map (·.1) = [.lit (.string n), .lit (.int .i64 s), .lit (.bool b), .lit (.int .i64 t), .lit (.int .i64 f)] := by
        have := congrArg Prod.fst hx
        simpa using this
      have g0 : cs[0]? = some (.string ⟨n.toArray⟩) := by
        obtain ⟨y, hy, hf⟩ := Lib.mapM_at hm 0 _ rfl
        have hy2 : (xs.map (·.1))[0]? = some y.1 := by simp [hy]
        rw [hxs] at hy2
        obtain ⟨y1, y2⟩ := y
        obtain rfl := Option.some.inj hy2
        have q := is_str hf
        have q2 := congrArg (·[0]?) q
        simpa [List.getElem?_take, List.getElem?_drop, cellsInt, cellsStr, cellsBool] using q2
      have g1 : cs[1]? = some (.int .i64 s) := by
        obtain ⟨y, hy, hf⟩ := Lib.mapM_at hm 1 _ rfl
        have hy2 : (xs.map (·.1))[1]? = some y.1 := by simp [hy]
        rw [hxs] at hy2
        obtain ⟨y1, y2⟩ := y
        obtain rfl := Option.some.inj hy2
        have q := is_int hf
        have q2 := congrArg (·[0]?) q
        simpa [List.getElem?_take, List.getElem?_drop, cellsInt, cellsStr, cellsBool] using q2
      have g2 : cs[2]? = some (.bool b) := by
        obtain ⟨y, hy, hf⟩ := Lib.mapM_at hm 2 _ rfl
        have hy2 : (xs.map (·.1))[2]? = some y.1 := by simp [hy]
        rw [hxs] at hy2
        obtain ⟨y1, y2⟩ := y
        obtain rfl := Option.some.inj hy2
        have q := is_bool hf
        have q2 := congrArg (·[0]?) q
        simpa [List.getElem?_take, List.getElem?_drop, cellsInt, cellsStr, cellsBool] using q2
      have g3 : cs[3]? = some (.int .i64 t) := by
        obtain ⟨y, hy, hf⟩ := Lib.mapM_at hm 3 _ rfl
        have hy2 : (xs.map (·.1))[3]? = some y.1 := by simp [hy]
        rw [hxs] at hy2
        obtain ⟨y1, y2⟩ := y
        obtain rfl := Option.some.inj hy2
        have q := is_int hf
        have q2 := congrArg (·[0]?) q
        simpa [List.getElem?_take, List.getElem?_drop, cellsInt, cellsStr, cellsBool] using q2
      have g4 : cs[4]? = some (.int .i64 f) := by
        obtain ⟨y, hy, hf⟩ := Lib.mapM_at hm 4 _ rfl
        have hy2 : (xs.map (·.1))[4]? = some y.1 := by simp [hy]
        rw [hxs] at hy2
        obtain ⟨y1, y2⟩ := y
        obtain rfl := Option.some.inj hy2
        have q := is_int hf
        have q2 := congrArg (·[0]?) q
        simpa [List.getElem?_take, List.getElem?_drop, cellsInt, cellsStr, cellsBool] using q2
      apply List.ext_getElem?
      intro i
      match i with
      | 0 => exact g0
      | 1 => exact g1
      | 2 => exact g2
      | 3 => exact g3
      | 4 => exact g4
      | k + 5 => rw [List.getElem?_eq_none (by omega), List.getElem?_eq_none (by simp)]
    · cases h
/-- The rows of the table. -/
def rowV (k : Nat) : List Value := [.string (hed k), .int .i64 (sz k), .bool (bt k), .int .i64 (tb k), .int .i64 (frs k)]
def rowD {H : Type} (k : Nat) : DataW H := .agg [.lit (.string (hed k).data.toList), .lit (.int .i64 (sz k)), .lit (.bool (bt k)), .lit (.int .i64 (tb k)), .lit (.int .i64 (frs k))]
theorem row_at : ∀ (j : Nat), j < 35 → (rowV (j / 5))[j % 5]? = cells35.toList[j]?
  | 0, _ => rfl
  | 1, _ => rfl
  | 2, _ => rfl
  | 3, _ => rfl
  | 4, _ => rfl
  | 5, _ => rfl
  | 6, _ => rfl
  | 7, _ => rfl
  | 8, _ => rfl
  | 9, _ => rfl
  | 10, _ => rfl
  | 11, _ => rfl
  | 12, _ => rfl
  | 13, _ => rfl
  | 14, _ => rfl
  | 15, _ => rfl
  | 16, _ => rfl
  | 17, _ => rfl
  | 18, _ => rfl
  | 19, _ => rfl
  | 20, _ => rfl
  | 21, _ => rfl
  | 22, _ => rfl
  | 23, _ => rfl
  | 24, _ => rfl
  | 25, _ => rfl
  | 26, _ => rfl
  | 27, _ => rfl
  | 28, _ => rfl
  | 29, _ => rfl
  | 30, _ => rfl
  | 31, _ => rfl
  | 32, _ => rfl
  | 33, _ => rfl
  | 34, _ => rfl
  | j + 35, h => by omega
theorem areas_of_trod {w : World} {sp : Nat → Bool} {held : Bool} {fuel : Nat} {cs : List Value} {p : List MemPlace}
    (h : DataW.trod (H := Unit) (fun _ => ()) Tryd.prog w 0 sp held fuel 74 cs = some (Rows.laid_rung_addr_areas, p)) : cs = cells35.toList := by
  cases fuel with
  | zero => simp [DataW.trod] at h
  | succ fuel =>
    simp only [DataW.trod, Tryd.underlying74, cellsRow, cellsAreas] at h
    split at h
    · rename_i hl
      obtain ⟨xs, hm, hx⟩ := Option.map_eq_some_iff.1 h
      have hxs : xs.map (·.1) = [rowD 0, rowD 1, rowD 2, rowD 3, rowD 4, rowD 5, rowD 6] := by
        have := congrArg Prod.fst hx
        exact DataW.agg.inj this
      have hrow : ∀ i, i < 7 → (cs.drop (i * 5)).take 5 = rowV i := by
        intro i hi
        obtain ⟨y, hy, hf⟩ := Lib.mapM_at hm i i (by simp [hi])
        have hy2 : (xs.map (·.1))[i]? = some y.1 := by simp [hy]
        rw [hxs] at hy2
        obtain ⟨y1, y2⟩ := y
        have e : y1 = rowD i := by
          rcases seven_cases hi with rfl | rfl | rfl | rfl | rfl | rfl | rfl <;> exact (Option.some.inj hy2).symm
        subst e
        have q := is_row hf
        rw [q]
        unfold rowV
        rw [Lib.mk_data]
      apply List.ext_getElem?
      intro j
      by_cases hj : j < 35
      · rw [← row_at j hj, ← hrow (j / 5) (by omega), List.getElem?_take, if_pos (by omega), List.getElem?_drop]
        congr 1
        omega
      · rw [List.getElem?_eq_none (by omega), List.getElem?_eq_none (by show 35 ≤ j; omega)]
    · cases h
theorem areas_of_laid {W : World} (h : laidMetH Tryd.prog [("rung/addr.areas", Rows.laid_rung_addr_areas)] W) : AreasAt W := by
  replace h : laidMet Tryd.prog [("rung/addr.areas", Rows.laid_rung_addr_areas)] W := h
  obtain ⟨ps, ⟨g, t, cs, fuel, p, q, hg, ht, hvar, hd, _, _⟩, _⟩ := h
  obtain rfl := Option.some.inj (gAreas.symm.trans hg)
  obtain rfl := Option.some.inj (gAreasType.symm.trans ht)
  have e := areas_of_trod hd
  have e2 : cs = cells35 := by
    obtain ⟨l⟩ := cs
    exact congrArg Array.mk e
  subst e2
  simp only [World.var?, gAreas, Option.bind_some] at hvar
  split at hvar
  · rename_i cs t fr hh
    exact ⟨t, fr, by rw [hh, Option.some.inj hvar]⟩
  · cases hvar
/-- For the witness: a world with the table holding what its initialiser lays. -/
def setV (cs : Array Value) : Obj → Obj
  | .cells _ t frozen => .cells cs t frozen
  | o => o
def laidIn (w : World) : World :=
  { w with heap := w.heap.modify 0 (setV cells35) }
end Go.Proofs.YtlokdkpfeckdoaaDoor
