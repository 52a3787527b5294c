/- The walk of Text: a line (stage 20). -/
import Derived.Test.YtkknfolahfmghaaDoorTT
import Derived.Deep.CutRange
import Derived.Deep.CutBlock
namespace Go.Proofs.YtkknfolahfmghaaDoor
open Go.RowKit
open Fb Cod
namespace Cod
/-- A line of code's text. -/
def lin (i : Nat) (x : Ins) : List UInt8 := Lib.itoa (i : Int) ++ [32] ++ wrd x.op ++ ([32] ++ Lib.itoa x.a) ++ ([32] ++ Lib.itoa x.b) ++ ([32] ++ Lib.itoa x.c) ++ (if x.name.data.toList = [] then [] else [32] ++ x.name.data.toList) ++ [10]
def txt (i : Nat) : List Ins → List UInt8
  | [] => []
  | x :: r => lin i x ++ txt (i + 1) r
theorem txt_app : ∀ (i : Nat) (a b : List Ins), txt i (a ++ b) = txt i a ++ txt (i + a.length) b
  | i, [], b => by simp [txt]
  | i, x :: a, b => by
    simp only [List.cons_append, txt, txt_app (i + 1) a b, List.append_assoc, List.length_cons]
    rw [show i + 1 + a.length = i + (a.length + 1) by omega]
theorem txt_next {L : List Ins} {k : Nat} {x : Ins} (hx : L[k]? = some x) : txt 0 (L.take (k + 1)) = txt 0 (L.take k) ++ lin k x := by
  have hk := (List.getElem?_eq_some_iff.1 hx).1
  rw [List.take_add_one, hx, txt_app, List.length_take, Nat.min_eq_left (by omega), Nat.zero_add]
  simp [txt]
theorem txt_le (L : List Ins) (k : Nat) : (txt 0 (L.take k)).length ≤ (txt 0 L).length := by
  have := congrArg List.length (txt_app 0 (L.take k) (L.drop k))
  rw [List.take_append_drop, List.length_append] at this
  omega
/-- Numbers of sixty-four bits. -/
structure Wf (x : Ins) : Prop where
  a : -9223372036854775808 ≤ x.a ∧ x.a ≤ 9223372036854775807
  b : -9223372036854775808 ≤ x.b ∧ x.b ≤ 9223372036854775807
  c : -9223372036854775808 ≤ x.c ∧ x.c ≤ 9223372036854775807
end Cod
/-- While a line is written: the text so far, the instruction in its box. -/
structure Sx (w1 : World) (b X : Nat) (x : Ins) (l : List UInt8) (W : World) : Prop where
  sb : IsB b b (Lib.byteCells l) W
  xr : W.heap[X]? = some (.cells x.cs.toArray 41 (0, 0))
  kb : Below b w1 W
  tb : Tabs W
  hb : b ≤ W.heap.size
  xb : X ≠ b
  b5 : 5 ≤ b
theorem Sx.below {w1 : World} {b X : Nat} {x : Ins} {l : List UInt8} {W u : World} (h : Sx w1 b X x l W) (k : Below W.heap.size W u) : Sx w1 b X x l u :=
  ⟨h.sb.below k, (k.block X (row_lt h.xr)).trans h.xr, h.kb.trans (k.mono h.hb), h.tb.below k, Nat.le_trans h.hb k.size, h.xb, h.b5⟩
theorem Sx.same {w1 : World} {b X : Nat} {x : Ins} {l : List UInt8} {W u : World} (h : Sx w1 b X x l W) (k : Same W u) : Sx w1 b X x l u := h.below k.below
theorem Sx.wrote {w1 : World} {b X : Nat} {x : Ins} {l l' : List UInt8} {W u : World} (h : Sx w1 b X x l W) (sb : IsB b b (Lib.byteCells l') u) (k : Below b W u) (o : Lib.OthersKept 5 (some b) W u) : Sx w1 b X x l' u :=
  ⟨sb, o X _ h.xr (fun e => h.xb (by simpa using e)) (fun c fz e => by simp at e), h.kb.trans k, h.tb.belowB h.b5 k, Nat.le_trans h.hb k.size, h.xb, h.b5⟩
theorem sx_str {w1 : World} {b X : Nat} {x : Ins} {l : List UInt8} {W : World} (s : ByteArray) (h : Sx w1 b X x l W) (hl : l.length + s.data.toList.length ≤ 3000000000) :
    Calls Tryd.prog 26 #[.pointer (some ⟨b, 0, none⟩), .string s] W fun e w' => e = .returned (.tuple #[.int .i64 s.size, .nilIface]) ∧ Sx w1 b X x (l ++ s.data.toList) w' := by
  refine (wStr_c b b _ s W h.sb ?_ h.hb).mono ?_
  · rw [Lib.byteCells_length, Lib.size_eq]; omega
  · rintro e w' ⟨rfl, h1, h2, h3⟩
    refine ⟨rfl, h.wrote ?_ h2 h3⟩
    rw [Lib.byteCells_append, ← Lib.strCells_eq]
    exact h1
theorem sx_byte {w1 : World} {b X : Nat} {x : Ins} {l : List UInt8} {W : World} (h : Sx w1 b X x l W) (hl : l.length ≤ 3000000000) :
    Calls Tryd.prog 30 #[.pointer (some ⟨b, 0, none⟩), .int .u8 10] W fun e w' => e = .returned .nilIface ∧ Sx w1 b X x (l ++ [10]) w' := by
  refine (wByte_c b b _ 10 W h.sb ?_ h.hb).mono ?_
  · rw [Lib.byteCells_length]; omega
  · rintro e w' ⟨rfl, h1, h2, h3⟩
    refine ⟨rfl, h.wrote ?_ h2 h3⟩
    rw [Lib.byteCells_append]
    exact h1
theorem sx_itoa {w1 : World} {b X : Nat} {x : Ins} {l : List UInt8} {W : World} (n : Int) (h0 : -9223372036854775808 ≤ n) (h1 : n ≤ 9223372036854775807) (h : Sx w1 b X x l W) :
    Calls Tryd.prog 27 #[.int .i64 n] W fun e w' => e = .returned (.string (tx (Lib.itoa n))) ∧ Sx w1 b X x l w' := by
  refine (itoa_c n h0 h1 W h.tb).mono ?_
  rintro e w' ⟨rfl, k, os, rfl⟩
  exact ⟨rfl, h.below (grow_below _ _ _)⟩
theorem sx_fmt {w1 : World} {b X : Nat} {x : Ins} {l : List UInt8} {W : World} (n : Int) (h0 : -9223372036854775808 ≤ n ∧ n ≤ 9223372036854775807) (h : Sx w1 b X x l W) :
    Calls Tryd.prog 29 #[.int .i64 n, .int .i64 10] W fun e w' => e = .returned (.string (tx (Lib.itoa n))) ∧ Sx w1 b X x l w' := by
  refine (fmtInt_c n h0.1 h0.2 W h.tb).mono ?_
  rintro e w' ⟨rfl, k, os, rfl⟩
  exact ⟨rfl, h.below (grow_below _ _ _)⟩
theorem app_list (a b : ByteArray) : (a ++ b).data.toList = a.data.toList ++ b.data.toList := by simp
theorem tx_data (l : List UInt8) : (tx l).data.toList = l := rfl
end Go.Proofs.YtkknfolahfmghaaDoor
