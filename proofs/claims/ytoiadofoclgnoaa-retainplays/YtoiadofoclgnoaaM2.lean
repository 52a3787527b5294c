/- Numbers of eight bytes; what a write splices (stage 9). -/
import Derived.Test.YtoiadofoclgnoaaS5
import Derived.Test.YtoiadofoclgnoaaC1
namespace Go.Proofs.Ytoiadofoclgnoaa
open Go.RowKit
open Pdu
/-- A number of eight bytes, the highest first. -/
def be8 (x : Nat) : List Nat := [x / 72057594037927936 % 256, x / 281474976710656 % 256, x / 1099511627776 % 256, x / 4294967296 % 256, x / 16777216 % 256, x / 65536 % 256, x / 256 % 256, x % 256]
theorem be8_len (x : Nat) : (be8 x).length = 8 := rfl
theorem be8_bytes (x : Nat) : Bytes (be8 x) := by
  intro y hy
  simp only [be8, List.mem_cons, List.not_mem_nil, or_false] at hy
  omega
def fold8 (l : List Nat) : Nat := l.foldl (fun x b => x * 256 + b) 0
/-- The number of eight bytes at a. -/
def gv (l : List Nat) (a : Nat) : Nat := fold8 ((l.drop a).take 8)
theorem fold8_be8 {x : Nat} (h : x < 18446744073709551616) : fold8 (be8 x) = x := by
  simp only [fold8, be8, List.foldl_cons, List.foldl_nil]
  omega
theorem fold8_snoc (l : List Nat) (b : Nat) : fold8 (l ++ [b]) = fold8 l * 256 + b := by
  unfold fold8
  rw [List.foldl_append]
  rfl
theorem fold8_from {l : List Nat} (h : Bytes l) (c : Nat) : l.foldl (fun x b => x * 256 + b) c < (c + 1) * 256 ^ l.length := by
  induction l generalizing c with
  | nil => simp
  | cons b l ih =>
    have h1 := ih (fun x hx => h x (by simp [hx])) (c * 256 + b)
    have h2 : b < 256 := h b (by simp)
    rw [List.foldl_cons, List.length_cons, Nat.pow_succ]
    refine Nat.lt_of_lt_of_le h1 ?_
    rw [Nat.mul_comm (256 ^ l.length) 256, ← Nat.mul_assoc]
    exact Nat.mul_le_mul_right _ (by omega)
theorem fold8_lt {l : List Nat} (h : Bytes l) : fold8 l < 256 ^ l.length := by
  have := fold8_from h 0
  rwa [Nat.zero_add, Nat.one_mul] at this
theorem gv_lt {l : List Nat} (h : Bytes l) (a : Nat) : gv l a < 18446744073709551616 := by
  have h1 := fold8_lt ((h.drop a).take 8)
  have h2 : ((l.drop a).take 8).length ≤ 8 := List.length_take_le ..
  have h3 : 256 ^ ((l.drop a).take 8).length ≤ 256 ^ 8 := Nat.pow_le_pow_right (by decide) h2
  unfold gv
  have h4 : (256 : Nat) ^ 8 = 18446744073709551616 := by decide
  omega
theorem take_snoc {l : List Nat} {k : Nat} (h : k < l.length) : l.take (k + 1) = l.take k ++ [l.getD k 0] := by
  rw [List.take_add_one, List.getElem?_eq_getElem h, List.getD_eq_getElem?_getD, List.getElem?_eq_getElem h]
  rfl
theorem getD_drop (l : List Nat) (a k : Nat) : (l.drop a).getD k 0 = l.getD (a + k) 0 := by
  rw [List.getD_eq_getElem?_getD, List.getElem?_drop, List.getD_eq_getElem?_getD]
theorem splice_nil {α : Type} (l : List α) (a : Nat) : splice l a [] = l := by simp [splice]
theorem splice_snoc {l ys : List Nat} {a : Nat} (h : a + ys.length < l.length) (y : Nat) : (splice l a ys).set (a + ys.length) y = splice l a (ys ++ [y]) := by
  unfold splice
  have h1 : (l.take a).length = a := by rw [List.length_take]; omega
  rw [List.set_append_right _ _ (by omega), h1, show a + ys.length - a = ys.length by omega, List.set_append_right _ _ (Nat.le_refl _), Nat.sub_self, List.drop_eq_getElem_cons h, List.set_cons_zero, List.length_append, List.length_singleton, List.append_assoc, Nat.add_assoc]
  rfl
theorem splice_len {l ys : List Nat} {a : Nat} (h : a + ys.length ≤ l.length) : (splice l a ys).length = l.length := length_splice l a ys h
theorem or_64 {x y : Nat} (hx : x < 72057594037927936) (hy : y < 256) : bits .or .u64 ((x : Int) * 256) (y : Int) = ((x * 256 + y : Nat) : Int) := by
  rw [show (x : Int) * 256 = ((256 * x : Nat) : Int) by omega]
  show IntKind.u64.wrap ((BitVec.ofInt 64 ((256 * x : Nat) : Int) ||| BitVec.ofInt 64 (y : Int)).toNat : Int) = _
  have h : (BitVec.ofInt 64 ((256 * x : Nat) : Int) ||| BitVec.ofInt 64 (y : Int)).toNat = 256 * x + y := by
    rw [BitVec.toNat_or, BitVec.ofInt_natCast, BitVec.toNat_ofNat, BitVec.ofInt_natCast, BitVec.toNat_ofNat, Nat.mod_eq_of_lt (by omega), Nat.mod_eq_of_lt (by omega)]
    have := Nat.two_pow_add_eq_or_of_lt (i := 8) (b := y) (by omega) x
    simpa using this.symm
  rw [h, IntKind.wrap_u64]
  omega
/-- Bytes that lie in a block of their own. -/
abbrev Row (w : World) (g : Nat) (l : List Nat) : Prop := w.heap[g]? = some (.cells (u8s l).toArray 5 (0, 0))
theorem Row.lies {w : World} {g : Nat} {l : List Nat} (h : Row w g l) : Lies w g 0 (u8s l) := fun k u hk => by
  rw [Nat.zero_add]
  exact cell_row h hk
theorem Row.lt {w : World} {g : Nat} {l : List Nat} (h : Row w g l) : g < w.heap.size := (Array.getElem?_eq_some_iff.1 h).1
theorem Row.cell {w : World} {g k : Nat} {l : List Nat} (h : Row w g l) (hk : k < l.length) : w.cell? ⟨g, k, none⟩ = some (.int .u8 (l.getD k 0 : Nat)) := cell_row h (u8s_at l k hk)
theorem Row.set {w : World} {g : Nat} {l : List Nat} (h : Row w g l) (k x : Nat) : Row (w.setCell ⟨g, k, none⟩ (.int .u8 (x : Int))) g (l.set k x) := by
  show _ = _
  rw [set_row h, u8s_set]
end Go.Proofs.Ytoiadofoclgnoaa
