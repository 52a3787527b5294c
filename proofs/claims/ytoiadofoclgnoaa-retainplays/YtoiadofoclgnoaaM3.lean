/- A record in a block, in plain mathematics (stage 9). -/
import Derived.Test.YtoiadofoclgnoaaW3
namespace Go.Proofs.Ytoiadofoclgnoaa
open Go.RowKit
open Pdu
def i64s (l : List Int) : List Value := l.map fun x => Value.int .i64 x
theorem i64s_len (l : List Int) : (i64s l).length = l.length := by simp [i64s]
theorem i64s_at (l : List Int) (k : Nat) (h : k < l.length) : (i64s l)[k]? = some (.int .i64 (l.getD k 0)) := by simp [i64s, List.getD_eq_getElem?_getD, List.getElem?_eq_getElem h]
theorem i64s_one (l : List Int) : ∀ u ∈ i64s l, u.oneCell' = true := by
  intro u hu
  simp only [i64s, List.mem_map] at hu
  obtain ⟨x, _, rfl⟩ := hu
  rfl
theorem i64s_set (l : List Int) (i : Nat) (x : Int) : i64s (l.set i x) = (i64s l).set i (.int .i64 x) := by simp [i64s, List.map_set]
theorem i64s_app (a b : List Int) : i64s (a ++ b) = i64s a ++ i64s b := by simp [i64s]
/-- Numbers of 64 bits with a sign. -/
def Ints (l : List Int) : Prop := ∀ x ∈ l, -9223372036854775808 ≤ x ∧ x ≤ 9223372036854775807
theorem Ints.at {l : List Int} (h : Ints l) (k : Nat) : -9223372036854775808 ≤ l.getD k 0 ∧ l.getD k 0 ≤ 9223372036854775807 := by
  by_cases hk : k < l.length
  · rw [List.getD_eq_getElem?_getD, List.getElem?_eq_getElem hk]
    exact h _ (List.getElem_mem hk)
  · rw [List.getD_eq_getElem?_getD, List.getElem?_eq_none (by omega)]
    decide
/-- A number as one without a sign. -/
def nm (x : Int) : Nat := (x % 18446744073709551616).toNat
theorem nm_is (x : Int) : x % 18446744073709551616 = (nm x : Int) := by
  unfold nm
  omega
theorem nm_lt (x : Int) : nm x < 18446744073709551616 := by
  have := nm_is x
  omega
/-- .. and back. -/
def sg (n : Nat) : Int := if n < 9223372036854775808 then (n : Int) else (n : Int) - 18446744073709551616
theorem sg_nm {x : Int} (h1 : -9223372036854775808 ≤ x) (h2 : x ≤ 9223372036854775807) : sg (nm x) = x := by
  have := nm_is x
  unfold sg
  split <;> omega
theorem sg_ok {n : Nat} (h : n < 18446744073709551616) : -9223372036854775808 ≤ sg n ∧ sg n ≤ 9223372036854775807 := by
  unfold sg
  split <;> omega
theorem sg_is {n : Nat} (h : n < 18446744073709551616) : IntKind.i64.wrap (n : Int) = sg n := by
  rw [IntKind.wrap_i64]
  unfold sg
  split <;> omega
def zs (n : Nat) : List Nat := List.replicate n 0
theorem zs_len (n : Nat) : (zs n).length = n := by simp [zs]
theorem zs_bytes (n : Nat) : Bytes (zs n) := fun x hx => by rw [List.eq_of_mem_replicate hx]; decide
theorem zs_drop (n k : Nat) : (zs n).drop k = zs (n - k) := by simp [zs]
/-- A block that is filled so far. -/
def fl (sz : Nat) (A : List Nat) : List Nat := 0 :: 0 :: (A ++ zs (sz - 2 - A.length))
theorem fl_len {sz : Nat} {A : List Nat} (h : A.length + 2 ≤ sz) : (fl sz A).length = sz := by
  simp only [fl, List.length_cons, List.length_append, zs_len]
  omega
theorem fl_nil {sz : Nat} (h : 2 ≤ sz) : fl sz [] = zs sz := by
  obtain ⟨m, rfl⟩ : ∃ m, sz = m + 2 := ⟨sz - 2, by omega⟩
  simp [fl, zs, List.replicate_succ]
theorem splice_cons {l B : List Nat} (a b : Nat) (i : Nat) : splice (a :: b :: l) (2 + i) B = a :: b :: splice l i B := by
  unfold splice
  rw [show 2 + i = i + 1 + 1 by omega, List.take_succ_cons, List.take_succ_cons, show i + 1 + 1 + B.length = i + B.length + 1 + 1 by omega, List.drop_succ_cons, List.drop_succ_cons]
  rfl
theorem splice_mid (A B : List Nat) (m : Nat) : splice (A ++ zs m) A.length B = A ++ (B ++ zs (m - B.length)) := by
  unfold splice
  rw [List.take_left' rfl, ← List.drop_drop, List.drop_left' rfl, zs_drop]
theorem fl_put {sz a : Nat} {A B : List Nat} (ha : a = 2 + A.length) : splice (fl sz A) a B = fl sz (A ++ B) := by
  subst ha
  unfold fl
  rw [splice_cons, splice_mid, List.length_append, List.append_assoc, Nat.sub_sub _ A.length]
def nmb (l : List Int) : List Nat := l.flatMap fun x => be8 (nm x)
theorem nmb_len (l : List Int) : (nmb l).length = 8 * l.length := by
  induction l with
  | nil => rfl
  | cons a l ih =>
    simp only [nmb, List.flatMap_cons, List.length_append, List.length_cons, be8_len] at *
    omega
theorem nmb_bytes (l : List Int) : Bytes (nmb l) := by
  intro y hy
  simp only [nmb, List.mem_flatMap] at hy
  obtain ⟨x, _, hy⟩ := hy
  exact be8_bytes _ y hy
theorem nmb_take_succ {l : List Int} {k : Nat} (h : k < l.length) : nmb (l.take (k + 1)) = nmb (l.take k) ++ be8 (nm (l.getD k 0)) := by
  unfold nmb
  rw [List.take_add_one, List.flatMap_append, List.getElem?_eq_getElem h, List.getD_eq_getElem?_getD, List.getElem?_eq_getElem h]
  simp
def bd (t s : Nat) (c : Nat) (l : List Int) : List Nat := be8 t ++ (be8 s ++ (be8 c ++ nmb l))
theorem bd_len (t s c : Nat) (l : List Int) : (bd t s c l).length = 24 + 8 * l.length := by
  simp only [bd, List.length_append, be8_len, nmb_len]
  omega
theorem bd_bytes (t s c : Nat) (l : List Int) : Bytes (bd t s c l) := (be8_bytes _).app ((be8_bytes _).app ((be8_bytes _).app (nmb_bytes _)))
theorem bd_step {t s c k : Nat} {l : List Int} (h : k < l.length) : bd t s c (l.take (k + 1)) = bd t s c (l.take k) ++ be8 (nm (l.getD k 0)) := by
  unfold bd
  rw [nmb_take_succ h]
  simp [List.append_assoc]
theorem fl_bytes {sz : Nat} {A : List Nat} (h : Bytes A) : Bytes (fl sz A) := Bytes.cons (by decide) (Bytes.cons (by decide) (h.app (zs_bytes _)))
/-- A block that holds a record, without stamps. -/
def pk (sz t s : Nat) (l : List Int) : List Nat := splice (fl sz (bd t s l.length l)) (sz - 10) (be8 (bsum (fl sz (bd t s l.length l))))
end Go.Proofs.Ytoiadofoclgnoaa
