/- Texts cut at a head and at a point: the library's CutPrefix and Cut (stage 12). -/
import Derived.Test.YtnponognncdkcaaDoorN1
import Derived.Test.YtnponognncdkcaaDoorIx
import Derived.Deep.QuietTactic
import Derived.BigQuiet
namespace Go.Proofs.YtnponognncdkcaaDoor
open Go.RowKit
open Adr
/-- Nothing but draws. -/
structure Same (w w' : World) : Prop where
  os : w'.os = w.os
  tape : w'.tape = w.tape
  output : w'.output = w.output
  heap : w'.heap = w.heap
theorem Same.refl (w : World) : Same w w := ⟨rfl, rfl, rfl, rfl⟩
theorem Same.drewN (w : World) (d : Nat) : Same w (w.drewN d) := ⟨rfl, rfl, rfl, rfl⟩
theorem Same.drew (w : World) : Same w w.drew := ⟨rfl, rfl, rfl, rfl⟩
theorem Same.trans {a b c : World} (h : Same a b) (k : Same b c) : Same a c := ⟨k.os.trans h.os, k.tape.trans h.tape, k.output.trans h.output, k.heap.trans h.heap⟩
theorem Same.below {w w' : World} (h : Same w w') : Below w.heap.size w w' := ⟨h.os, h.tape, h.output, by rw [h.heap]; exact Nat.le_refl _, fun j _ => by rw [h.heap]⟩
/-- A list as a text. -/
def tx (l : List UInt8) : ByteArray := ⟨l.toArray⟩
theorem tx_list (l : List UInt8) : (tx l).data.toList = l := by simp [tx]
theorem tx_toList (l : List UInt8) : (tx l).toList = l := by rw [Lib.toList_data, tx_list]
theorem tx_size (l : List UInt8) : (tx l).size = l.length := by rw [Lib.size_eq, tx_list]
theorem tx_of (s : ByteArray) : tx s.data.toList = s := Lib.mk_data s
theorem tx_extract (s : ByteArray) (a b : Nat) : s.extract a b = tx ((s.data.toList.drop a).take (b - a)) := Lib.extract_eq s a b
theorem tx_drop (s : ByteArray) (a : Nat) : s.extract a s.size = tx (s.data.toList.drop a) := by
  rw [tx_extract, List.take_of_length_le]
  rw [List.length_drop, ← Lib.size_eq]
  exact Nat.le_refl _
theorem tx_take (s : ByteArray) (a : Nat) : s.extract 0 a = tx (s.data.toList.take a) := by rw [tx_extract]; rfl
/-- Where the first point stands; how many signs there are, where there is none. -/
def dot : List UInt8 → Nat
  | [] => 0
  | b :: l => if b == 46 then 0 else dot l + 1
theorem dot_le : ∀ (l : List UInt8), dot l ≤ l.length
  | [] => Nat.le_refl _
  | b :: l => by
    have := dot_le l
    unfold dot
    rw [List.length_cons]
    split <;> omega
theorem index_dot : ∀ (l : List UInt8), Lib.indexByte l 46 = if dot l < l.length then (dot l : Int) else -1
  | [] => rfl
  | b :: l => by
    have ih := index_dot l
    unfold Lib.indexByte dot
    rw [List.length_cons]
    by_cases hb : (b == 46) = true
    · rw [if_pos hb, if_pos hb, if_pos (by omega)]; rfl
    · rw [if_neg hb, if_neg hb, ih]
      by_cases h : dot l < l.length
      · rw [if_pos h, if_neg (show ¬ (((dot l : Int) == -1) = true) by simp), if_pos (by omega)]; omega
      · rw [if_neg h, if_pos (by rfl), if_neg (by omega)]
theorem index_c (s : ByteArray) (w : World) : Calls Tryd.prog 41 #[.string s, .string ⟨#[46]⟩] w fun e w' => e = .returned (.int .i64 (Lib.indexByte s.data.toList 46)) ∧ w' = w :=
  findOneIn s 46 w
set_option maxHeartbeats 2000000 in
theorem cut_no (s : ByteArray) (w : World) (h : Lib.indexByte s.data.toList 46 = -1) : Calls Tryd.prog 87 #[.string s, .string ⟨#[46]⟩] w fun e w' => e = .returned (.tuple #[.string s, .string ⟨#[]⟩, .bool false]) ∧ Same w w' := by
  go_enter Tryd.func87, Tryd.ntmps87
  go_wp2_with (go_at_call 41; refine (index_c _ _).mono ?_; rintro e w' ⟨rfl, rfl⟩; rw [h])
  go_ret3
  exact ⟨rfl, Same.refl _⟩
set_option maxHeartbeats 2000000 in
theorem cut_yes (s : ByteArray) (w : World) (i : Nat) (hs : s.size ≤ 70000) (hi : i < s.size) (h : Lib.indexByte s.data.toList 46 = i) : Calls Tryd.prog 87 #[.string s, .string ⟨#[46]⟩] w fun e w' => e = .returned (.tuple #[.string (s.extract 0 i), .string (s.extract (i + 1) s.size), .bool true]) ∧ Same w w' := by
  have c1 : (0 : Int) ≤ i := by omega
  have c2 : (i : Int) ≤ s.size := by omega
  have c3 : (0 : Int) ≤ (i : Int) + 1 := by omega
  have c4 : (i : Int) + 1 ≤ s.size := by omega
  have c5 : IntKind.i64.wrap ((i : Int) + 1) = (i : Int) + 1 := by rw [IntKind.wrap_i64]; omega
  have c6 : ((i : Int) + 1).toNat = i + 1 := by omega
  go_enter Tryd.func87, Tryd.ntmps87
  go_wp2_with (go_at_call 41; refine (index_c _ _).mono ?_; rintro e w' ⟨rfl, rfl⟩; rw [h])
  go_region
  go_wp2
  go_ret3
  exact ⟨rfl, Same.drew _⟩
/-- Cut at the first point. -/
theorem cut_c (s : ByteArray) (w : World) (hs : s.size ≤ 70000) : Calls Tryd.prog 83 #[.string s, .string ⟨#[46]⟩] w fun e w' => (∃ f, e = .returned (.tuple #[.string (tx (s.data.toList.take (dot s.data.toList))), .string (tx (s.data.toList.drop (dot s.data.toList + 1))), .bool f])) ∧ Same w w' := by
  have hx := index_dot s.data.toList
  have hle := dot_le s.data.toList
  rw [← Lib.size_eq] at hx hle
  generalize dot s.data.toList = d at *
  by_cases h : d < s.size
  · rw [if_pos h] at hx
    replace hx := hid_as hx
    go_enter Tryd.func83, Tryd.ntmps83
    go_wp2_with (go_at_call 87; refine (cut_yes s _ d hs h hx.out).mono ?_; rintro e w' ⟨rfl, k⟩)
    go_ret3
    exact ⟨⟨true, by rw [tx_take, tx_drop]; rfl⟩, k⟩
  · rw [if_neg h] at hx
    replace hx := hid_as hx
    go_enter Tryd.func83, Tryd.ntmps83
    go_wp2_with (go_at_call 87; refine (cut_no s _ hx.out).mono ?_; rintro e w' ⟨rfl, k⟩)
    go_ret3
    exact ⟨⟨false, by rw [List.take_of_length_le (by rw [← Lib.size_eq]; omega), List.drop_eq_nil_of_le (by rw [← Lib.size_eq]; omega), tx_of]; rfl⟩, k⟩
set_option maxHeartbeats 2000000 in
theorem head_no (s p : ByteArray) (w : World) (h : Lib.hasPrefix s.data.toList p.data.toList = false) : Calls Tryd.prog 63 #[.string s, .string p] w fun e w' => e = .returned (.tuple #[.string s, .bool false]) ∧ w' = w := by
  rw [← Lib.hasPrefix_raw] at h
  by_cases h1 : p.size ≤ s.size
  · have h2 : ((s.extract 0 p.size).toList == p.toList) = false := by rw [decide_eq_true h1] at h; simpa using h
    clear h
    go_enter Tryd.func63, Tryd.ntmps63
    go_wp2
    go_ret2
    exact ⟨rfl, rfl⟩
  · clear h
    go_enter Tryd.func63, Tryd.ntmps63
    go_wp2
    go_ret2
    exact ⟨rfl, rfl⟩
set_option maxHeartbeats 2000000 in
theorem head_yes (s p : ByteArray) (w : World) (h : Lib.hasPrefix s.data.toList p.data.toList = true) : Calls Tryd.prog 63 #[.string s, .string p] w fun e w' => e = .returned (.tuple #[.string (tx (s.data.toList.drop p.data.toList.length)), .bool true]) ∧ w' = w := by
  rw [← Lib.hasPrefix_raw, Bool.and_eq_true, decide_eq_true_eq] at h
  obtain ⟨h1, h2⟩ := h
  rw [← Lib.size_eq, ← tx_drop]
  go_enter Tryd.func63, Tryd.ntmps63
  go_wp2
  go_ret2
  exact ⟨rfl, rfl⟩
/-- A text without a head that it may have. -/
theorem head_c (s p : ByteArray) (w : World) : Calls Tryd.prog 63 #[.string s, .string p] w fun e w' => e = .returned (.tuple #[.string (if Lib.hasPrefix s.data.toList p.data.toList then tx (s.data.toList.drop p.data.toList.length) else s), .bool (Lib.hasPrefix s.data.toList p.data.toList)]) ∧ w' = w := by
  cases h : Lib.hasPrefix s.data.toList p.data.toList with
  | true => exact head_yes s p w h
  | false => exact head_no s p w h
end Go.Proofs.YtnponognncdkcaaDoor
