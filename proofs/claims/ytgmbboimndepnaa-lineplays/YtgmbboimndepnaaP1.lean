/- Frames of Modbus over a serial line in plain mathematics. -/
import Derived.Test.YtgmbboimndepnaaS1
namespace Go.Proofs.Ytgmbboimndepnaa
namespace Pdu
open Crc
/-- A sum's bytes, the lower one first. -/
def s2 (s : Nat) : List Nat := [s % 256, s / 256]
/-- A frame's bytes. -/
def rt (unit : Nat) (pdu : List Nat) : List Nat := (unit :: pdu) ++ s2 (s16 (unit :: pdu))
/-- What is read of bytes: the unit, the PDU, the error. -/
structure Rd where
  unit : Nat
  pdu : List Nat
  e : Nat
def rd (bs : List Nat) : Rd :=
  if ¬ (4 ≤ bs.length ∧ bs.length ≤ 256) then ⟨0, [], 51⟩
  else if bs.drop (bs.length - 2) = s2 (s16 (bs.take (bs.length - 2))) then ⟨bs.getD 0 0, (bs.take (bs.length - 2)).drop 1, 0⟩
  else ⟨0, [], 50⟩
theorem s2_bytes {s : Nat} (h : s < 65536) : Bytes (s2 s) := by
  intro y hy
  simp only [s2, List.mem_cons, List.not_mem_nil, or_false] at hy
  omega
theorem rt_length (unit : Nat) (pdu : List Nat) : (rt unit pdu).length = pdu.length + 3 := by simp [rt, s2]
theorem rt_bytes {unit : Nat} {pdu : List Nat} (h : unit < 256) (hb : Bytes pdu) : Bytes (rt unit pdu) := (Bytes.cons h hb).app (s2_bytes (s16_lt (Bytes.cons h hb)))
theorem rt_take (unit : Nat) (pdu : List Nat) : (rt unit pdu).take (pdu.length + 1) = unit :: pdu := by unfold rt; exact List.take_left' (by simp)
theorem rt_drop (unit : Nat) (pdu : List Nat) : (rt unit pdu).drop (pdu.length + 1) = s2 (s16 (unit :: pdu)) := by unfold rt; exact List.drop_left' (by simp)
theorem rd_rt (unit : Nat) (pdu : List Nat) (hp : 1 ≤ pdu.length ∧ pdu.length ≤ 253) : rd (rt unit pdu) = ⟨unit, pdu, 0⟩ := by
  unfold rd
  rw [rt_length, if_neg (by omega), show pdu.length + 3 - 2 = pdu.length + 1 by omega, rt_take, rt_drop, if_pos rfl]
  rfl
theorem rd_bytes {bs : List Nat} (h : Bytes bs) : Bytes (rd bs).pdu := by
  unfold rd
  repeat' split
  all_goals first | exact Bytes.nil | exact (h.take _).drop 1
theorem rd_unit {bs : List Nat} (h : Bytes bs) : (rd bs).unit < 256 := by
  unfold rd
  repeat' split
  all_goals first | exact h.at 0 | decide
/-- The k-th part. -/
def pt (ls : List (List Nat)) (k : Nat) : List Nat := ls.getD k []
theorem flat_take (ls : List (List Nat)) (k : Nat) (h : k < ls.length) : (ls.take (k + 1)).flatten = (ls.take k).flatten ++ pt ls k := by
  unfold pt
  rw [List.take_add_one, List.getElem?_eq_getElem h, List.flatten_append, List.getD_eq_getElem?_getD, List.getElem?_eq_getElem h]
  simp
theorem flat_le (ls : List (List Nat)) (k : Nat) : (ls.take k).flatten.length ≤ ls.flatten.length := by
  have h := congrArg (fun l : List (List Nat) => l.flatten.length) (List.take_append_drop k ls)
  simp only [List.flatten_append, List.length_append] at h
  omega
end Pdu
end Go.Proofs.Ytgmbboimndepnaa
