/- Frames of Modbus over TCP in plain mathematics. -/
import Derived.Test.YtjfaocpbhhpbdaaB1
namespace Go.Proofs.Ytjfaocpbhhpbdaa
namespace Pdu
/-- A frame's bytes. -/
def mb (id unit : Nat) (pdu : List Nat) : List Nat := wd id ++ (wd 0 ++ (wd (pdu.length + 1) ++ (unit :: pdu)))
/-- What is read of bytes: a frame, how many bytes it has, the error. -/
structure Rd where
  id : Nat
  unit : Nat
  pdu : List Nat
  n : Nat
  e : Nat
def rd (bs : List Nat) : Rd :=
  if bs.length < 6 then ⟨0, 0, [], 0, 0⟩
  else if wordAt bs 2 ≠ 0 then ⟨0, 0, [], 0, 41⟩
  else if ¬ (2 ≤ wordAt bs 4 ∧ wordAt bs 4 ≤ 254) then ⟨0, 0, [], 0, 40⟩
  else if bs.length < 6 + wordAt bs 4 then ⟨0, 0, [], 0, 0⟩
  else ⟨wordAt bs 0, bs.getD 6 0, (bs.drop 7).take (wordAt bs 4 - 1), 6 + wordAt bs 4, 0⟩
theorem mb_length (id unit : Nat) (pdu : List Nat) : (mb id unit pdu).length = pdu.length + 7 := by simp [mb, wd]
theorem mb_bytes {id unit : Nat} {pdu : List Nat} (h : id < 65536) (h2 : unit < 256) (hb : Bytes pdu) (hl : pdu.length ≤ 600) : Bytes (mb id unit pdu) :=
  (wd_bytes h).app ((wd_bytes (by decide)).app ((wd_bytes (by omega)).app (Bytes.cons h2 hb)))
theorem mb_cells (id unit : Nat) (pdu more : List Nat) : mb id unit pdu ++ more = id / 256 :: id % 256 :: 0 :: 0 :: (pdu.length + 1) / 256 :: (pdu.length + 1) % 256 :: unit :: (pdu ++ more) := by simp [mb, wd]
theorem rd_mb (id unit : Nat) (pdu more : List Nat) (hp : 1 ≤ pdu.length ∧ pdu.length ≤ 253) : rd (mb id unit pdu ++ more) = ⟨id, unit, pdu, pdu.length + 7, 0⟩ := by
  have h0 : (mb id unit pdu ++ more).length = pdu.length + 7 + more.length := by rw [List.length_append, mb_length]
  have h1 : wordAt (mb id unit pdu ++ more) 2 = 0 := by rw [mb_cells]; simp [wordAt]
  have h2 : wordAt (mb id unit pdu ++ more) 4 = pdu.length + 1 := by rw [mb_cells]; simp [wordAt]; omega
  have h3 : wordAt (mb id unit pdu ++ more) 0 = id := by rw [mb_cells]; simp [wordAt]; omega
  have h4 : (mb id unit pdu ++ more).getD 6 0 = unit := by rw [mb_cells]; simp
  have h5 : ((mb id unit pdu ++ more).drop 7).take pdu.length = pdu := by rw [mb_cells]; simp
  unfold rd
  rw [h1, h2, h3, h4, if_neg (by omega), if_neg (by simp), if_neg (by omega), if_neg (by omega), show pdu.length + 1 - 1 = pdu.length by omega, h5, show 6 + (pdu.length + 1) = pdu.length + 7 by omega]
theorem getD_take (l : List Nat) (p k : Nat) (h : k < p) : (l.take p).getD k 0 = l.getD k 0 := by
  simp only [List.getD_eq_getElem?_getD, List.getElem?_take, if_pos h]
theorem rd_cut (id unit : Nat) (pdu : List Nat) (hp : 1 ≤ pdu.length ∧ pdu.length ≤ 253) (p : Nat) (h : p < pdu.length + 7) : rd ((mb id unit pdu).take p) = ⟨0, 0, [], 0, 0⟩ := by
  have h0 : ((mb id unit pdu).take p).length = p := by rw [List.length_take, mb_length]; omega
  have e : mb id unit pdu = mb id unit pdu ++ [] := by simp
  unfold rd
  rw [h0]
  by_cases hs : p < 6
  · rw [if_pos hs]
  · have h1 : wordAt ((mb id unit pdu).take p) 2 = 0 := by unfold wordAt; rw [getD_take _ _ _ (by omega), getD_take _ _ _ (by omega), e, mb_cells]; simp
    have h2 : wordAt ((mb id unit pdu).take p) 4 = pdu.length + 1 := by unfold wordAt; rw [getD_take _ _ _ (by omega), getD_take _ _ _ (by omega), e, mb_cells]; simp; omega
    rw [if_neg hs, h1, h2, if_neg (by simp), if_neg (by omega), if_pos (by omega)]
theorem rd_bytes {bs : List Nat} (h : Bytes bs) : Bytes (rd bs).pdu := by
  unfold rd
  repeat' split
  all_goals first | exact Bytes.nil | exact (h.drop 7).take _
end Pdu
end Go.Proofs.Ytjfaocpbhhpbdaa
