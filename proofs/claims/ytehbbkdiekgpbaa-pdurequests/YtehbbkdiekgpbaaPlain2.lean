/- Requests and replies in plain mathematics: which there are, their bytes. -/
import Derived.Test.YtehbbkdiekgpbaaPlain
namespace Go.Proofs.Ytehbbkdiekgpbaa
namespace Pdu
structure Rq where
  fn : Nat
  addr : Nat
  n : Nat
  addr2 : Nat
  bits : List Bool
  regs : List Nat
structure Rq.Ok (q : Rq) : Prop where
  fn : q.fn < 256
  addr : q.addr < 65536
  n : q.n < 65536
  addr2 : q.addr2 < 65536
  regs : Words q.regs
abbrev FitsN (fn n a2 nb nr : Nat) : Prop :=
  ((fn = 1 ∨ fn = 2) ∧ 1 ≤ n ∧ n ≤ 2000 ∧ nb = 0 ∧ nr = 0 ∧ a2 = 0) ∨ ((fn = 3 ∨ fn = 4) ∧ 1 ≤ n ∧ n ≤ 125 ∧ nb = 0 ∧ nr = 0 ∧ a2 = 0) ∨ (fn = 5 ∧ n = 0 ∧ nb = 1 ∧ nr = 0 ∧ a2 = 0) ∨ (fn = 6 ∧ n = 0 ∧ nb = 0 ∧ nr = 1 ∧ a2 = 0) ∨ (fn = 15 ∧ n = 0 ∧ 1 ≤ nb ∧ nb ≤ 1968 ∧ nr = 0 ∧ a2 = 0) ∨ (fn = 16 ∧ n = 0 ∧ nb = 0 ∧ 1 ≤ nr ∧ nr ≤ 123 ∧ a2 = 0) ∨ (fn = 22 ∧ n = 0 ∧ nb = 0 ∧ nr = 2 ∧ a2 = 0) ∨ (fn = 23 ∧ 1 ≤ n ∧ n ≤ 125 ∧ nb = 0 ∧ 1 ≤ nr ∧ nr ≤ 121)
abbrev Rq.Fits (q : Rq) : Prop := FitsN q.fn q.n q.addr2 q.bits.length q.regs.length
def coil (on : Bool) : Nat := if on then 65280 else 0
theorem coil_lt (on : Bool) : coil on < 65536 := by cases on <;> decide
def tail (q : Rq) : List Nat :=
  if q.fn = 5 then wd (coil (q.bits.getD 0 false))
  else if q.fn = 6 ∨ q.fn = 22 then wds q.regs
  else if q.fn = 15 then wd q.bits.length ++ ((pack q.bits).length % 256 :: pack q.bits)
  else if q.fn = 16 then wd q.regs.length ++ (2 * q.regs.length % 256 :: wds q.regs)
  else if q.fn = 23 then wd q.n ++ (wd q.addr2 ++ (wd q.regs.length ++ (2 * q.regs.length % 256 :: wds q.regs)))
  else wd q.n
def reqBytes (q : Rq) : List Nat := q.fn :: (wd q.addr ++ tail q)
structure Rp where
  fn : Nat
  exc : Nat
  addr : Nat
  n : Nat
  bits : List Bool
  regs : List Nat
structure Rp.Ok (q : Rp) : Prop where
  fn : q.fn < 256
  exc : q.exc < 256
  addr : q.addr < 65536
  n : q.n < 65536
  regs : Words q.regs
abbrev RFitsN (fn exc addr n nb nr : Nat) : Prop :=
  (exc ≠ 0 ∧ fn < 128 ∧ addr = 0 ∧ n = 0 ∧ nb = 0 ∧ nr = 0) ∨ (exc = 0 ∧ (((fn = 1 ∨ fn = 2) ∧ 1 ≤ nb ∧ nb ≤ 2000 ∧ nr = 0 ∧ n = 0 ∧ addr = 0) ∨ ((fn = 3 ∨ fn = 4 ∨ fn = 23) ∧ 1 ≤ nr ∧ nr ≤ 125 ∧ nb = 0 ∧ n = 0 ∧ addr = 0) ∨ (fn = 5 ∧ nb = 1 ∧ nr = 0 ∧ n = 0) ∨ (fn = 6 ∧ nr = 1 ∧ nb = 0 ∧ n = 0) ∨ (fn = 15 ∧ 1 ≤ n ∧ n ≤ 1968 ∧ nb = 0 ∧ nr = 0) ∨ (fn = 16 ∧ 1 ≤ n ∧ n ≤ 123 ∧ nb = 0 ∧ nr = 0) ∨ (fn = 22 ∧ nr = 2 ∧ nb = 0 ∧ n = 0)))
abbrev Rp.Fits (r : Rp) : Prop := RFitsN r.fn r.exc r.addr r.n r.bits.length r.regs.length
def rtail (r : Rp) : List Nat :=
  if r.fn = 5 then wd r.addr ++ wd (coil (r.bits.getD 0 false))
  else if r.fn = 6 ∨ r.fn = 22 then wd r.addr ++ wds r.regs
  else if r.fn = 15 ∨ r.fn = 16 then wd r.addr ++ wd r.n
  else if r.fn = 1 ∨ r.fn = 2 then (pack r.bits).length % 256 :: pack r.bits
  else 2 * r.regs.length % 256 :: wds r.regs
def repBytes (r : Rp) : List Nat := if r.exc = 0 then r.fn :: rtail r else [r.fn + 128, r.exc]
theorem wd_length (x : Nat) : (wd x).length = 2 := rfl
theorem reqBytes_bytes {q : Rq} (h : q.Ok) (hb : q.bits.length < 65536) (hr : q.regs.length < 65536) : Bytes (reqBytes q) := by
  refine Bytes.cons h.fn ((wd_bytes h.addr).app ?_)
  unfold tail
  split
  · exact wd_bytes (coil_lt _)
  split
  · exact wds_bytes h.regs
  split
  · exact (wd_bytes hb).app (Bytes.cons (Nat.mod_lt _ (by decide)) (pack_bytes _))
  split
  · exact (wd_bytes hr).app (Bytes.cons (Nat.mod_lt _ (by decide)) (wds_bytes h.regs))
  split
  · exact (wd_bytes h.n).app ((wd_bytes h.addr2).app ((wd_bytes hr).app (Bytes.cons (Nat.mod_lt _ (by decide)) (wds_bytes h.regs))))
  · exact wd_bytes h.n
theorem repBytes_bytes {r : Rp} (h : r.Ok) (hf : r.Fits) : Bytes (repBytes r) := by
  unfold repBytes
  split
  · refine Bytes.cons h.fn ?_
    unfold rtail
    split
    · exact (wd_bytes h.addr).app (wd_bytes (coil_lt _))
    split
    · exact (wd_bytes h.addr).app (wds_bytes h.regs)
    split
    · exact (wd_bytes h.addr).app (wd_bytes h.n)
    split
    · exact Bytes.cons (Nat.mod_lt _ (by decide)) (pack_bytes _)
    · exact Bytes.cons (Nat.mod_lt _ (by decide)) (wds_bytes h.regs)
  · have : r.fn < 128 := by unfold Rp.Fits RFitsN at hf; omega
    exact Bytes.cons (by omega) (Bytes.cons h.exc Bytes.nil)
end Pdu
end Go.Proofs.Ytehbbkdiekgpbaa
