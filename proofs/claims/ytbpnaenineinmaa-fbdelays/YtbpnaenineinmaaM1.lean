/- Function blocks in plain mathematics (stage 17). -/
import Derived.Test.YtbpnaenineinmaaB1
namespace Go.Proofs.Ytbpnaenineinmaa
open Go.RowKit
namespace Fb
def w16 (n : Int) : Int := (n + 32768) % 65536 - 32768
def w32 (n : Int) : Int := (n + 2147483648) % 4294967296 - 2147483648
def b01 (b : Bool) : Int := if b then 1 else 0
def tr (n : Int) : Bool := n != 0
/-- A number as one of a kind that blocks have. -/
def wkd (k n : Int) : Int := if k = 1 then b01 (tr n) else if k = 3 then w16 n else w32 n
theorem wkd_0 (k : Int) : wkd k 0 = 0 := by
  unfold wkd
  by_cases h1 : k = 1
  · rw [if_pos h1]; rfl
  · rw [if_neg h1]
    by_cases h3 : k = 3
    · rw [if_pos h3]; rfl
    · rw [if_neg h3]; rfl
theorem w32_w32 (n : Int) : w32 (w32 n) = w32 n := by unfold w32; omega
theorem w32_sub (a b : Int) : w32 (w32 a - w32 b) = w32 (a - b) := by unfold w32; omega
theorem w32_ok (n : Int) : -2147483648 ≤ w32 n ∧ w32 n ≤ 2147483647 := by unfold w32; omega
theorem w16_ok (n : Int) : -32768 ≤ w16 n ∧ w16 n ≤ 32767 := by unfold w16; omega
theorem w32_is {n : Int} (h : -2147483648 ≤ n) (h2 : n ≤ 2147483647) : w32 n = n := by unfold w32; omega
theorem w16_is {n : Int} (h : -32768 ≤ n) (h2 : n ≤ 32767) : w16 n = n := by unfold w16; omega
/-- What a step tells: the outputs, what is kept. -/
structure Rs where
  o : List Int
  k0 : Int
  k1 : Int
  k2 : Int
def one (a b : Int) : Bool := tr a && !tr b
def since (nw k : Int) : Int := max (w32 (nw - k)) 0
def el (pt nw k : Int) : Int := min (since nw k) pt
/-- TON, of an input, PT not below 0, what is kept, the clock. -/
def ton (a : Bool) (pt k0 k1 k2 nw : Int) : Rs :=
  let k1' := if a && !tr k0 then nw else k1
  let k2' := if a && !tr k0 then 0 else k2
  if a then
    if k2' = 1 then ⟨[1, pt], 1, k1', 1⟩
    else ⟨[b01 (decide (pt ≤ el pt nw k1')), el pt nw k1'], 1, k1', b01 (decide (pt ≤ el pt nw k1'))⟩
  else ⟨[0, 0], 0, k1', 0⟩
def tof (a : Bool) (pt et k0 k1 k2 nw : Int) : Rs :=
  if a then ⟨[1, 0], 1, k1, 0⟩
  else
    let k1' := if tr k0 then nw else k1
    let k2' := if tr k0 then 1 else k2
    if k2' = 0 then ⟨[0, et], 0, k1', 0⟩
    else ⟨[b01 (decide (el pt nw k1' < pt)), el pt nw k1'], 0, k1', if el pt nw k1' < pt then k2' else 0⟩
def tp (a : Bool) (pt et k0 k1 k2 nw : Int) : Rs :=
  let go := a && !tr k0 && !decide (k2 = 1)
  let k1' := if go then nw else k1
  let k2' := if go then 1 else k2
  let et' := if k2' = 1 then el pt nw k1' else et
  let q := decide (k2' = 1) && decide (el pt nw k1' < pt)
  let k3 := if k2' = 1 ∧ ¬ el pt nw k1' < pt then 2 else k2'
  if k3 ≠ 1 ∧ a = false then ⟨[b01 q, 0], b01 a, k1', 0⟩ else ⟨[b01 q, et'], b01 a, k1', k3⟩
def ctu (a b : Bool) (pv cv k0 k1 k2 : Int) : Rs :=
  let c := if b then 0 else if a && !tr k0 then min (cv + 1) 32767 else cv
  ⟨[b01 (decide (pv ≤ c)), c], b01 a, k1, k2⟩
def ctd (a b : Bool) (pv cv k0 k1 k2 : Int) : Rs :=
  let c := if b then pv else if a && !tr k0 then max (cv - 1) (-32768) else cv
  ⟨[b01 (decide (c ≤ 0)), c], b01 a, k1, k2⟩
def ctud (a b r l : Bool) (pv cv k0 k1 k2 : Int) : Rs :=
  let up := a && !tr k0
  let dn := b && !tr k1
  let c := if r then 0 else if l then pv else if up && !dn then min (cv + 1) 32767 else if dn && !up then max (cv - 1) (-32768) else cv
  ⟨[b01 (decide (pv ≤ c)), b01 (decide (c ≤ 0)), c], b01 a, b01 b, k2⟩
/-- The blocks in the laws' order: TON, TOF, TP, CTU, CTD, CTUD, R_TRIG, F_TRIG, SR, RS. -/
def stp (k : Nat) (i o : List Int) (p0 p1 p2 t : Int) : Rs :=
  let a := tr (i.getD 0 0)
  let b := tr (i.getD 1 0)
  let k0 := w32 p0
  let k1 := w32 p1
  let k2 := w32 p2
  let nw := w32 t
  match k with
  | 0 => ton a (max (w32 (i.getD 1 0)) 0) k0 k1 k2 nw
  | 1 => tof a (max (w32 (i.getD 1 0)) 0) (w32 (o.getD 1 0)) k0 k1 k2 nw
  | 2 => tp a (max (w32 (i.getD 1 0)) 0) (w32 (o.getD 1 0)) k0 k1 k2 nw
  | 3 => ctu a b (w16 (i.getD 2 0)) (w16 (o.getD 1 0)) k0 k1 k2
  | 4 => ctd a b (w16 (i.getD 2 0)) (w16 (o.getD 1 0)) k0 k1 k2
  | 5 => ctud a b (tr (i.getD 2 0)) (tr (i.getD 3 0)) (w16 (i.getD 4 0)) (w16 (o.getD 2 0)) k0 k1 k2
  | 6 => ⟨[b01 (a && !tr k0)], b01 a, k1, k2⟩
  | 7 => ⟨[b01 (!a && tr k0)], b01 a, k1, k2⟩
  | 8 => ⟨[b01 (a || (tr (o.getD 0 0) && !b))], k0, k1, k2⟩
  | 9 => ⟨[b01 (!b && (a || tr (o.getD 0 0)))], k0, k1, k2⟩
  | _ => ⟨[], 0, 0, 0⟩
def tx (l : List UInt8) : ByteArray := ⟨l.toArray⟩
/-- The blocks' names. -/
def nml (k : Nat) : List UInt8 := match k with
  | 0 => [84, 79, 78] | 1 => [84, 79, 70] | 2 => [84, 80] | 3 => [67, 84, 85] | 4 => [67, 84, 68] | 5 => [67, 84, 85, 68]
  | 6 => [82, 95, 84, 82, 73, 71] | 7 => [70, 95, 84, 82, 73, 71] | 8 => [83, 82] | 9 => [82, 83] | _ => []
def nm (k : Nat) : ByteArray := tx (nml k)
/-- Their pins: names, kinds. -/
def pI (k : Nat) : List (List UInt8 × Int) := match k with
  | 0 | 1 | 2 => [([73, 78], 1), ([80, 84], 11)]
  | 3 => [([67, 85], 1), ([82], 1), ([80, 86], 3)]
  | 4 => [([67, 68], 1), ([76, 68], 1), ([80, 86], 3)]
  | 5 => [([67, 85], 1), ([67, 68], 1), ([82], 1), ([76, 68], 1), ([80, 86], 3)]
  | 6 | 7 => [([67, 76, 75], 1)]
  | 8 => [([83, 49], 1), ([82], 1)]
  | 9 => [([83], 1), ([82, 49], 1)]
  | _ => []
def pO (k : Nat) : List (List UInt8 × Int) := match k with
  | 0 | 1 | 2 => [([81], 1), ([69, 84], 11)]
  | 3 | 4 => [([81], 1), ([67, 86], 3)]
  | 5 => [([81, 85], 1), ([81, 68], 1), ([67, 86], 3)]
  | 6 | 7 => [([81], 1)]
  | 8 | 9 => [([81, 49], 1)]
  | _ => []
end Fb
end Go.Proofs.Ytbpnaenineinmaa
