/- How deep texts may be: what they come to, as numbers (stage 13). -/
import Derived.Test.YtgdoanhemgklpaaGreatDoorV1
namespace Go.Proofs.YtgdoanhemgklpaaGreatDoor
open Go.RowKit
open Adr Lx Sx
/-- A text written so many times. -/
def rept (l : List UInt8) : Nat → List UInt8
  | 0 => []
  | k + 1 => rept l k ++ l
/-- One written ahead so many times. -/
def reph (l z : List UInt8) : Nat → List UInt8
  | 0 => z
  | k + 1 => l ++ reph l z k
def dpT (o s : List UInt8) (n : Nat) : List UInt8 := (rept o n ++ [120]) ++ rept s n
/-- What an expression so deep comes to. -/
def chE (o s : List UInt8) (one n : Nat) : Bool :=
  (toks (dpT o s n) false).2.isNone && (if n < 32 then (onl (toks (dpT o s n) false).1).v.isSome && ((onl (toks (dpT o s n) false).1).e == 0) else (onl (toks (dpT o s n) false).1).v.isNone && ((onl (toks (dpT o s n) false).1).e == 131) && (ca (toks (dpT o s n) false).1 (onl (toks (dpT o s n) false).1).k == 32 * one))
def ppT (n : Nat) : List UInt8 := ([80, 82, 79, 71, 82, 65, 77, 32, 112, 32] ++ rept [73, 70, 32, 97, 32, 84, 72, 69, 78, 32] n) ++ reph [69, 78, 68, 95, 73, 70, 59, 32] [32, 69, 78, 68, 95, 80, 82, 79, 71, 82, 65, 77] n
def chP (n : Nat) : Bool :=
  (toks (ppT n) false).2.isNone && (if n ≤ 32 then (prg (toks (ppT n) false).1).v.isSome && ((prg (toks (ppT n) false).1).e == 0) else (prg (toks (ppT n) false).1).v.isNone && ((prg (toks (ppT n) false).1).e == 131) && (ca (toks (ppT n) false).1 (prg (toks (ppT n) false).1).k == 330))
end Go.Proofs.YtgdoanhemgklpaaGreatDoor
