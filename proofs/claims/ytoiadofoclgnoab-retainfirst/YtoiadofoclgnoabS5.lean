/- The walk of a store's Copy (stage 9). -/
import Derived.Test.YtoiadofoclgnoabS4
namespace Go.Proofs.Ytoiadofoclgnoab
open Go.RowKit
open Pdu
/-- A store's box. -/
def bx (sz : Nat) (r : Value) (n : Nat) (d : Bool) (l p : Int) : List Value := [.int .i64 (sz : Int), r, .int .i64 (n : Int), .bool d, .int .i64 l, .int .i64 p]
end Go.Proofs.Ytoiadofoclgnoab
