/- The law of times (stage 12). -/
import Derived.Test.YtnponognncdkcaaDoorLTff
import Derived.Test.YtnponognncdkcaaDoorLTft
import Derived.Test.YtnponognncdkcaaDoorLTtf
import Derived.Test.YtnponognncdkcaaDoorLTtt
namespace Go.Proofs.YtnponognncdkcaaDoor
open Go.RowKit
open Adr Lx
theorem times_w (d h m s ms : Int) (c : Nat) (minus long : Bool) (bd : -9223372036854775808 ≤ d ∧ d ≤ 9223372036854775807) (bh : -9223372036854775808 ≤ h ∧ h ≤ 9223372036854775807) (bm : -9223372036854775808 ≤ m ∧ m ≤ 9223372036854775807) (bs : -9223372036854775808 ≤ s ∧ s ≤ 9223372036854775807) (bms : -9223372036854775808 ≤ ms ∧ ms ≤ 9223372036854775807) (w : World) (hT : Tabs w) :
    Calls Tryd.prog 6 #[.int .i64 d, .int .i64 h, .int .i64 m, .int .i64 s, .int .i64 ms, .int .u8 c, .bool minus, .bool long] w fun e w' => e = .returned (.bool true) ∧ Below w.heap.size w w' := by
  cases long <;> cases minus
  · exact times_ff d h m s ms c bd bh bm bs bms w hT
  · exact times_ft d h m s ms c bd bh bm bs bms w hT
  · exact times_tf d h m s ms c bd bh bm bs bms w hT
  · exact times_tt d h m s ms c bd bh bm bs bms w hT
end Go.Proofs.YtnponognncdkcaaDoor
