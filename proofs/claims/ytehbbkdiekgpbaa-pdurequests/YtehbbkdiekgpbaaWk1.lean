/- The walks: small functions. -/
import Derived.Test.YtehbbkdiekgpbaaBase
import Derived.BigQuiet
import Derived.Deep.QuietTactic
namespace Go.Proofs.Ytehbbkdiekgpbaa
open Go.RowKit
open Pdu
theorem or_16 {x y : Nat} (hx : x < 256) (hy : y < 256) : bits .or .u16 ((x : Int) * 256) (y : Int) = ((256 * x + y : Nat) : Int) := by
  rw [show (x : Int) * 256 = ((256 * x : Nat) : Int) by omega]
  show IntKind.u16.wrap ((BitVec.ofInt 16 ((256 * x : Nat) : Int) ||| BitVec.ofInt 16 (y : Int)).toNat : Int) = _
  have h : (BitVec.ofInt 16 ((256 * x : Nat) : Int) ||| BitVec.ofInt 16 (y : Int)).toNat = 256 * x + y := by
    rw [BitVec.toNat_or, BitVec.ofInt_natCast, BitVec.toNat_ofNat, BitVec.ofInt_natCast, BitVec.toNat_ofNat, Nat.mod_eq_of_lt (by omega), Nat.mod_eq_of_lt (by omega)]
    have := Nat.two_pow_add_eq_or_of_lt (i := 8) (b := y) (by omega) x
    simpa using this.symm
  rw [h, IntKind.wrap_u16]
  omega
set_option maxHeartbeats 1600000 in
theorem packed_c (n : Nat) (hn : n ≤ 1000000) (w : World) : Calls Try.prog 47 #[.int .i64 n] w fun e w' => e = .returned (.int .i64 (packed n : Nat)) ∧ w' = w := by
  have h : ((n : Int) + 7).tdiv 8 = ((packed n : Nat) : Int) := by rw [Int.tdiv_eq_ediv_of_nonneg (by omega)]; unfold packed; omega
  have hb : packed n ≤ 1000000 := by unfold packed; omega
  go_enter Try.func47, Try.ntmps47
  go_wp2
  go_ret
  exact ⟨rfl, rfl⟩
set_option maxHeartbeats 1600000 in
theorem coil_c (on : Bool) (w : World) : Calls Try.prog 33 #[.bool on] w fun e w' => e = .returned (.int .u16 (coil on : Nat)) ∧ w' = w := by
  cases on
  · go_enter Try.func33, Try.ntmps33
    go_wp2
    go_ret
    exact ⟨rfl, rfl⟩
  · go_enter Try.func33, Try.ntmps33
    go_wp2
    go_ret
    exact ⟨rfl, rfl⟩
set_option maxHeartbeats 1600000 in
theorem one_c (on : Bool) (w : World) : Calls Try.prog 38 #[.bool on] w fun e w' => e = .returned (.int .u16 (coil on : Nat)) ∧ w' = w := by
  cases on
  · go_enter Try.func38, Try.ntmps38
    go_wp2
    go_ret
    exact ⟨rfl, rfl⟩
  · go_enter Try.func38, Try.ntmps38
    go_wp2
    go_ret
    exact ⟨rfl, rfl⟩
set_option maxHeartbeats 1600000 in
theorem word_c (b off n cap x y : Nat) (w : World) (hn : 2 ≤ n) (hx : x < 256) (hy : y < 256) (h0 : w.cell? ⟨b, off, none⟩ = some (.int .u8 x)) (h1 : w.cell? ⟨b, off + 1, none⟩ = some (.int .u8 y)) :
    Calls Try.prog 51 #[.slice (some ⟨b, off, none⟩) n cap] w fun e w' => e = .returned (.int .u16 (256 * x + y : Nat)) ∧ ∃ m, w' = w.drewN m := by
  have hor := or_16 hx hy
  go_enter Try.func51, Try.ntmps51
  go_wp2
  go_quiet (fail)
  go_wp2
  go_ret
  exact ⟨congrArg (fun t : Int => Ending.returned (.int .u16 t)) (show 256 * (x : Int) + y = ((256 * x + y : Nat) : Int) by omega), _, rfl⟩
end Go.Proofs.Ytehbbkdiekgpbaa
