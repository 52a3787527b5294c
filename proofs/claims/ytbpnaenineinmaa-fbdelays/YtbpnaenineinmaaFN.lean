/- The latches' steps over the numbers of their pins (stage 17). -/
import Derived.Test.YtbpnaenineinmaaFM
import Derived.Test.YtbpnaenineinmaaF9
namespace Go.Proofs.Ytbpnaenineinmaa
open Go.RowKit
open Fb
theorem ms_8 : Ms 8 57 := by
  intro w g a b l q p0 p1 p2 t h
  have X := sr_c h (pnum_len ..) (pnum_len ..)
  simp only [pi_8_0, pi_8_1, po_8_0, tr_b01] at X
  exact X
theorem ms_9 : Ms 9 58 := by
  intro w g a b l q p0 p1 p2 t h
  have X := rs_c h (pnum_len ..) (pnum_len ..)
  simp only [pi_9_0, pi_9_1, po_9_0, tr_b01] at X
  exact X
end Go.Proofs.Ytbpnaenineinmaa
