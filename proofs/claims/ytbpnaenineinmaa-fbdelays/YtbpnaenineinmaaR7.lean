/- The reference's timers, whole (stage 17). -/
import Derived.Test.YtbpnaenineinmaaR4
import Derived.Test.YtbpnaenineinmaaR5
import Derived.Test.YtbpnaenineinmaaR6
namespace Go.Proofs.Ytbpnaenineinmaa
open Go.RowKit
open Fb
theorem rton_c {w : World} {ob : Nat} {q0 q1 : Int} (a : Bool) (pt k0 k1 k2 nw : Int) (hr : Row64 w ob [q0, q1]) (hk : -2147483648 ≤ k1 ∧ k1 ≤ 2147483647) (hn : -2147483648 ≤ nw ∧ nw ≤ 2147483647) :
    Calls Try.prog 24 #[.string (nm 0), .bool a, .int .i64 pt, .agg #[.int .i64 k0, .int .i64 k1, .int .i64 k2], .slice (some ⟨ob, 0, none⟩) 2 2, .int .i64 nw] w (StepEnd w (ton a pt k0 k1 k2 nw)) := by
  by_cases h0 : k0 = 0
  · subst h0
    cases a
    · exact rton_fz pt k1 k2 nw hr  rfl
    · exact rton_tz pt k1 k2 nw hr hn rfl
  · cases a
    · exact rton_fn pt k0 k1 k2 nw hr h0 rfl
    · exact rton_tn pt k0 k1 k2 nw hr hk hn h0 rfl
theorem rtof_c {w : World} {ob : Nat} {q0 q1 : Int} (a : Bool) (pt k0 k1 k2 nw : Int) (hr : Row64 w ob [q0, q1]) (hk : -2147483648 ≤ k1 ∧ k1 ≤ 2147483647) (hn : -2147483648 ≤ nw ∧ nw ≤ 2147483647) :
    Calls Try.prog 24 #[.string (nm 1), .bool a, .int .i64 pt, .agg #[.int .i64 k0, .int .i64 k1, .int .i64 k2], .slice (some ⟨ob, 0, none⟩) 2 2, .int .i64 nw] w (StepEnd w (tof a pt (w32 q1) k0 k1 k2 nw)) := by
  by_cases h0 : k0 = 0
  · subst h0
    cases a
    · exact rtof_fz pt k1 k2 nw hr hk hn rfl
    · exact rtof_tz pt k1 k2 nw hr  rfl
  · cases a
    · exact rtof_fn pt k0 k1 k2 nw hr hn h0 rfl
    · exact rtof_tn pt k0 k1 k2 nw hr h0 rfl
theorem rtp_c {w : World} {ob : Nat} {q0 q1 : Int} (a : Bool) (pt k0 k1 k2 nw : Int) (hr : Row64 w ob [q0, q1]) (hk : -2147483648 ≤ k1 ∧ k1 ≤ 2147483647) (hn : -2147483648 ≤ nw ∧ nw ≤ 2147483647) :
    Calls Try.prog 24 #[.string (nm 2), .bool a, .int .i64 pt, .agg #[.int .i64 k0, .int .i64 k1, .int .i64 k2], .slice (some ⟨ob, 0, none⟩) 2 2, .int .i64 nw] w (StepEnd w (tp a pt (w32 q1) k0 k1 k2 nw)) := by
  by_cases h0 : k0 = 0
  · subst h0
    cases a
    · exact rtp_fz pt k1 k2 nw hr hk hn rfl
    · exact rtp_tz pt k1 k2 nw hr hk hn rfl
  · cases a
    · exact rtp_fn pt k0 k1 k2 nw hr hk hn h0 rfl
    · exact rtp_tn pt k0 k1 k2 nw hr hk hn h0 rfl
end Go.Proofs.Ytbpnaenineinmaa
