/- The chapter's sample, as the laws ask it (stage 11). -/
import Derived.Test.YtlokdkpfeckdoaaDoorK1
import Derived.Test.YtlokdkpfeckdoaaDoorI9
namespace Go.Proofs.YtlokdkpfeckdoaaDoor
open Go.RowKit
open Adr
theorem below_turn {B g : Nat} {a b c : World} (h : Below B a b) (k : Turn g b c) (hg : B ≤ g) (hs : B ≤ b.heap.size) : Below B a c := h.trans (k.below hg hs)
set_option maxRecDepth 100000 in
set_option maxHeartbeats 1600000 in
theorem known_c (w : World) (hA : AreasAt w) : Calls Tryd.prog 5 #[] w fun e w' => e = .returned (.bool true) ∧ Below w.heap.size w w' := by
  have A := hid_as hA
  have X := hid_as (new_c w)
  clear hA
  go_enter Tryd.func5, Tryd.ntmps5
  go_wp2_with fail
  refine X.out.mono ?_
  rintro e w0 ⟨rfl, t, k⟩
  have T := hid_as t
  have K := hid_as k
  clear t k X
  have X := hid_as (put_c 1 0 7 (A.out.below K.out) T.out)
  rw [show ge 1 0 = 0 by decide] at X
  go_wp2_with fail
  refine X.out.mono ?_
  rintro e w1 ⟨rfl, t, q⟩
  have K2 := hid_as (below_turn K.out q (Nat.le_refl _) K.out.size)
  have T2 := hid_as t
  clear t q X K T
  have K := K2
  have T := T2
  clear K2 T2
  have X := hid_as (latch_c T.out)
  go_wp2_with fail
  refine X.out.mono ?_
  rintro e w2 ⟨rfl, t, q⟩
  have K2 := hid_as (below_turn K.out q (Nat.le_refl _) K.out.size)
  have T2 := hid_as t
  clear t q X K T
  have K := K2
  have T := T2
  clear K2 T2
  have X := hid_as (work_c 1 0 (A.out.below K.out) T.out)
  rw [show gv (((IS.zero).put 1 0 7).latch).k 1 0 = 1 by decide] at X
  rw [show ge 1 0 = 0 by decide] at X
  go_wp2_with fail
  refine X.out.mono ?_
  rintro e wx ⟨rfl, hw⟩
  subst wx
  clear X
  have X := hid_as (set_c 2 0 1 (A.out.below K.out) T.out)
  rw [show ge 2 0 = 0 by decide] at X
  go_wp2_with fail
  refine X.out.mono ?_
  rintro e w3 ⟨rfl, t, q⟩
  have K2 := hid_as (below_turn K.out q (Nat.le_refl _) K.out.size)
  have T2 := hid_as t
  clear t q X K T
  have K := K2
  have T := T2
  clear K2 T2
  have X := hid_as (get_c 2 0 (A.out.below K.out) T.out)
  rw [show gv ((((IS.zero).put 1 0 7).latch).set 2 0 1).o 2 0 = 0 by decide] at X
  rw [show ge 2 0 = 0 by decide] at X
  go_wp2_with fail
  refine X.out.mono ?_
  rintro e wx ⟨rfl, hw⟩
  subst wx
  clear X
  have X := hid_as (pub_c T.out (by decide))
  go_wp2_with fail
  refine X.out.mono ?_
  rintro e w4 ⟨rfl, t, q⟩
  have K2 := hid_as (below_turn K.out q (Nat.le_refl _) K.out.size)
  have T2 := hid_as t
  clear t q X K T
  have K := K2
  have T := T2
  clear K2 T2
  have X := hid_as (get_c 2 0 (A.out.below K.out) T.out)
  rw [show gv (((((IS.zero).put 1 0 7).latch).set 2 0 1).pub).o 2 0 = 1 by decide] at X
  rw [show ge 2 0 = 0 by decide] at X
  go_wp2_with fail
  refine X.out.mono ?_
  rintro e wx ⟨rfl, hw⟩
  subst wx
  clear X
  have X := hid_as (put_c 7 0 1 (A.out.below K.out) T.out)
  rw [show ge 7 0 = 110 by decide] at X
  go_wp2_with fail
  refine X.out.mono ?_
  rintro e w5 ⟨rfl, t, q⟩
  have K2 := hid_as (below_turn K.out q (Nat.le_refl _) K.out.size)
  have T2 := hid_as t
  clear t q X K T
  have K := K2
  have T := T2
  clear K2 T2
  have X := hid_as (scans_c T.out)
  rw [show ((((((IS.zero).put 1 0 7).latch).set 2 0 1).pub).put 7 0 1).n = 1 by decide] at X
  have Y := hid_as (all_c 4 (A.out.below K.out) T.out)
  go_wp2_with fail
  refine X.out.mono ?_
  rintro e wx ⟨rfl, hw⟩
  subst wx
  clear X
  go_wp2_with fail
  refine Y.out.mono ?_
  rintro e wy ⟨v, rfl, sl, q⟩
  obtain ⟨ao, c, rfl⟩ := sl.shape
  rw [u16s_len, alls_len, show (szI 4).toNat = 64 by decide]
  have K2 := hid_as (K.out.trans (q.mono K.out.size))
  clear sl q Y
  go_wp2
  go_ret
  exact ⟨rfl, K2.out⟩
end Go.Proofs.YtlokdkpfeckdoaaDoor
