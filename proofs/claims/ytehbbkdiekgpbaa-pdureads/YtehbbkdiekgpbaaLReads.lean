/- The walk of PduReads. -/
import Derived.Test.YtehbbkdiekgpbaaKN
import Derived.Test.YtehbbkdiekgpbaaHReq2
import Derived.Test.YtehbbkdiekgpbaaHCopy
import Derived.Test.YtehbbkdiekgpbaaJ2
import Derived.Test.YtehbbkdiekgpbaaROAll
namespace Go.Proofs.Ytehbbkdiekgpbaa
open Go.RowKit
open Pdu
set_option maxRecDepth 100000 in
set_option maxHeartbeats 1600000 in
theorem reads_big (ao : Option Addr) (n c : Nat) (w : World) (h : 400 < n) :
    Calls Try.prog 4 #[.slice ao n c] w fun e w' => e = .returned (.bool true) ∧ Below w.heap.size w w' := by
  have h1 : decide ((400 : Int) < n) = true := decide_eq_true (by omega)
  clear h
  go_enter Try.func4, Try.ntmps4
  go_wp2_with fail
  refine (known_law w).mono ?_
  rintro e w1 ⟨rfl, k1⟩
  have K1 := hid_as k1
  clear k1
  go_wp2
  go_ret
  exact ⟨rfl, K1.out⟩
set_option maxRecDepth 100000 in
set_option maxHeartbeats 1600000 in
theorem reads_w (ao : Option Addr) (n c : Nat) (E : Int) (q0 q1 q2 q3 : Nat) (q4 : List Bool) (q5 : List Nat) (bs : List Nat) (w : World) (h : Sl w (.slice ao n c) (u8s bs)) (hB : Bytes bs) (hn : n = bs.length) (hn4 : n ≤ 400) (l4 : q4.length ≤ 1000000) (l5 : q5.length ≤ 1000000)
    (H : ∀ (W : World) (e : Ending) (W' : World), OpenEnd bs W e W' → Below W.heap.size W W' ∧ ∃ bo nb bc ro nr rc, e = .returned (.tuple #[.agg #[.int .u8 q0, .int .u16 q1, .int .u16 q2, .int .u16 q3, .slice bo nb bc, .slice ro nr rc], .int .i64 E]) ∧ IsRq W' (.agg #[.int .u8 q0, .int .u16 q1, .int .u16 q2, .int .u16 q3, .slice bo nb bc, .slice ro nr rc]) ⟨q0, q1, q2, q3, q4, q5⟩) :
    Calls Try.prog 4 #[.slice ao n c] w fun e w' => e = .returned (.bool true) ∧ Below w.heap.size w w' := by
  have h1 : decide ((400 : Int) < n) = false := decide_eq_false (by omega)
  have HS := hid_as h
  have HH := hid_as H
  have HN := hid_as hn
  clear h H hn
  go_enter Try.func4, Try.ntmps4
  go_wp2_with fail
  refine (known_law w).mono ?_
  rintro e w1 ⟨rfl, k1⟩
  have K1 := hid_as k1
  have C1 := hid_as (copy_c (HS.out.below k1) (by have := HN.out; omega))
  clear k1
  go_wp2_with fail
  refine C1.out.mono ?_
  rintro e w2 ⟨x, rfl, ownx, k2⟩
  have K2 : Hid (Below w.heap.size w w2) := below_and K1.out k2
  have OX := hid_as (own_sl ownx)
  have O1 := hid_as (open_c OX.out hB)
  clear k2 ownx C1
  go_wp2_with fail
  refine O1.out.mono ?_
  rintro e w3 hend
  obtain ⟨k3, ao1, nb1, ac1, ro1, nr1, rc1, rfl, hq1⟩ := HH.out _ _ _ hend
  have K3 : Hid (Below w.heap.size w w3) := below_and K2.out k3
  have Q1 := hid_as hq1
  have OX3 := hid_as (OX.out.below k3)
  have R1 := fun (o : Obj) => hid_as (ropen_c (HS.out.below (below_and K3.out (below_new (Below.refl _ w3) o))) hB (by have := HN.out; omega))
  clear hend hq1 k3 O1 OX
  go_wp2_with fail
  refine (R1 _).out.mono ?_
  rintro e w4 hend
  obtain ⟨k4, ao2, nb2, ac2, ro2, nr2, rc2, rfl, hq2⟩ := HH.out _ _ _ hend
  have KK : Hid (Below w3.heap.size w3 w4) := below_and (below_new (Below.refl _ w3) _) k4
  have K4 : Hid (Below w.heap.size w w4) := below_and K3.out KK.out
  have Q2 := hid_as hq2
  have B4 := hid_as ((Box.new w3 (.int .u8 q0) (.int .u16 q1) (.int .u16 q2) (.int .u16 q3) (.slice ao1 nb1 ac1) (.slice ro1 nr1 rc1) 26).below k4 (by simp))
  have d0 := fun (o : Obj) => (B4.out.grow o).c0
  have d1 := fun (o : Obj) => (B4.out.grow o).c1
  have d2 := fun (o : Obj) => (B4.out.grow o).c2
  have d3 := fun (o : Obj) => (B4.out.grow o).c3
  have d4 := fun (o : Obj) => (B4.out.grow o).c4
  have d5 := fun (o : Obj) => (B4.out.grow o).c5
  have XR := hid_as (fun (o : Obj) => hreq_c ((Q1.out.below KK.out).below (below_new (Below.refl _ w4) o)) (Q2.out.below (below_new (Below.refl _ w4) o)) l4 l5)
  clear hend hq2 k4 R1
  go_wp2_with fail
  refine (XR.out _).mono ?_
  rintro e w5 ⟨t, rfl, k5, ht⟩
  have ht : t = true := by simpa using ht
  subst ht
  have K5 : Hid (Below w.heap.size w w5) := below_and K4.out (below_and (below_new (Below.refl _ w4) _) k5)
  have XB := hid_as (bytes_t (OX3.out.below (below_and KK.out (below_and (below_new (Below.refl _ w4) _) k5))) (HS.out.below K5.out) hB)
  clear k5 d0 d1 d2 d3 d4 d5 XR
  go_wp2_with fail
  refine XB.out.mono ?_
  rintro e w6 ⟨rfl, hw⟩
  subst w6
  go_wp2
  go_ret
  exact ⟨rfl, K5.out⟩
theorem shape_rq {w : World} {v : Value} {q : Rq} (h : IsRq w v q) : ∃ bo nb bc ro nr rc, v = .agg #[.int .u8 q.fn, .int .u16 q.addr, .int .u16 q.n, .int .u16 q.addr2, .slice bo nb bc, .slice ro nr rc] := by
  obtain ⟨_, bv, rv, rfl, h1, h2⟩ := h
  obtain ⟨bo, bc, rfl⟩ := h1.shape
  obtain ⟨ro, rc, rfl⟩ := h2.shape
  exact ⟨_, _, _, _, _, _, rfl⟩
theorem zero_rq (w : World) : IsRq w (.agg #[.int .u8 0, .int .u16 0, .int .u16 0, .int .u16 0, .slice none 0 0, .slice none 0 0]) ⟨0, 0, 0, 0, [], []⟩ := ⟨rq_ok (by decide) (by decide) (by decide) (by decide) no_words, _, _, rfl, Sl.nil _, Sl.nil _⟩
theorem reads_law {v : Value} {bs : List Nat} {w : World} (h : Sl w v (u8s bs)) (hB : Bytes bs) : Calls Try.prog 4 #[v] w fun e w' => e = .returned (.bool true) ∧ Below w.heap.size w w' := by
  obtain ⟨ao, c, rfl⟩ := h.shape
  rw [u8s_len] at h ⊢
  by_cases hl : bs.length ≤ 400
  case neg => exact reads_big ao _ c w (by omega)
  by_cases hr : IsReq bs
  · have hrd := read_fits hr
    unfold Rq.Fits FitsN at hrd
    refine reads_w ao _ c 0 (readReq bs).fn (readReq bs).addr (readReq bs).n (readReq bs).addr2 (readReq bs).bits (readReq bs).regs bs w h hB rfl hl (by omega) (by omega) ?_
    rintro W e W' ⟨k, ⟨_, v, rfl, hv⟩ | ⟨hn, _⟩⟩
    · obtain ⟨bo, nb, bc, ro, nr, rc, rfl⟩ := shape_rq hv
      exact ⟨k, bo, nb, bc, ro, nr, rc, rfl, hv⟩
    · exact absurd hr hn
  · refine reads_w ao _ c 30 0 0 0 0 [] [] bs w h hB rfl hl (by simp) (by simp) ?_
    rintro W e W' ⟨k, ⟨hn, _⟩ | ⟨_, rfl⟩⟩
    · exact absurd hn hr
    · exact ⟨k, none, 0, 0, none, 0, 0, rfl, zero_rq W'⟩
end Go.Proofs.Ytehbbkdiekgpbaa
