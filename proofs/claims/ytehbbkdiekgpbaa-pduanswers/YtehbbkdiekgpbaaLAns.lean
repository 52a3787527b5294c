/- The walk of PduAnswers. -/
import Derived.Test.YtehbbkdiekgpbaaKN
import Derived.Test.YtehbbkdiekgpbaaHRep
import Derived.Test.YtehbbkdiekgpbaaJ2
import Derived.Test.YtehbbkdiekgpbaaOPc
import Derived.Test.YtehbbkdiekgpbaaROPc
namespace Go.Proofs.Ytehbbkdiekgpbaa
open Go.RowKit
open Pdu
set_option maxRecDepth 100000 in
set_option maxHeartbeats 1600000 in
theorem answers_heavy (a0 a1 a2 a3 n c : Nat) (a4 : List Bool) (a5 : List Nat) (av aw : Value) (so : Option Addr) (w : World) (ha : IsRq w (.agg #[.int .u8 a0, .int .u16 a1, .int .u16 a2, .int .u16 a3, av, aw]) ⟨a0, a1, a2, a3, a4, a5⟩) (hh : ¬ (a4.length ≤ 2500 ∧ a5.length ≤ 200)) :
    Calls Try.prog 6 #[.agg #[.int .u8 a0, .int .u16 a1, .int .u16 a2, .int .u16 a3, av, aw], .slice so n c] w fun e w' => e = .returned (.bool true) ∧ Below w.heap.size w w' := by
  have HA := hid_as ha
  clear ha
  have hd := decide_eq_false hh
  clear hh
  go_enter Try.func6, Try.ntmps6
  go_wp2_with fail
  refine (known_law _).mono ?_
  rintro e w1 ⟨rfl, k1⟩
  obtain ⟨k1, B1, hs1⟩ := one_box k1
  have K1 : Hid (Below w.heap.size w w1) := k1
  have H1 := hid_as (HA.out.below k1)
  have B1 : Hid (Box w1 w.heap.size (.int .u8 a0) (.int .u16 a1) (.int .u16 a2) (.int .u16 a3) av aw) := B1
  obtain ⟨c0, c1, c2, c3, c4, c5⟩ := B1.out
  clear k1
  go_wp2_with fail
  refine (light_c H1.out).mono ?_
  rintro e w2 ⟨rfl, k2⟩
  have K2 : Hid (Below w.heap.size w w2) := below_and K1.out k2
  rw [hd]
  clear k2 c0 c1 c2 c3 c4 c5
  go_wp2
  go_ret
  exact ⟨rfl, K2.out⟩
set_option maxRecDepth 100000 in
set_option maxHeartbeats 1600000 in
theorem answers_big (a0 a1 a2 a3 n c : Nat) (a4 : List Bool) (a5 : List Nat) (av aw : Value) (so : Option Addr) (w : World) (ha : IsRq w (.agg #[.int .u8 a0, .int .u16 a1, .int .u16 a2, .int .u16 a3, av, aw]) ⟨a0, a1, a2, a3, a4, a5⟩) (hl : a4.length ≤ 2500 ∧ a5.length ≤ 200) (hn : 400 < n) :
    Calls Try.prog 6 #[.agg #[.int .u8 a0, .int .u16 a1, .int .u16 a2, .int .u16 a3, av, aw], .slice so n c] w fun e w' => e = .returned (.bool true) ∧ Below w.heap.size w w' := by
  have HA := hid_as ha
  clear ha
  have hd := decide_eq_true hl
  have h4 : decide ((400 : Int) < (n : Int)) = true := decide_eq_true (by omega)
  clear hl hn
  go_enter Try.func6, Try.ntmps6
  go_wp2_with fail
  refine (known_law _).mono ?_
  rintro e w1 ⟨rfl, k1⟩
  obtain ⟨k1, B1, hs1⟩ := one_box k1
  have K1 : Hid (Below w.heap.size w w1) := k1
  have H1 := hid_as (HA.out.below k1)
  have B1 : Hid (Box w1 w.heap.size (.int .u8 a0) (.int .u16 a1) (.int .u16 a2) (.int .u16 a3) av aw) := B1
  obtain ⟨c0, c1, c2, c3, c4, c5⟩ := B1.out
  clear k1
  go_wp2_with fail
  refine (light_c H1.out).mono ?_
  rintro e w2 ⟨rfl, k2⟩
  have K2 : Hid (Below w.heap.size w w2) := below_and K1.out k2
  rw [hd]
  clear k2 c0 c1 c2 c3 c4 c5
  go_wp2
  go_ret
  exact ⟨rfl, K2.out⟩
set_option maxRecDepth 100000 in
set_option maxHeartbeats 1600000 in
theorem answers_w (a0 a1 a2 a3 n c : Nat) (a4 : List Bool) (a5 : List Nat) (av aw : Value) (so : Option Addr) (w : World) (ha : IsRq w (.agg #[.int .u8 a0, .int .u16 a1, .int .u16 a2, .int .u16 a3, av, aw]) ⟨a0, a1, a2, a3, a4, a5⟩) (hl : a4.length ≤ 2500 ∧ a5.length ≤ 200) (bs : List Nat) (h : Sl w (.slice so n c) (u8s bs)) (hB : Bytes bs) (hn : n = bs.length) (hn4 : n ≤ 400) (E : Int) (q0 q1 q2 q3 : Nat) (q4 : List Bool) (q5 : List Nat) (l4 : q4.length ≤ 1000000) (l5 : q5.length ≤ 1000000)
    (H : ∀ (W : World) (e : Ending) (W' : World), AnsEnd ⟨a0, a1, a2, a3, a4, a5⟩ bs W e W' → Below W.heap.size W W' ∧ ∃ bo nb bc ro nr rc, e = .returned (.tuple #[.agg #[.int .u8 q0, .int .u8 q1, .int .u16 q2, .int .u16 q3, .slice bo nb bc, .slice ro nr rc], .int .i64 E]) ∧ IsRp W' (.agg #[.int .u8 q0, .int .u8 q1, .int .u16 q2, .int .u16 q3, .slice bo nb bc, .slice ro nr rc]) ⟨q0, q1, q2, q3, q4, q5⟩) :
    Calls Try.prog 6 #[.agg #[.int .u8 a0, .int .u16 a1, .int .u16 a2, .int .u16 a3, av, aw], .slice so n c] w fun e w' => e = .returned (.bool true) ∧ Below w.heap.size w w' := by
  have HA := hid_as ha
  clear ha
  have hd := decide_eq_true hl
  have HL := hid_as hl
  have h4 : decide ((400 : Int) < (n : Int)) = false := decide_eq_false (by omega)
  have HS := hid_as h
  have HH := hid_as H
  have HN := hid_as hn
  clear hl h H hn
  go_enter Try.func6, Try.ntmps6
  go_wp2_with fail
  refine (known_law _).mono ?_
  rintro e w1 ⟨rfl, k1⟩
  obtain ⟨k1, B1, hs1⟩ := one_box k1
  have K1 : Hid (Below w.heap.size w w1) := k1
  have H1 := hid_as (HA.out.below k1)
  have B1 : Hid (Box w1 w.heap.size (.int .u8 a0) (.int .u16 a1) (.int .u16 a2) (.int .u16 a3) av aw) := B1
  obtain ⟨c0, c1, c2, c3, c4, c5⟩ := B1.out
  clear k1
  go_wp2_with fail
  refine (light_c H1.out).mono ?_
  rintro e w2 ⟨rfl, k2⟩
  have K2 : Hid (Below w.heap.size w w2) := below_and K1.out k2
  rw [hd]
  have H2 := hid_as (HA.out.below K2.out)
  have hs2 : w.heap.size < w2.heap.size := Nat.lt_of_lt_of_le hs1 k2.size
  have B2 : Hid (Box w2 w.heap.size (.int .u8 a0) (.int .u16 a1) (.int .u16 a2) (.int .u16 a3) av aw) := B1.out.below k2 hs1
  clear k2 c0 c1 c2 c3 c4 c5 B1 H1
  obtain ⟨c0, c1, c2, c3, c4, c5⟩ := B2.out
  have O1 := hid_as (orep_c H2.out (HS.out.below K2.out) hB (by have := HN.out; omega))
  go_wp2_with fail
  refine O1.out.mono ?_
  rintro e w3 hend
  obtain ⟨k3, bo1, nb1, bc1, ro1, nr1, rc1, rfl, hq1⟩ := HH.out _ _ _ hend
  have K3 : Hid (Below w.heap.size w w3) := below_and K2.out k3
  have Q1 := hid_as hq1
  have B3 : Hid (Box w3 w.heap.size (.int .u8 a0) (.int .u16 a1) (.int .u16 a2) (.int .u16 a3) av aw) := B2.out.below k3 hs2
  have d0 := fun (o : Obj) => (B3.out.grow o).c0
  have d1 := fun (o : Obj) => (B3.out.grow o).c1
  have d2 := fun (o : Obj) => (B3.out.grow o).c2
  have d3 := fun (o : Obj) => (B3.out.grow o).c3
  have d4 := fun (o : Obj) => (B3.out.grow o).c4
  have d5 := fun (o : Obj) => (B3.out.grow o).c5
  have R1 := fun (o : Obj) => hid_as (rop_c (HA.out.below (below_and K3.out (below_new (Below.refl _ w3) o))) (HS.out.below (below_and K3.out (below_new (Below.refl _ w3) o))) hB HL.out.1 HL.out.2)
  clear hend hq1 k3 O1 c0 c1 c2 c3 c4 c5 B2 H2
  go_wp2_with fail
  refine (R1 _).out.mono ?_
  rintro e w4 hend
  obtain ⟨k4, bo2, nb2, bc2, ro2, nr2, rc2, rfl, hq2⟩ := HH.out _ _ _ hend
  have KK : Hid (Below w3.heap.size w3 w4) := below_and (below_new (Below.refl _ w3) _) k4
  have K4 : Hid (Below w.heap.size w w4) := below_and K3.out KK.out
  have Q2 := hid_as hq2
  have B4 := hid_as ((Box.new w3 (.int .u8 q0) (.int .u8 q1) (.int .u16 q2) (.int .u16 q3) (.slice bo1 nb1 bc1) (.slice ro1 nr1 rc1) 44).below k4 (by simp))
  clear d0 d1 d2 d3 d4 d5
  have d0 := fun (o : Obj) => (B4.out.grow o).c0
  have d1 := fun (o : Obj) => (B4.out.grow o).c1
  have d2 := fun (o : Obj) => (B4.out.grow o).c2
  have d3 := fun (o : Obj) => (B4.out.grow o).c3
  have d4 := fun (o : Obj) => (B4.out.grow o).c4
  have d5 := fun (o : Obj) => (B4.out.grow o).c5
  have XR := hid_as (fun (o : Obj) => hrep_c ((Q1.out.below KK.out).below (below_new (Below.refl _ w4) o)) (Q2.out.below (below_new (Below.refl _ w4) o)) l4 l5)
  clear hend hq2 k4 R1
  go_wp2_with fail
  refine (XR.out _).mono ?_
  rintro e w5 ⟨t, rfl, k5, ht⟩
  have ht : t = true := by simpa using ht
  subst ht
  have K5 : Hid (Below w.heap.size w w5) := below_and K4.out (below_and (below_new (Below.refl _ w4) _) k5)
  clear k5 d0 d1 d2 d3 d4 d5 XR
  go_wp2
  go_ret
  exact ⟨rfl, K5.out⟩
theorem shape_rp {w : World} {v : Value} {r : Rp} (h : IsRp w v r) : ∃ bo nb bc ro nr rc, v = .agg #[.int .u8 r.fn, .int .u8 r.exc, .int .u16 r.addr, .int .u16 r.n, .slice bo nb bc, .slice ro nr rc] := by
  obtain ⟨_, bv, rv, rfl, h1, h2⟩ := h
  obtain ⟨bo, bc, rfl⟩ := h1.shape
  obtain ⟨ro, rc, rfl⟩ := h2.shape
  exact ⟨_, _, _, _, _, _, rfl⟩
theorem zero_rp (w : World) : IsRp w (.agg #[.int .u8 0, .int .u8 0, .int .u16 0, .int .u16 0, .slice none 0 0, .slice none 0 0]) ⟨0, 0, 0, 0, [], []⟩ := (zero_rpn 0 w).plain
theorem readAns_len {q : Rq} {bs : List Nat} (hf : q.Fits) (hl : bs.length ≤ 400) : (readAns q bs).bits.length ≤ 1000000 ∧ (readAns q bs).regs.length ≤ 1000000 := by
  obtain ⟨a0, a1, a2, a3, a4, a5⟩ := q
  unfold Rq.Fits FitsN at hf
  simp only at hf
  unfold readAns ansOf excOf echo
  simp only
  split
  · split
    · simp [ub_length]
      omega
    split
    · simp [ws_length]
      omega
    · constructor
      · simp only
        split
        · omega
        · simp
      · simp only
        split
        · omega
        · simp
  · simp
theorem answers_law {v so : Value} {q : Rq} {bs : List Nat} {w : World} (h : IsRq w v q) (hs : Sl w so (u8s bs)) (hB : Bytes bs) : Calls Try.prog 6 #[v, so] w fun e w' => e = .returned (.bool true) ∧ Below w.heap.size w w' := by
  have h' := h
  obtain ⟨_, av, aw, rfl, _, _⟩ := h'
  obtain ⟨a0, a1, a2, a3, a4, a5⟩ := q
  unfold rqV at h ⊢
  simp only at h ⊢
  obtain ⟨xo, c, rfl⟩ := hs.shape
  rw [u8s_len] at hs ⊢
  by_cases hl : a4.length ≤ 2500 ∧ a5.length ≤ 200
  case neg => exact answers_heavy a0 a1 a2 a3 _ c a4 a5 av aw xo w h hl
  by_cases hn : bs.length ≤ 400
  case neg => exact answers_big a0 a1 a2 a3 _ c a4 a5 av aw xo w h hl (by omega)
  by_cases hr : IsAns ⟨a0, a1, a2, a3, a4, a5⟩ bs
  · have hln := readAns_len hr.1 hn
    refine answers_w a0 a1 a2 a3 _ c a4 a5 av aw xo w h hl bs hs hB rfl hn 0 (readAns ⟨a0, a1, a2, a3, a4, a5⟩ bs).fn (readAns ⟨a0, a1, a2, a3, a4, a5⟩ bs).exc (readAns ⟨a0, a1, a2, a3, a4, a5⟩ bs).addr (readAns ⟨a0, a1, a2, a3, a4, a5⟩ bs).n (readAns ⟨a0, a1, a2, a3, a4, a5⟩ bs).bits (readAns ⟨a0, a1, a2, a3, a4, a5⟩ bs).regs hln.1 hln.2 ?_
    rintro W e W' ⟨k, ⟨_, v, rfl, hv⟩ | ⟨hno, _⟩⟩
    · obtain ⟨bo, nb, bc, ro, nr, rc, rfl⟩ := shape_rp hv
      exact ⟨k, bo, nb, bc, ro, nr, rc, rfl, hv⟩
    · exact absurd hr hno
  · refine answers_w a0 a1 a2 a3 _ c a4 a5 av aw xo w h hl bs hs hB rfl hn 30 0 0 0 0 [] [] (by simp) (by simp) ?_
    rintro W e W' ⟨k, ⟨hno, _⟩ | ⟨_, rfl⟩⟩
    · exact absurd hno hr
    · exact ⟨k, none, 0, 0, none, 0, 0, rfl, zero_rp W'⟩
end Go.Proofs.Ytehbbkdiekgpbaa
