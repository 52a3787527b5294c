/- The walk of RetainFirst (stage 9). -/
import Derived.Test.YtoiadofoclgnoabL1
namespace Go.Proofs.Ytoiadofoclgnoab
open Go.RowKit
open Pdu
set_option maxHeartbeats 1600000 in
theorem first_w (size n cut prefx seed : Int) (w : World) : Calls Try.prog 3 #[.int .i64 size, .int .i64 n, .int .i64 cut, .int .i64 prefx, .int .i64 seed] w fun e w' => e = .returned (.bool true) ∧ Below w.heap.size w w' := by
  have KN := hid_as (known_c w)
  go_enter Try.func3, Try.ntmps3
  go_wp2_with fail
  with_reducible refine KN.out.mono ?_
  rintro e w1 ⟨rfl, k1⟩
  have K1 := hid_as k1
  have ST := hid_as (store_c size w1)
  clear KN k1
  go_wp2_with fail
  with_reducible refine ST.out.mono ?_
  rintro e w2 ⟨z, hz1, hz2, rfl, t2, k2⟩
  have RM := hid_as (room_c t2)
  rw [new_room hz1] at RM
  have T2 := hid_as t2
  have K2 := hid_as (below_and K1.out k2)
  have GZ : Hid (w.heap.size ≤ w1.heap.size) := K1.out.size
  have GY : Hid (w.heap.size ≤ w1.heap.size + 1) := Nat.le_succ_of_le K1.out.size
  clear ST t2 k2 K1
  generalize w1.heap.size + 1 = g at *
  generalize w1.heap.size = h at *
  obtain ⟨r, hr⟩ : ∃ r, r = (z - 36) / 8 := ⟨_, rfl⟩
  rw [← hr] at RM
  have hr1 : r ≤ 60 := by omega
  have HR := hid_as hr
  clear hr
  go_upto_region 4 with fail
  go_cut [1] from 26 to 31 (fun v wx => ∃ a : Nat, a ≤ r ∧ a ≤ 20 ∧ v = .int .i64 a ∧ Same w2 wx)
  case first =>
    go_wp2_with fail
    with_reducible refine RM.out.mono ?_
    rintro e w3 ⟨rfl, k3⟩
    have K3 := hid_as k3
    clear RM k3
    by_cases hl : (20 : Int) < (r : Int)
    · have PA := hid_as (fun W => place_i n 21 (by decide) (by decide) W)
      go_wp2_with fail
      with_reducible refine (PA.out _).mono ?_
      rintro e w4 ⟨⟨a, ha, rfl⟩, hw⟩
      subst w4
      clear PA
      go_wp2_with fail
      go_meet
      exact ⟨a, by omega, by omega, rfl, K3.out⟩
    · have PA := hid_as (fun W => place_i n (1 + (r : Int)) (by omega) (by omega) W)
      go_wp2_with fail
      with_reducible refine (PA.out _).mono ?_
      rintro e w4 ⟨⟨a, ha, rfl⟩, hw⟩
      subst w4
      clear PA
      go_wp2_with fail
      go_meet
      exact ⟨a, by omega, by omega, rfl, K3.out⟩
  case rest =>
  obtain ⟨a, har, ha5, rfl, k3⟩ := hcut
  have H3 : Hid (Hk w wc g h (SS.new 8 z) a 0 none) := ⟨T2.out.same k3, below_and K2.out k3.below, GY.out, GZ.out, sg_new (by decide) (by omega) (by have := HR.out; omega) (by omega)⟩
  clear RM T2 K2 k3 HR
  have OP := hid_as (H3.out.opn (ni := a) rfl rfl)
  go_wp2_with fail
  with_reducible refine OP.out.mono ?_
  rintro e w4 ⟨gj, J, v, f, rfl, op⟩
  obtain ⟨rfl, rfl⟩ := op.told
  have H4 := hid_as op.hj
  have LT := hid_as H4.out.lts
  have NB := hid_as (fun (W : World) => num_i seed a (ni := a) rfl W (by omega))
  have PC := hid_as (fun W => place_i cut 6 (by decide) (by decide) W)
  clear OP op H3
  go_wp2_with fail
  with_reducible refine (PC.out _).mono ?_
  rintro e w5 ⟨⟨c, hc, rfl⟩, hw⟩
  subst w5
  have CU := hid_as (H4.out.cut (c : Int) prefx (by omega))
  clear H4 PC
  go_wp2_with fail
  with_reducible refine CU.out.mono ?_
  rintro e w5 ⟨rfl, h5, u5⟩
  have H5 := hid_as h5
  have LT5 := hid_as h5.lts
  clear CU h5 u5
  generalize (SS.new 8 z).cut (c : Int) prefx = s5 at *
  go_wp2_with fail
  with_reducible refine (NB.out _).mono ?_
  rintro e w6 ⟨v6, rfl, own6, k6⟩
  have LY := hid_as ((H5.out.below k6).lay (sc := 1) (sci := 1) rfl own6 LT5.out.1 LT5.out.2.1 LT5.out.2.2 (nbs_len _ _) (nbs_ints _ _) (by decide) (by decide))
  clear H5 own6 k6
  go_wp2_with fail
  with_reducible refine LY.out.mono ?_
  rintro e w7 ⟨en, rfl, ly⟩
  have NT : Hid (∀ (W : World) (B B2 : Nat) (v v2 : Value) (n2 : Nat), W.ownsRow B 2 1 v n2 (i64s (nbs seed a)) → W.ownsRow B2 2 1 v2 a (i64s (nbs seed a)) → Calls Try.prog 13 #[v, v2] W fun e w' => e = .returned (.bool true) ∧ Same W w') := fun W B B2 v v2 n2 h1 h2 => by
    have := nums_told h1 h2 (by rw [nbs_len]; omega)
    rwa [decide_eq_true rfl] at this
  have CS : ∃ (s' : SS) (o' : Last), Hk w w7 g h s' a 1 o' ∧ ((o' = none ∧ en = 82) ∨ (o' = some (1, nbs seed a) ∧ (en = 0 ∨ en = 82))) := by
    rcases ly with ⟨J', s', he, hj, hl, hf, hz, hs, b, kp⟩ | ⟨s', o', he, hk, ho, hf, hz, b⟩
    · exact ⟨s', _, hj.hk, Or.inr ⟨rfl, Or.inl he⟩⟩
    · skip
      rcases ho with rfl | rfl
      · exact ⟨s', _, hk, Or.inl ⟨rfl, he⟩⟩
      · exact ⟨s', _, hk, Or.inr ⟨rfl, Or.inr he⟩⟩
  obtain ⟨s7, o7, h7, hc7⟩ := CS
  have PW := hid_as h7.pwr2
  clear LY ly h7
  go_wp2_with fail
  with_reducible refine PW.out.mono ?_
  rintro e w8 ⟨rfl, h8, _⟩
  have OP := hid_as (h8.opn (ni := a) rfl rfl)
  clear PW h8
  go_wp2_with fail
  with_reducible refine OP.out.mono ?_
  rintro e w9 ⟨gj9, J9, v9, f9, rfl, op9⟩
  rcases hc7 with ⟨rfl, rfl⟩ | ⟨rfl, hen⟩
  · obtain ⟨rfl, rfl⟩ := op9.told
    have H9 := hid_as op9.hj
    clear op9 OP
    go_wp2
    go_ret
    exact ⟨rfl, H9.out.k⟩
  · obtain ⟨rfl, own9⟩ := op9.told
    have H9 := hid_as op9.hj
    have OW9 := hid_as own9
    clear op9 own9 OP
    go_wp2_with fail
    with_reducible refine (NB.out _).mono ?_
    rintro e w11 ⟨v11, rfl, own11, k11⟩
    have NU := hid_as (NT.out _ _ _ _ _ _ (own64_below OW9.out k11) own11)
    have H11 := hid_as (H9.out.below k11)
    clear own11 k11 OW9 H9
    go_wp2_with fail
    with_reducible refine NU.out.mono ?_
    rintro e w12 ⟨rfl, k12⟩
    have H12 := hid_as (H11.out.below k12.below)
    clear NU k12 H11
    rcases hen with rfl | rfl
    · go_wp2
      go_ret
      exact ⟨rfl, H12.out.k⟩
    · go_wp2
      go_ret
      exact ⟨rfl, H12.out.k⟩
end Go.Proofs.Ytoiadofoclgnoab
