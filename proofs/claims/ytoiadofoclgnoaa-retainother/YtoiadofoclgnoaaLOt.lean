/- The walk of RetainOther (stage 9). -/
import Derived.Test.YtoiadofoclgnoaaL1
namespace Go.Proofs.Ytoiadofoclgnoaa
open Go.RowKit
open Pdu
set_option maxHeartbeats 1600000 in
theorem other_w (size n m seed : Int) (w : World) : Calls Try.prog 8 #[.int .i64 size, .int .i64 n, .int .i64 m, .int .i64 seed] w fun e w' => e = .returned (.bool true) ∧ Below w.heap.size w w' := by
  have KN := hid_as (known_c w)
  go_enter Try.func8, Try.ntmps8
  go_wp2_with fail
  refine KN.out.mono ?_
  rintro e w1 ⟨rfl, k1⟩
  have K1 := hid_as k1
  have ST := hid_as (store_c size w1)
  clear KN k1
  go_wp2_with fail
  refine ST.out.mono ?_
  rintro e w2 ⟨z, hz1, hz2, rfl, t2, k2⟩
  have RM := hid_as (room_c t2)
  rw [new_room hz1] at RM
  have T2 := hid_as t2
  have K2 := hid_as (below_and K1.out k2)
  have GZ : Hid (w.heap.size ≤ w1.heap.size) := K1.out.size
  have GY : Hid (w.heap.size ≤ w1.heap.size + 1) := Nat.le_succ_of_le K1.out.size
  clear ST t2 k2 K1
  generalize w1.heap.size + 1 = g at *
  generalize w1.heap.size = h at *
  obtain ⟨r, hr⟩ : ∃ r, r = (z - 36) / 8 := ⟨_, rfl⟩
  rw [← hr] at RM
  have hr1 : r ≤ 60 := by omega
  have HR := hid_as hr
  clear hr
  go_wp2_with fail
  refine RM.out.mono ?_
  rintro e w3 ⟨rfl, k3⟩
  have HK : Hid (∀ p : Nat, p ≤ r → Hk w w3 g h (SS.new 8 z) p 0 none) := fun p hp => ⟨T2.out.same k3, below_and K2.out k3.below, GY.out, GZ.out, sg_new (by decide) (by omega) (by have := HR.out; omega) (by omega)⟩
  clear RM T2 K2 k3
  go_upto_region 5 with fail
  generalize hq : (if (20 : Int) < (r : Int) then (20 : Int) else (r : Int)) = q
  have hq1 : 0 ≤ q ∧ q ≤ 20 ∧ q ≤ (r : Int) := by rw [← hq]; split <;> omega
  clear hq
  have P1 := hid_as (fun W => place_i n (1 + q) (by omega) (by omega) W)
  have P2 := hid_as (fun W => place_i m (1 + q) (by omega) (by omega) W)
  go_wp2_with fail
  refine (P1.out _).mono ?_
  rintro e w4 ⟨⟨a, ha, rfl⟩, hw⟩
  subst w4
  go_wp2_with fail
  refine (P2.out _).mono ?_
  rintro e w4 ⟨⟨b, hb, rfl⟩, hw⟩
  subst w4
  have har : a ≤ r := by omega
  have hbr : b ≤ r := by omega
  have ha5 : a ≤ 20 := by omega
  have hb5 : b ≤ 20 := by omega
  have H3 := hid_as (HK.out a har)
  have OP := hid_as (H3.out.opn (ni := a) rfl rfl)
  have HBR : Hid (36 + 8 * b ≤ z) := by have := HR.out; show _ ≤ _; omega
  clear P1 P2 HK hq1 ha hb HR
  go_wp2_with fail
  refine OP.out.mono ?_
  rintro e w4 ⟨gj, J, v, f, rfl, op⟩
  obtain ⟨rfl, rfl⟩ := op.told
  have H4 := hid_as op.hj
  have LT := hid_as H4.out.lts
  have NB := hid_as (fun (W : World) => num_i seed a (ni := a) rfl W (by omega))
  clear OP op H3
  go_wp2_with fail
  refine (NB.out _).mono ?_
  rintro e w5 ⟨v5, rfl, own5, k5⟩
  have LY := hid_as ((H4.out.below k5).lay0 (sc := 3) (sci := 3) (show (-1 : Int) < 0 by decide) rfl own5 LT.out.1 LT.out.2.1 LT.out.2.2 (nbs_len _ _) (nbs_ints _ _) (by decide) (by decide))
  clear H4 own5 k5
  go_wp2_with fail
  refine LY.out.mono ?_
  rintro e w6 ⟨rfl, J6, s6, ly⟩
  have H6 := hid_as ly.hj.hk
  have D6 : Hid (s6.dead = false) := ly.hj.dead
  have Z6 : Hid (s6.sz = z) := ly.sz
  clear LY ly
  -- the end, once what was asked has been told
  have AG : Hid (∀ W, Hk w W g h s6 a 1 (some (3, nbs seed a)) → Calls Try.prog 13 #[.pointer (some ⟨g, 0, none⟩), .int .i64 (a : Int)] W fun e W' => ∃ (gj : Nat) (J : JS) (v : Value) (f : Int), e = .returned (.tuple #[.pointer (some ⟨gj, 0, none⟩), v, .int .i64 f, .int .i64 0]) ∧ Opn w W W' gj g h J s6 a 1 (some (3, nbs seed a)) v f) := fun W q => q.opn D6.out rfl
  have NT : Hid (∀ (W : World) (B B2 : Nat) (v v2 : Value) (n2 : Nat), W.ownsRow B 2 1 v n2 (i64s (nbs seed a)) → W.ownsRow B2 2 1 v2 a (i64s (nbs seed a)) → Calls Try.prog 20 #[v, v2] W fun e w' => e = .returned (.bool true) ∧ Same W w') := fun W B B2 v v2 n2 h1 h2 => by
    have := nums_told h1 h2 (by rw [nbs_len]; omega)
    rwa [decide_eq_true rfl] at this
  by_cases hab : a = b
  · subst hab
    go_wp2_with fail
    refine (AG.out _ H6.out).mono ?_
    rintro e w7 ⟨gj7, J7, v7, f7, rfl, op7⟩
    obtain ⟨rfl, own7⟩ := op7.told
    have H7 := hid_as op7.hj.hk
    have OW7 := hid_as own7
    clear op7 own7 H6
    go_wp2_with fail
    refine (NB.out _).mono ?_
    rintro e w8 ⟨v8, rfl, own8, k8⟩
    have NU := hid_as (NT.out _ _ _ _ _ _ (own64_below OW7.out k8) own8)
    have H8 := hid_as (H7.out.below k8)
    clear own8 k8 OW7 H7
    go_wp2_with fail
    refine NU.out.mono ?_
    rintro e w9 ⟨rfl, k9⟩
    have H9 := hid_as (H8.out.below k9.below)
    clear NU k9 H8
    go_wp2_with fail
    refine (AG.out _ H9.out).mono ?_
    rintro e w10 ⟨gj10, J10, v10, f10, rfl, op10⟩
    obtain ⟨rfl, own10⟩ := op10.told
    have H10 := hid_as op10.hj.hk
    have OW10 := hid_as own10
    clear op10 own10 H9
    go_wp2_with fail
    refine (NB.out _).mono ?_
    rintro e w11 ⟨v11, rfl, own11, k11⟩
    have NU := hid_as (NT.out _ _ _ _ _ _ (own64_below OW10.out k11) own11)
    have H11 := hid_as (H10.out.below k11)
    clear own11 k11 OW10 H10
    go_wp2_with fail
    refine NU.out.mono ?_
    rintro e w12 ⟨rfl, k12⟩
    have H12 := hid_as (H11.out.below k12.below)
    clear NU k12 H11
    go_wp2
    go_ret
    exact ⟨rfl, H12.out.k⟩
  · have hab1 : ((a : Int) == (b : Int)) = false := by rw [beq_eq_false_iff_ne]; omega
    have hab2 : ((a : Int) != (b : Int)) = true := by rw [bne_iff_ne]; omega
    have HAB := hid_as hab
    have OB := hid_as (open_c (n := b) H6.out.st D6.out H6.out.sg.fit ((room_is H6.out.sg.fit).2 (by rw [Z6.out]; exact HBR.out)))
    clear hab
    go_wp2_with fail
    refine OB.out.mono ?_
    rintro e w7 ⟨gj7, J7, v7, f7, rfl, op7⟩
    obtain ⟨rfl, rfl⟩ := fnd_other H6.out.sg.ivr HAB.out op7.fnd
    have H7 := hid_as (H6.out.below op7.k)
    clear op7 H6 OB
    go_wp2_with fail
    refine (AG.out _ H7.out).mono ?_
    rintro e w10 ⟨gj10, J10, v10, f10, rfl, op10⟩
    obtain ⟨rfl, own10⟩ := op10.told
    have H10 := hid_as op10.hj.hk
    have OW10 := hid_as own10
    clear op10 own10 H7
    go_wp2_with fail
    refine (NB.out _).mono ?_
    rintro e w11 ⟨v11, rfl, own11, k11⟩
    have NU := hid_as (NT.out _ _ _ _ _ _ (own64_below OW10.out k11) own11)
    have H11 := hid_as (H10.out.below k11)
    clear own11 k11 OW10 H10
    go_wp2_with fail
    refine NU.out.mono ?_
    rintro e w12 ⟨rfl, k12⟩
    have H12 := hid_as (H11.out.below k12.below)
    clear NU k12 H11
    go_wp2
    go_ret
    exact ⟨rfl, H12.out.k⟩
end Go.Proofs.Ytoiadofoclgnoaa
