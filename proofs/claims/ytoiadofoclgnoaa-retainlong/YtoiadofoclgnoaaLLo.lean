/- The walk of RetainLong (stage 9). -/
import Derived.Test.YtoiadofoclgnoaaL1
namespace Go.Proofs.Ytoiadofoclgnoaa
open Go.RowKit
open Pdu
def lst (n t : Nat) : Last := if t = 0 then none else some (t, nbs (t : Int) n)
theorem lst_some {n t : Nat} (h : t ≠ 0) : lst n t = some (t, nbs (t : Int) n) := by unfold lst; rw [if_neg h]
structure LgR (w wr : World) (gj g h : Nat) (n t : Nat) : Prop where
  ex : ∃ (J : JS) (s : SS), Hj w wr gj g h J s n t (lst n t) ∧ s.lft < 0
set_option maxHeartbeats 1600000 in
theorem long_w (size n lays every : Int) (w : World) : Calls Try.prog 7 #[.int .i64 size, .int .i64 n, .int .i64 lays, .int .i64 every] w fun e w' => e = .returned (.bool true) ∧ Below w.heap.size w w' := by
  have KN := hid_as (known_c w)
  go_enter Try.func7, Try.ntmps7
  go_wp2_with fail
  with_reducible refine KN.out.mono ?_
  rintro e w1 ⟨rfl, k1⟩
  have K1 := hid_as k1
  have ST := hid_as (store_c size w1)
  clear KN k1
  go_wp2_with fail
  with_reducible refine ST.out.mono ?_
  rintro e w2 ⟨z, hz1, hz2, rfl, t2, k2⟩
  have RM := hid_as (room_c t2)
  rw [new_room hz1] at RM
  have T2 := hid_as t2
  have K2 := hid_as (below_and K1.out k2)
  have GZ : Hid (w.heap.size ≤ w1.heap.size) := K1.out.size
  have GY : Hid (w.heap.size ≤ w1.heap.size + 1) := Nat.le_succ_of_le K1.out.size
  clear ST t2 k2 K1
  generalize w1.heap.size + 1 = g at *
  generalize w1.heap.size = h at *
  obtain ⟨r, hr⟩ : ∃ r, r = (z - 36) / 8 := ⟨_, rfl⟩
  rw [← hr] at RM
  have hr1 : r ≤ 60 := by omega
  have HR := hid_as hr
  clear hr
  go_wp2_with fail
  with_reducible refine RM.out.mono ?_
  rintro e w3 ⟨rfl, k3⟩
  have HK : Hid (∀ p : Nat, p ≤ r → Hk w w3 g h (SS.new 8 z) p 0 none) := fun p hp => ⟨T2.out.same k3, below_and K2.out k3.below, GY.out, GZ.out, sg_new (by decide) (by omega) (by have := HR.out; omega) (by omega)⟩
  clear RM T2 K2 k3
  have hr10 : (10 : Int) < (r : Int) := by have := HR.out; omega
  have P0 := hid_as (fun W => place_i n 11 (by decide) (by decide) W)
  go_wp2_with fail
  with_reducible refine (P0.out _).mono ?_
  rintro e w4 ⟨⟨a, ha, rfl⟩, hw⟩
  subst w4
  have har : a ≤ r := by omega
  have ha5 : a ≤ 10 := by omega
  have P1 := hid_as (fun W => place_i lays 400 (by decide) (by decide) W)
  have P2 := hid_as (fun W => place_i every 50 (by decide) (by decide) W)
  have H3 := hid_as (HK.out a har)
  have OP := hid_as (H3.out.opn (ni := a) rfl rfl)
  clear HK ha HR hr10 P0
  go_wp2_with fail
  with_reducible refine (P1.out _).mono ?_
  rintro e w4 ⟨⟨b, hb, rfl⟩, hw⟩
  subst w4
  go_wp2_with fail
  with_reducible refine (P2.out _).mono ?_
  rintro e w4 ⟨⟨c, hc, rfl⟩, hw⟩
  subst w4
  obtain ⟨ev, hev⟩ : ∃ ev, ev = c + 1 := ⟨_, rfl⟩
  have hev1 : (1 : Int) + (c : Int) = (ev : Int) := by omega
  have hev2 : ¬ (ev : Int) = 0 := by omega
  have hb4 : b < 400 := by omega
  have hc4 : c < 50 := by omega
  have hev3 : ev ≤ 50 := by omega
  clear P1 P2 hb hc hev
  go_wp2_with fail
  with_reducible refine OP.out.mono ?_
  rintro e w4 ⟨gj0, J0, v0, f0, rfl, op⟩
  obtain ⟨rfl, rfl⟩ := op.told
  have L0 : Hid (LgR w w4 gj0 g h a 0) := ⟨J0, _, op.hj, show (-1 : Int) < 0 by decide⟩
  clear OP op H3
  go_wp2
  go_loopw [10, 14] (fun jv i wr => ∃ (u gj : Nat), 1 ≤ u ∧ u ≤ b + 1 ∧ i = .int .i64 u ∧ jv = .pointer (some ⟨gj, 0, none⟩) ∧ LgR w wr gj g h a (u - 1)) (fun _ i _ => b + 1 - (intOf i).toNat)
  case atStart => exact ⟨1, gj0, by omega, by omega, rfl, rfl, L0.out⟩
  case round =>
    obtain ⟨u, gj, hu1, hu2, rfl, rfl, hL⟩ := hrel
    obtain ⟨J, s, hj, hlft⟩ := hL.ex
    have HJ := hid_as hj
    have LF := hid_as hlft
    clear hL hj hlft L0
    have NB := hid_as (fun (W : World) => num_i (u : Int) a (ni := a) rfl W (by omega))
    by_cases hub : u ≤ b
    · have hub2 : (u : Int) ≤ (b : Int) := by omega
      have LT := hid_as HJ.out.lts
      go_wp2_with fail
      with_reducible refine (NB.out _).mono ?_
      rintro e w5 ⟨v5, rfl, own5, k5⟩
      have LY := hid_as ((HJ.out.below k5).lay0 (sc := u) (sci := (u : Int)) LF.out rfl own5 LT.out.1 LT.out.2.1 LT.out.2.2 (nbs_len _ _) (nbs_ints _ _) (by omega) (by omega))
      clear HJ own5 k5
      go_wp2_with fail
      with_reducible refine LY.out.mono ?_
      rintro e w6 ⟨rfl, J6, s6, ly⟩
      have hu1' : u - 1 + 1 = u := by omega
      have lyj := ly.hj
      have lyf := ly.lft
      rw [hu1'] at lyj
      have H6 := hid_as lyj
      have L6 := hid_as lyf
      clear LY ly lyj lyf
      have NXT : Hid (∀ (W : World) (gk : Nat) (Jk : JS), Hj w W gk g h Jk s6 a u (some (u, nbs (u : Int) a)) → LgR w W gk g h a (u + 1 - 1)) := fun W gk Jk q => by
        rw [show u + 1 - 1 = u by omega]
        refine ⟨Jk, s6, ?_, L6.out⟩
        rw [lst_some (by omega)]
        exact q
      by_cases hm : (u : Int) % (ev : Int) = 0
      · have hm2 : (u : Int).tmod (ev : Int) = 0 := by rw [Int.tmod_eq_emod_of_nonneg (by omega)]; exact hm
        have hm3 : ((u : Int) % (ev : Int) == 0) = true := by rw [beq_iff_eq]; exact hm
        have OP := hid_as (H6.out.hk.opn (ni := a) H6.out.dead rfl)
        go_wp2_with fail
        with_reducible refine OP.out.mono ?_
        rintro e w7 ⟨g7, J7, v7, f7, rfl, op7⟩
        obtain ⟨rfl, own7⟩ := op7.told
        have H7 := hid_as op7.hj
        have OW7 := hid_as own7
        clear OP op7 own7 H6
        go_wp2_with fail
        with_reducible refine (NB.out _).mono ?_
        rintro e w8 ⟨v8, rfl, own8, k8⟩
        have NU : Hid (Calls Try.prog 20 #[v7, v8] w8 fun e w' => e = .returned (.bool true) ∧ Same w8 w') := by
          have := nums_told (own64_below OW7.out k8) own8 (by rw [nbs_len]; omega)
          rwa [decide_eq_true rfl] at this
        have H8 := hid_as (H7.out.below k8)
        clear own8 k8 OW7 H7
        go_wp2_with fail
        with_reducible refine NU.out.mono ?_
        rintro e w9 ⟨rfl, k9⟩
        have H9 := hid_as (H8.out.below k9.below)
        have SC := hid_as H9.out.scn
        clear NU k9 H8 H9
        go_wp2_with fail
        with_reducible refine SC.out.mono ?_
        rintro e w10 ⟨rfl, h10, _⟩
        have N10 := hid_as (NXT.out _ _ _ h10)
        clear SC h10 NXT
        go_wp2
        go_roundw
        case rel => exact ⟨u + 1, g7, by omega, by omega, by go_num, rfl, N10.out⟩
        case measure => simp [intOf]; omega
      · have hm2 : ¬ (u : Int).tmod (ev : Int) = 0 := by rw [Int.tmod_eq_emod_of_nonneg (by omega)]; exact hm
        have hm3 : ((u : Int) % (ev : Int) == 0) = false := by rw [beq_eq_false_iff_ne]; exact hm
        have N6 := hid_as (NXT.out _ _ _ H6.out)
        clear NXT H6
        go_wp2
        go_roundw
        case rel => exact ⟨u + 1, gj, by omega, by omega, by go_num, rfl, N6.out⟩
        case measure => simp [intOf]; omega
    · obtain rfl : u = b + 1 := by omega
      have e1 : b + 1 - 1 = b := by omega
      have hjj := HJ.out
      rw [e1] at hjj
      have HJ2 := hid_as hjj
      clear hjj HJ e1
      have hnb : ¬ (((b + 1 : Nat) : Int) ≤ (b : Int)) := by omega
      by_cases hb0 : b = 0
      · subst hb0
        go_wp2
        go_ret
        exact ⟨rfl, HJ2.out.k⟩
      · have hb1 : ((b : Int) == 0) = false := by rw [beq_eq_false_iff_ne]; omega
        have h3 := HJ2.out
        rw [lst_some hb0] at h3
        have SC := hid_as h3.scn
        clear h3
        go_wp2_with fail
        with_reducible refine SC.out.mono ?_
        rintro e w10 ⟨rfl, h10, _⟩
        have K10 := hid_as h10.k
        clear SC h10
        go_wp2
        go_ret
        exact ⟨rfl, K10.out⟩
end Go.Proofs.Ytoiadofoclgnoaa
