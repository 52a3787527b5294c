/- The walk of RetainRooms (stage 9). -/
import Derived.Test.YtoiadofoclgnoaaL1
namespace Go.Proofs.Ytoiadofoclgnoaa
open Go.RowKit
open Pdu
def clamp (a b : Nat) (x : Int) : Nat := if x < a then a else if (b : Int) < x then b else x.toNat
theorem clamp_is (a b : Nat) (x : Int) (h : a ≤ b) : ((x < a ∧ ((clamp a b x : Nat) : Int) = a) ∨ ((b : Int) < x ∧ ((clamp a b x : Nat) : Int) = b) ∨ ((a : Int) ≤ x ∧ x ≤ b ∧ ((clamp a b x : Nat) : Int) = x)) ∧ a ≤ clamp a b x ∧ clamp a b x ≤ b := by
  unfold clamp
  split
  · omega
  · split <;> omega
set_option maxHeartbeats 1600000 in
theorem rooms_w (blocks size n : Int) (w : World) : Calls Try.prog 6 #[.int .i64 blocks, .int .i64 size, .int .i64 n] w fun e w' => e = .returned (.bool true) ∧ Below w.heap.size w w' := by
  have KN := hid_as (known_c w)
  go_enter Try.func6, Try.ntmps6
  go_wp2_with fail
  refine KN.out.mono ?_
  rintro e w1 ⟨rfl, k1⟩
  have K1 := hid_as k1
  clear KN k1
  obtain ⟨nb, hnb⟩ : ∃ nb, nb = clamp 1 64 blocks := ⟨_, rfl⟩
  obtain ⟨z, hz⟩ : ∃ z, z = clamp 16 4096 size := ⟨_, rfl⟩
  have h1 := clamp_is 1 64 blocks (by decide)
  have h2 := clamp_is 16 4096 size (by decide)
  rw [← hnb] at h1
  rw [← hz] at h2
  have NW := hid_as (newb_c nb z blocks size w1 h1.1 h2.1)
  have hnb1 := h1.2
  have hz1 := h2.2
  clear h1 h2 hnb hz
  go_wp2_with fail
  refine NW.out.mono ?_
  rintro e w2 ⟨rfl, t2, k2, _⟩
  have RM := hid_as (room_c t2)
  have T2 := hid_as t2
  have K2 := hid_as (below_and K1.out k2)
  have GZ : Hid (w.heap.size ≤ w1.heap.size) := K1.out.size
  have GY : Hid (w.heap.size ≤ w1.heap.size + 1) := Nat.le_succ_of_le K1.out.size
  clear NW t2 k2 K1
  generalize w1.heap.size + 1 = g at *
  generalize w1.heap.size = h at *
  have HB := hid_as (fun (W : World) (k : Same w2 W) => blocks_c (T2.out.same k))
  have HZ := hid_as (fun (W : World) (k : Same w2 W) => size_c (T2.out.same k))
  have ON : Hid (∀ W, Same w2 W → (n < 0 ∨ ((SS.new nb z).room : Int) < n ∨ (SS.new nb z).fit = false) → Calls Try.prog 13 #[.pointer (some ⟨g, 0, none⟩), .int .i64 n] W fun e w' => e = .returned (.tuple #[.pointer none, .slice none 0 0, .int .i64 0, .int .i64 90]) ∧ Same W w') := fun W k q => open_no (T2.out.same k) rfl n q
  have hrows : (SS.new nb z).rows.length = nb := by simp [SS.new]
  have hszz : (SS.new nb z).sz = z := rfl
  rw [hrows] at HB
  rw [hszz] at HZ
  have FT : Hid ((SS.new nb z).fit = decide (4 ≤ nb ∧ 64 ≤ z)) := by
    show _ = _
    unfold SS.fit
    rw [hrows, hszz]
  by_cases hf : 4 ≤ nb ∧ 64 ≤ z
  · have F1 : Hid ((SS.new nb z).fit = true) := by have := FT.out; rw [decide_eq_true hf] at this; exact this
    have hroom : (SS.new nb z).room = (z - 36) / 8 := by unfold SS.room; rw [if_pos F1.out]; rfl
    obtain ⟨r, hr⟩ : ∃ r, r = (z - 36) / 8 := ⟨_, rfl⟩
    rw [hroom, ← hr] at RM ON
    have hr1 : r ≤ 600 := by omega
    have hr2 : 36 + 8 * r ≤ z := by omega
    have hq1 : ¬ (r : Int) < ((z : Int) - 64) / 8 := by omega
    have hq2 : ¬ (r : Int) < ((z : Int) - 64).tdiv 8 := by rw [Int.tdiv_eq_ediv_of_nonneg (by omega)]; exact hq1
    have hb4 : ¬ (nb : Int) < 4 := by omega
    have hz4 : ¬ (z : Int) < 64 := by omega
    have HKT := hid_as (fun (W : World) (k : Below w2.heap.size w2 W) => (⟨T2.out.below k, below_and K2.out k, GY.out, GZ.out, sg_new hf.1 hf.2 hr2 hz1.2⟩ : Hk w W g h (SS.new nb z) r 0 none))
    have OC : Hid (∀ W, Same w2 W → ∀ m : Nat, m ≤ r → Calls Try.prog 13 #[.pointer (some ⟨g, 0, none⟩), .int .i64 (m : Int)] W fun e w' => OpnPost W g h (SS.new nb z) m e w') := fun W k m hm => open_c (T2.out.same k) rfl F1.out (by rw [hroom, ← hr]; exact hm)
    have NB := hid_as (fun (W : World) => num_i n r (ni := r) rfl W (by omega))
    have NC := hid_as (fun (W : World) => num_i n (r + 1) (ni := (r : Int) + 1) (by omega) W (by omega))
    have NT : Hid (∀ (W : World) (B B2 : Nat) (v v2 : Value) (n2 : Nat), W.ownsRow B 2 1 v n2 (i64s (nbs n r)) → W.ownsRow B2 2 1 v2 r (i64s (nbs n r)) → Calls Try.prog 20 #[v, v2] W fun e w' => e = .returned (.bool true) ∧ Same W w') := fun W B B2 v v2 n2 h1 h2 => by
      have := nums_told h1 h2 (by rw [nbs_len]; omega)
      rwa [decide_eq_true rfl] at this
    clear hr hroom hrows hszz FT hf T2 K2
    go_wp2_with fail
    refine RM.out.mono ?_
    rintro e w3 ⟨rfl, k3⟩
    have S3 := hid_as k3
    clear RM k3
    go_wp2_with fail
    refine (HB.out _ S3.out).mono ?_
    rintro e w4 ⟨rfl, k4⟩
    have S4 := hid_as (S3.out.trans k4)
    clear k4 S3
    go_wp2_with fail
    refine (HZ.out _ S4.out).mono ?_
    rintro e w5 ⟨rfl, hw⟩
    subst w5
    go_wp2_with fail
    refine (HZ.out _ S4.out).mono ?_
    rintro e w5 ⟨rfl, hw⟩
    subst w5
    clear HB HZ
    by_cases n0 : n < 0
    · have dn : decide (n < 0) = true := decide_eq_true n0
      have O4 := hid_as (ON.out _ S4.out (Or.inl n0))
      go_wp2_with fail
      refine O4.out.mono ?_
      rintro e w5 ⟨rfl, k5⟩
      have HK := hid_as (HKT.out _ (below_and S4.out.below k5.below))
      clear O4 k5 S4 ON OC HKT
      have OP := hid_as (HK.out.opn (ni := r) rfl rfl)
      clear HK
      go_wp2_with fail
      refine OP.out.mono ?_
      rintro e w5 ⟨gj, J, v, f, rfl, op⟩
      obtain ⟨rfl, rfl⟩ := op.told
      have H5 := hid_as op.hj
      have LT := hid_as op.hj.lts
      clear OP op
      go_wp2_with fail
      refine (NB.out _).mono ?_
      rintro e w6 ⟨v6, rfl, own6, k6⟩
      have LY := hid_as ((H5.out.below k6).lay0 (sc := 1) (sci := 1) (show (-1 : Int) < 0 by decide) rfl own6 LT.out.1 LT.out.2.1 LT.out.2.2 (nbs_len _ _) (nbs_ints _ _) (by decide) (by decide))
      clear H5 own6 k6
      go_wp2_with fail
      refine LY.out.mono ?_
      rintro e w7 ⟨rfl, J7, s7, ly⟩
      have H7 := hid_as ly.hj
      clear LY ly
      go_wp2_with fail
      refine (NC.out _).mono ?_
      rintro e w8 ⟨v8, rfl, own8, k8⟩
      obtain ⟨ao8, c8, rfl⟩ := (own_sl own8).shape
      rw [i64s_len, nbs_len] at *
      have H8 := hid_as (H7.out.below k8)
      have LN := hid_as (lay_no (ao := ao8) (m := r + 1) (c := c8) H8.out.jr.jn 2 (by rw [H8.out.jn]; omega))
      clear own8 k8 H7
      go_wp2_with fail
      refine LN.out.mono ?_
      rintro e w9 ⟨rfl, hw⟩
      subst w9
      have OP := hid_as (H8.out.hk.opn (ni := r) H8.out.dead rfl)
      clear LN H8
      go_wp2_with fail
      refine OP.out.mono ?_
      rintro e w10 ⟨gj10, J10, v10, f10, rfl, op10⟩
      obtain ⟨rfl, own10⟩ := op10.told
      have H10 := hid_as op10.hj.hk
      have OW10 := hid_as own10
      clear op10 own10 OP
      go_wp2_with fail
      refine (NB.out _).mono ?_
      rintro e w11 ⟨v11, rfl, own11, k11⟩
      have NU := hid_as (NT.out _ _ _ _ _ _ (own64_below OW10.out k11) own11)
      have H11 := hid_as (H10.out.below k11)
      clear own11 k11 OW10 H10
      go_wp2_with fail
      refine NU.out.mono ?_
      rintro e w12 ⟨rfl, k12⟩
      have H12 := hid_as (H11.out.below k12.below)
      clear NU k12 H11
      go_wp2
      go_ret
      exact ⟨rfl, H12.out.k⟩
    · have dn : decide (n < 0) = false := decide_eq_false n0
      by_cases n1 : (r : Int) < n
      · have dn1 : decide ((r : Int) < n) = true := decide_eq_true n1
        have O4 := hid_as (ON.out _ S4.out (Or.inr (Or.inl n1)))
        go_wp2_with fail
        refine O4.out.mono ?_
        rintro e w5 ⟨rfl, k5⟩
        have HK := hid_as (HKT.out _ (below_and S4.out.below k5.below))
        clear O4 k5 S4 ON OC HKT
        have OP := hid_as (HK.out.opn (ni := r) rfl rfl)
        clear HK
        go_wp2_with fail
        refine OP.out.mono ?_
        rintro e w5 ⟨gj, J, v, f, rfl, op⟩
        obtain ⟨rfl, rfl⟩ := op.told
        have H5 := hid_as op.hj
        have LT := hid_as op.hj.lts
        clear OP op
        go_wp2_with fail
        refine (NB.out _).mono ?_
        rintro e w6 ⟨v6, rfl, own6, k6⟩
        have LY := hid_as ((H5.out.below k6).lay0 (sc := 1) (sci := 1) (show (-1 : Int) < 0 by decide) rfl own6 LT.out.1 LT.out.2.1 LT.out.2.2 (nbs_len _ _) (nbs_ints _ _) (by decide) (by decide))
        clear H5 own6 k6
        go_wp2_with fail
        refine LY.out.mono ?_
        rintro e w7 ⟨rfl, J7, s7, ly⟩
        have H7 := hid_as ly.hj
        clear LY ly
        go_wp2_with fail
        refine (NC.out _).mono ?_
        rintro e w8 ⟨v8, rfl, own8, k8⟩
        obtain ⟨ao8, c8, rfl⟩ := (own_sl own8).shape
        rw [i64s_len, nbs_len] at *
        have H8 := hid_as (H7.out.below k8)
        have LN := hid_as (lay_no (ao := ao8) (m := r + 1) (c := c8) H8.out.jr.jn 2 (by rw [H8.out.jn]; omega))
        clear own8 k8 H7
        go_wp2_with fail
        refine LN.out.mono ?_
        rintro e w9 ⟨rfl, hw⟩
        subst w9
        have OP := hid_as (H8.out.hk.opn (ni := r) H8.out.dead rfl)
        clear LN H8
        go_wp2_with fail
        refine OP.out.mono ?_
        rintro e w10 ⟨gj10, J10, v10, f10, rfl, op10⟩
        obtain ⟨rfl, own10⟩ := op10.told
        have H10 := hid_as op10.hj.hk
        have OW10 := hid_as own10
        clear op10 own10 OP
        go_wp2_with fail
        refine (NB.out _).mono ?_
        rintro e w11 ⟨v11, rfl, own11, k11⟩
        have NU := hid_as (NT.out _ _ _ _ _ _ (own64_below OW10.out k11) own11)
        have H11 := hid_as (H10.out.below k11)
        clear own11 k11 OW10 H10
        go_wp2_with fail
        refine NU.out.mono ?_
        rintro e w12 ⟨rfl, k12⟩
        have H12 := hid_as (H11.out.below k12.below)
        clear NU k12 H11
        go_wp2
        go_ret
        exact ⟨rfl, H12.out.k⟩
      · have dn1 : decide ((r : Int) < n) = false := decide_eq_false n1
        obtain ⟨m, rfl⟩ : ∃ m : Nat, n = m := ⟨n.toNat, by omega⟩
        have O4 := hid_as (OC.out _ S4.out m (by omega))
        go_wp2_with fail
        refine O4.out.mono ?_
        rintro e w5 ⟨gq, Jq, vq, fq, rfl, opq⟩
        have HK := hid_as (HKT.out _ (below_and S4.out.below opq.k))
        clear O4 opq S4 ON OC HKT
        have OP := hid_as (HK.out.opn (ni := r) rfl rfl)
        clear HK
        go_wp2_with fail
        refine OP.out.mono ?_
        rintro e w5 ⟨gj, J, v, f, rfl, op⟩
        obtain ⟨rfl, rfl⟩ := op.told
        have H5 := hid_as op.hj
        have LT := hid_as op.hj.lts
        clear OP op
        go_wp2_with fail
        refine (NB.out _).mono ?_
        rintro e w6 ⟨v6, rfl, own6, k6⟩
        have LY := hid_as ((H5.out.below k6).lay0 (sc := 1) (sci := 1) (show (-1 : Int) < 0 by decide) rfl own6 LT.out.1 LT.out.2.1 LT.out.2.2 (nbs_len _ _) (nbs_ints _ _) (by decide) (by decide))
        clear H5 own6 k6
        go_wp2_with fail
        refine LY.out.mono ?_
        rintro e w7 ⟨rfl, J7, s7, ly⟩
        have H7 := hid_as ly.hj
        clear LY ly
        go_wp2_with fail
        refine (NC.out _).mono ?_
        rintro e w8 ⟨v8, rfl, own8, k8⟩
        obtain ⟨ao8, c8, rfl⟩ := (own_sl own8).shape
        rw [i64s_len, nbs_len] at *
        have H8 := hid_as (H7.out.below k8)
        have LN := hid_as (lay_no (ao := ao8) (m := r + 1) (c := c8) H8.out.jr.jn 2 (by rw [H8.out.jn]; omega))
        clear own8 k8 H7
        go_wp2_with fail
        refine LN.out.mono ?_
        rintro e w9 ⟨rfl, hw⟩
        subst w9
        have OP := hid_as (H8.out.hk.opn (ni := r) H8.out.dead rfl)
        clear LN H8
        go_wp2_with fail
        refine OP.out.mono ?_
        rintro e w10 ⟨gj10, J10, v10, f10, rfl, op10⟩
        obtain ⟨rfl, own10⟩ := op10.told
        have H10 := hid_as op10.hj.hk
        have OW10 := hid_as own10
        clear op10 own10 OP
        go_wp2_with fail
        refine (NB.out _).mono ?_
        rintro e w11 ⟨v11, rfl, own11, k11⟩
        have NU := hid_as (NT.out _ _ _ _ _ _ (own64_below OW10.out k11) own11)
        have H11 := hid_as (H10.out.below k11)
        clear own11 k11 OW10 H10
        go_wp2_with fail
        refine NU.out.mono ?_
        rintro e w12 ⟨rfl, k12⟩
        have H12 := hid_as (H11.out.below k12.below)
        clear NU k12 H11
        go_wp2
        go_ret
        exact ⟨rfl, H12.out.k⟩
  · have F1 : Hid ((SS.new nb z).fit = false) := by have := FT.out; rw [decide_eq_false hf] at this; exact this
    have hroom : (SS.new nb z).room = 0 := by unfold SS.room; rw [F1.out]; rfl
    rw [hroom] at RM ON
    have O4 := hid_as (fun (W : World) (k : Same w2 W) => ON.out W k (Or.inr (Or.inr F1.out)))
    clear hroom hrows hszz FT ON T2
    go_wp2_with fail
    refine RM.out.mono ?_
    rintro e w3 ⟨rfl, k3⟩
    have S3 := hid_as k3
    clear RM k3
    go_wp2_with fail
    refine (HB.out _ S3.out).mono ?_
    rintro e w4 ⟨rfl, k4⟩
    have S4 := hid_as (S3.out.trans k4)
    clear k4 S3 HB
    have FIN : Hid (∀ W, Same w2 W → Below w.heap.size w W) := fun W k => below_and K2.out k.below
    by_cases hb4 : (nb : Int) < 4
    · have db : decide ((nb : Int) < 4) = true := decide_eq_true hb4
      go_wp2_with fail
      refine (O4.out _ S4.out).mono ?_
      rintro e w5 ⟨rfl, k5⟩
      have S5 := hid_as (S4.out.trans k5)
      clear k5
      by_cases n0 : n < 0
      · have dn : decide (n < 0) = true := decide_eq_true n0
        go_wp2
        go_ret
        exact ⟨rfl, FIN.out _ S5.out⟩
      · have dn : decide (n < 0) = false := decide_eq_false n0
        by_cases n1 : (0 : Int) < n
        · have dn1 : decide ((0 : Int) < n) = true := decide_eq_true n1
          go_wp2
          go_ret
          exact ⟨rfl, FIN.out _ S5.out⟩
        · have dn1 : decide ((0 : Int) < n) = false := decide_eq_false n1
          go_wp2
          go_ret
          exact ⟨rfl, FIN.out _ S5.out⟩
    · have db : decide ((nb : Int) < 4) = false := decide_eq_false hb4
      have hz4 : (z : Int) < 64 := by omega
      have dz : decide ((z : Int) < 64) = true := decide_eq_true hz4
      go_wp2_with fail
      refine (HZ.out _ S4.out).mono ?_
      rintro e w5 ⟨rfl, hw⟩
      subst w5
      go_wp2_with fail
      refine (O4.out _ S4.out).mono ?_
      rintro e w5 ⟨rfl, k5⟩
      have S5 := hid_as (S4.out.trans k5)
      clear k5
      by_cases n0 : n < 0
      · have dn : decide (n < 0) = true := decide_eq_true n0
        go_wp2
        go_ret
        exact ⟨rfl, FIN.out _ S5.out⟩
      · have dn : decide (n < 0) = false := decide_eq_false n0
        by_cases n1 : (0 : Int) < n
        · have dn1 : decide ((0 : Int) < n) = true := decide_eq_true n1
          go_wp2
          go_ret
          exact ⟨rfl, FIN.out _ S5.out⟩
        · have dn1 : decide ((0 : Int) < n) = false := decide_eq_false n1
          go_wp2
          go_ret
          exact ⟨rfl, FIN.out _ S5.out⟩
end Go.Proofs.Ytoiadofoclgnoaa
