/- The walk of BlockApart (stage 8). -/
import Derived.Test.YtkjbgjiddpkcpaaT1
namespace Go.Proofs.Ytkjbgjiddpkcpaa
open Go.RowKit
open Pdu
theorem wr_n (s : SS) (i : Int) (bs : List Nat) : (s.wr i bs).n ≤ s.n + 1 := by
  unfold SS.wr
  split
  · omega
  · split
    · show s.n ≤ _; omega
    · exact Nat.le_refl _
/-- Two stores that share nothing. -/
structure Ap (w W : World) (g h g2 h2 : Nat) (s c : SS) : Prop where
  a : Hs w W g h s
  b : Hs w W g2 h2 c
  n1 : g ∉ [g2, h2]
  n2 : h ∉ [g2, h2]
theorem Ap.nxt {w W W' : World} {g h g2 h2 : Nat} {s c c' : SS} (I : Ap w W g h g2 h2 s c) (hb : Hs w W' g2 h2 c') (o : Only [g2, h2] W W') : Ap w W' g h g2 h2 s c' :=
  ⟨⟨I.a.st.only o I.n1 I.n2, hb.k, I.a.g0, I.a.h0⟩, hb, I.n1, I.n2⟩
theorem Ap.below {w W W' : World} {g h g2 h2 : Nat} {s c : SS} (I : Ap w W g h g2 h2 s c) (b : Below W.heap.size W W') : Ap w W' g h g2 h2 s c := ⟨I.a.below b, I.b.below b, I.n1, I.n2⟩
set_option maxRecDepth 100000 in
set_option maxHeartbeats 800000 in
theorem apart_no (x1 x2 x3 x4 : Value) (ao bo : Option Addr) (n c m c2 : Nat) (w : World) (hf : ¬ (n ≤ 200 ∧ m ≤ 200)) : Calls Try.prog 6 #[x1, .slice ao n c, .slice bo m c2, x2, x3, x4] w fun e w' => e = .returned (.bool true) ∧ Below w.heap.size w w' := by
  have X := hid_as (known_law w)
  by_cases h1 : n ≤ 200
  · have d1 : ¬ (200 : Int) < (n : Int) := by omega
    have d2 : (200 : Int) < (m : Int) := by omega
    clear hf h1
    go_enter Try.func6, Try.ntmps6
    go_wp2_with fail
    refine X.out.mono ?_
    rintro e w1 ⟨rfl, k1⟩
    have K1 := hid_as k1
    clear k1
    go_wp2
    go_ret
    exact ⟨rfl, K1.out⟩
  · have d1 : (200 : Int) < (n : Int) := by omega
    clear hf h1
    go_enter Try.func6, Try.ntmps6
    go_wp2_with fail
    refine X.out.mono ?_
    rintro e w1 ⟨rfl, k1⟩
    have K1 := hid_as k1
    clear k1
    go_wp2
    go_ret
    exact ⟨rfl, K1.out⟩
set_option maxRecDepth 100000 in
set_option maxHeartbeats 4000000 in
theorem apart_w (x0 x1 x2 x3 : Int) (ao bo : Option Addr) (n c n2 c2 : Nat) (a1 bs : List Nat) (w : World) (hs : Sl w (.slice ao n c) (u8s a1)) (hB : Bytes a1) (hs2 : Sl w (.slice bo n2 c2) (u8s bs)) (hB2 : Bytes bs) (hf : n ≤ 200 ∧ n2 ≤ 200) : Calls Try.prog 6 #[.int .i64 x0, .slice ao n c, .slice bo n2 c2, .int .i64 x1, .int .i64 x2, .int .i64 x3] w fun e w' => e = .returned (.bool true) ∧ Below w.heap.size w w' := by
  have X := hid_as (known_law w)
  have d1 : ¬ (200 : Int) < (n : Int) := by omega
  have d2 : ¬ (200 : Int) < (n2 : Int) := by omega
  have HS := hid_as hs
  have HS2 := hid_as hs2
  have P1 := hid_as (fun (W : World) => place_c x0 100 (by decide) (by decide) W)
  have P2 := hid_as (fun (W : World) => place_c x1 4 (by decide) (by decide) W)
  have P3 := hid_as (fun (W : World) => place_c x2 3 (by decide) (by decide) W)
  clear hs hs2 hf
  go_enter Try.func6, Try.ntmps6
  go_wp2_with fail
  refine X.out.mono ?_
  rintro e w1 ⟨rfl, k1⟩
  have K1 := hid_as k1
  clear k1 X
  go_wp2_with fail
  refine (P1.out w1).mono ?_
  rintro e wx ⟨⟨p, hp, rfl⟩, hw⟩
  subst wx
  obtain ⟨z, hz⟩ : ∃ z : Nat, z = 16 + p := ⟨_, rfl⟩
  have e1 : (16 : Int) + (p : Int) = (z : Int) := by omega
  have hz1 : 16 ≤ z ∧ z ≤ 4096 := by omega
  clear hz hp P1
  go_wp2_with fail
  refine (P2.out w1).mono ?_
  rintro e wx ⟨⟨i, hi, rfl⟩, hw⟩
  subst wx
  have N := hid_as (new_h (nb := 4) (sz := z) (b := 4) (z := z) K1.out (Or.inr (Or.inr ⟨by decide, by decide, rfl⟩)) (by omega))
  clear P2 e1
  go_wp2_with fail
  refine N.out.mono ?_
  rintro e w2 ⟨g, h, rfl, s2⟩
  have S2 := hid_as s2
  have DA := hid_as (fun (W : World) (s : SS) (q : Hs w W g h s) => q.drawn (n := z) (HS.out.below q.k) hB (by omega))
  have DB := hid_as (fun (W : World) (g h : Nat) (s : SS) (q : Hs w W g h s) => q.drawn (n := z) (HS2.out.below q.k) hB2 (by omega))
  obtain ⟨old, hold⟩ : ∃ old, old = dr a1 z := ⟨_, rfl⟩
  obtain ⟨now, hnow⟩ : ∃ now, now = dr bs z := ⟨_, rfl⟩
  have hol : old.length = z := by rw [hold, dr_len]
  have hnl : now.length = z := by rw [hnow, dr_len]
  have hob : Bytes old := by rw [hold]; exact dr_bytes _ _
  have hnb : Bytes now := by rw [hnow]; exact dr_bytes _ _
  rw [← hold] at DA
  rw [← hnow] at DB
  have HOL := hid_as hol
  have HNL := hid_as hnl
  clear N s2 hold hnow hol hnl HS HS2
  go_wp2_with fail
  go_loopw [14] (fun v wr => ∃ (I : Nat) (s : SS), v = .int .i64 (I : Int) ∧ I ≤ 4 ∧ Hs w wr g h s ∧ Ph s 4 z I (-1) 0 (fun j => if j < I then old else List.replicate z 0)) (fun v _ => 4 - (intOf v).toNat)
  case atStart => exact ⟨0, _, rfl, by omega, S2.out, (ph_new 4 z).cong (fun j _ => by rw [if_neg (by omega)])⟩
  case round =>
    obtain ⟨I, s, rfl, hI, ti, ph⟩ := hrel
    have T := hid_as ti
    have PH := hid_as ph
    clear ti ph S2
    by_cases hI8 : I < 4
    · have hI9 : (I : Int) < 4 := by omega
      obtain ⟨q1, q2⟩ := PH.out.dn hI8 (by decide) HOL.out
      have D := hid_as (DA.out wr s T.out)
      have Q2 := hid_as q2
      clear q1 q2
      go_wp2_with fail
      refine D.out.mono ?_
      rintro e w3 ⟨d, rfl, o3, s3, k3⟩
      have X := hid_as (s3.wrt I o3 T.out.lt.1 T.out.lt.2 hob (by rw [PH.out.num]; omega))
      clear D o3 s3 k3
      go_wp2_with fail
      refine X.out.mono ?_
      rintro e w5 ⟨rfl, t5, -⟩
      have T5 := hid_as t5
      clear X t5
      go_wp2
      go_roundw
      case rel =>
        refine ⟨I + 1, _, by go_num, by omega, T5.out, Q2.out.cong (fun j _ => ?_)⟩
        by_cases e : j = I
        · subst e; simp
        · by_cases e2 : j < I
          · simp [e, e2, show j < I + 1 by omega]
          · simp [e, e2, show ¬ j < I + 1 by omega]
      case measure => simp [intOf]; omega
    · obtain rfl : I = 4 := by omega
      have PH2 := hid_as (PH.out.cong (f' := fun _ => old) (fun j hj => by rw [if_pos hj]))
      have CP := hid_as T.out.cpy
      clear PH
      go_wp2_with fail
      refine CP.out.mono ?_
      rintro e w3 ⟨g2, h2, rfl, s3, k3, l1, l2⟩
      have A3 : Hid (Ap w w3 g h g2 h2 s s) := ⟨T.out.below k3, s3, by have := T.out.lt; simp; omega, by have := T.out.lt; simp; omega⟩
      clear CP s3 k3 l1 l2 T
      go_wp2_with fail
      refine (P3.out w3).mono ?_
      rintro e wx ⟨⟨m, hm, rfl⟩, hw⟩
      subst wx
      have C := hid_as (A3.out.b.cut m x3 (by omega))
      clear P3
      go_wp2_with fail
      refine C.out.mono ?_
      rintro e w4 ⟨rfl, s4, u4⟩
      have A4 := hid_as (A3.out.nxt s4 u4)
      have N4 : Hid ((s.cut m x3).n ≤ 4) := Nat.le_of_eq PH2.out.num
      generalize s.cut m x3 = c4 at A4 N4
      clear C s4 u4 A3
      go_wp2_with fail
      go_loopw [16] (fun v wr => ∃ (J : Nat) (c : SS), v = .int .i64 (J : Int) ∧ J ≤ 4 ∧ Ap w wr g h g2 h2 s c ∧ c.n ≤ 4 + J) (fun v _ => 4 - (intOf v).toNat)
      case atStart => exact ⟨0, _, rfl, by omega, A4.out, N4.out⟩
      case round =>
        obtain ⟨J, c5, rfl, hJ, ap, hcn⟩ := hrel
        have A := hid_as ap
        clear ap A4 N4
        by_cases hJ8 : J < 4
        · have hJ9 : (J : Int) < 4 := by omega
          have D := hid_as (DB.out wr g2 h2 c5 A.out.b)
          go_wp2_with fail
          refine D.out.mono ?_
          rintro e w5 ⟨d, rfl, o5, s5, k5⟩
          have A5 := hid_as (A.out.below k5)
          have X := hid_as (fun (k : Int) => s5.wrt k o5 A.out.b.lt.1 A.out.b.lt.2 hnb (by omega))
          clear D o5 s5 k5
          go_wp2_with fail
          refine (X.out _).mono ?_
          rintro e w6 ⟨rfl, t6, u6⟩
          have A6 := hid_as (A5.out.nxt t6 u6)
          clear X t6 u6 A5
          go_wp2
          go_roundw
          case rel => exact ⟨J + 1, _, by go_num, by omega, A6.out, Nat.le_trans (wr_n ..) (by omega)⟩
          case measure => simp [intOf]; omega
        · obtain rfl : J = 4 := by omega
          have PW := hid_as A.out.b.pwr2
          go_wp2_with fail
          refine PW.out.mono ?_
          rintro e w5 ⟨rfl, s5, u5⟩
          have A5 := hid_as (A.out.nxt s5 u5)
          have SP := hid_as (A5.out.b.spoil (x := 9) i 3)
          clear PW s5 u5 A
          go_wp2_with fail
          refine SP.out.mono ?_
          rintro e w6 ⟨rfl, s6, u6⟩
          have S6 := hid_as (A5.out.nxt s6 u6).a
          clear SP s6 u6 A5
          go_wp2_with fail
          go_loopw [17] (fun v wr => ∃ (K : Nat), v = .int .i64 (K : Int) ∧ K ≤ 4 ∧ Hs w wr g h s) (fun v _ => 4 - (intOf v).toNat)
          case atStart => exact ⟨0, rfl, by omega, S6.out⟩
          case round =>
            obtain ⟨K, rfl, hK, hs'⟩ := hrel
            have T := hid_as hs'
            clear hs' S6
            by_cases hK8 : K < 4
            · have hK9 : (K : Int) < 4 := by omega
              have R := hid_as (T.out.read K)
              rw [PH2.out.err hK8, PH2.out.got hK8] at R
              go_wp2_with fail
              refine R.out.mono ?_
              rintro e w7 ⟨v7, rfl, o7, s7, k7⟩
              have D := hid_as (DA.out w7 s s7)
              have O7 := hid_as o7
              clear R o7 s7 k7
              go_wp2_with fail
              refine D.out.mono ?_
              rintro e w8 ⟨d, rfl, o8, s8, k8⟩
              have S8 := hid_as s8
              have Y := hid_as (bytes_t (own_sl (own_below O7.out k8 (Nat.le_refl _))) (own_sl o8) hob)
              clear D o8 s8 k8 O7
              go_wp2_with fail
              refine Y.out.mono ?_
              rintro e wx ⟨rfl, hw⟩
              subst wx
              clear Y
              go_wp2
              go_roundw
              case rel => exact ⟨K + 1, by go_num, by omega, S8.out⟩
              case measure => simp [intOf]; omega
            · obtain rfl : K = 4 := by omega
              have Q1 := hid_as T.out.writes
              have Q2 := hid_as T.out.dead
              rw [PH2.out.num] at Q1
              rw [PH2.out.dead] at Q2
              have D := hid_as (DB.out wr g h s T.out)
              obtain ⟨q1, q2⟩ := PH2.out.dn (bs := now) hi (by decide) HNL.out
              have E1 := hid_as q1
              clear q1 q2
              go_wp2_with fail
              refine Q1.out.mono ?_
              rintro e wx ⟨rfl, hw⟩
              subst wx
              go_wp2_with fail
              refine Q2.out.mono ?_
              rintro e wx ⟨rfl, hw⟩
              subst wx
              go_wp2_with fail
              refine D.out.mono ?_
              rintro e w7 ⟨d, rfl, o7, s7, k7⟩
              have X := hid_as (s7.wrt i o7 T.out.lt.1 T.out.lt.2 hnb (by rw [PH2.out.num]; omega))
              rw [E1.out] at X
              clear D o7 s7 k7 Q1 Q2
              go_wp2_with fail
              refine X.out.mono ?_
              rintro e w8 ⟨rfl, s8, -⟩
              have K8 := hid_as s8.k
              clear X s8
              go_wp2
              go_ret
              exact ⟨rfl, K8.out⟩
theorem apart_law {x0 x1 x2 x3 : Int} {ao bo : Option Addr} {n c n2 c2 : Nat} {a1 bs : List Nat} {w : World} (hs : Sl w (.slice ao n c) (u8s a1)) (hB : Bytes a1) (hs2 : Sl w (.slice bo n2 c2) (u8s bs)) (hB2 : Bytes bs) : Calls Try.prog 6 #[.int .i64 x0, .slice ao n c, .slice bo n2 c2, .int .i64 x1, .int .i64 x2, .int .i64 x3] w fun e w' => e = .returned (.bool true) ∧ Below w.heap.size w w' := by
  by_cases hf : n ≤ 200 ∧ n2 ≤ 200
  · exact apart_w x0 x1 x2 x3 ao bo n c n2 c2 a1 bs w hs hB hs2 hB2 hf
  · exact apart_no _ _ _ _ ao bo n c n2 c2 w hf
end Go.Proofs.Ytkjbgjiddpkcpaa
