/- The law of delays (stage 17). -/
import Derived.Test.YtbpnaenineinmaaLV2
import Derived.Test.YtbpnaenineinmaaM3
import Derived.Test.YtbpnaenineinmaaOpenF
namespace Go.Proofs.Ytbpnaenineinmaa
open Go.RowKit
open Fb
theorem b_tr (b : Bool) : tr (b01 b) = b := by cases b <;> rfl
theorem b_w (b : Bool) : w32 (b01 b) = b01 b := by cases b <;> rfl
theorem b_wn (b : Bool) (h : b = true) : (b01 b != 0) = true := by subst h; rfl
theorem pt_is {p : Int} (h : 0 ≤ p ∧ p ≤ 39) : max (w32 p) 0 = p := by rw [w32_is (by omega) (by omega)]; omega
theorem el_is {p t k : Int} (h : 0 ≤ t - k) (h2 : t - k ≤ 2147483647) : el p t k = min (t - k) p := by
  unfold el since
  rw [w32_is (by omega) h2]
  omega
theorem el_0 {p t : Int} (h : 0 ≤ p) : el p t t = 0 := by rw [el_is (by omega) (by omega)]; omega
def snc (a was : Bool) (t since : Int) : Int := if a && !was then t else since
def gne (a was : Bool) (t gone : Int) : Int := if !a && was then t else gone
def pl1 (a was : Bool) (p t pulse : Int) : Int := if 0 ≤ pulse ∧ p ≤ t - pulse then (if a && !was then -2 else -1) else pulse
def pl2 (a was : Bool) (t q : Int) : Int := if q = -1 ∧ (a && !was) = true then t else q
def D0 (was : Bool) (p t0 since : Int) (r : Rs) : Prop := r.k0 = b01 was ∧ (was = true → r.k1 = since ∧ 0 ≤ since ∧ since ≤ t0 ∧ r.k2 = b01 (decide (p ≤ t0 - since)))
def D1 (was : Bool) (p t0 gone : Int) (r : Rs) : Prop := r.k0 = b01 was ∧ -1 ≤ gone ∧ gone ≤ t0 ∧ (was = true → r.k2 = 0) ∧ (was = false → (gone = -1 ∧ r.k2 = 0) ∨ (0 ≤ gone ∧ r.k1 = gone ∧ r.k2 = b01 (decide (t0 - gone < p))))
def D2 (was : Bool) (p t0 pulse : Int) (r : Rs) : Prop := r.k0 = b01 was ∧ ((pulse = -1 ∧ (r.k2 = 0 ∨ (r.k2 = 2 ∧ was = true))) ∨ (0 ≤ pulse ∧ pulse ≤ t0 ∧ r.k1 = pulse ∧ ((r.k2 = 1 ∧ t0 - pulse < p) ∨ (r.k2 = 2 ∧ was = true ∧ p ≤ t0 - pulse))))
theorem d0_step {a was : Bool} {p t0 t since : Int} {r : Rs} (h : D0 was p t0 since r) (hp : 0 ≤ p ∧ p ≤ 39) (ht : 0 ≤ t0 ∧ t0 ≤ t ∧ t ≤ 100000) :
    D0 a p t (snc a was t since) (stp 0 [b01 a, p] r.o r.k0 r.k1 r.k2 t) ∧ ∃ x, (stp 0 [b01 a, p] r.o r.k0 r.k1 r.k2 t).o = [b01 (a && decide (p ≤ t - snc a was t since)), x] := by
  obtain ⟨h0, h1⟩ := h
  simp only [stp, List.getD_cons_zero, List.getD_cons_succ]
  rw [b_tr, pt_is hp, h0, b_w, w32_is (n := t) (by omega) (by omega)]
  cases a
  · exact ⟨⟨rfl, fun q => by cases q⟩, 0, rfl⟩
  · cases was
    · rw [show b01 false = 0 from rfl, pton_edge, el_0 hp.1]
      have e : snc true false t since = t := rfl
      rw [e, Int.sub_self]
      exact ⟨⟨rfl, fun _ => ⟨rfl, by omega, by omega, by rw [Int.sub_self]⟩⟩, 0, by simp⟩
    · obtain ⟨e1, e2, e3, e4⟩ := h1 rfl
      have e : snc true true t since = since := rfl
      rw [e, e4, e1, b_w, w32_is (n := since) (by omega) (by omega)]
      by_cases hc : p ≤ t0 - since
      · have hd : p ≤ t - since := by omega
        rw [decide_eq_true hc, show b01 true = 1 from rfl, pton_done (by decide)]
        exact ⟨⟨rfl, fun _ => ⟨rfl, e2, by omega, by rw [decide_eq_true hd]; rfl⟩⟩, p, by rw [decide_eq_true hd]; rfl⟩
      · rw [decide_eq_false hc, show b01 true = 1 from rfl, show b01 false = 0 from rfl, pton_wait (by decide) (by decide), el_is (by omega) (by omega)]
        have hm : decide (p ≤ min (t - since) p) = decide (p ≤ t - since) := decide_eq_decide.2 (by omega)
        rw [hm]
        exact ⟨⟨rfl, fun _ => ⟨rfl, e2, by omega, rfl⟩⟩, _, by rw [Bool.true_and]⟩
theorem d1_step {a was : Bool} {p t0 t gone : Int} {r : Rs} (h : D1 was p t0 gone r) (hp : 0 ≤ p ∧ p ≤ 39) (ht : 0 ≤ t0 ∧ t0 ≤ t ∧ t ≤ 100000) :
    D1 a p t (gne a was t gone) (stp 1 [b01 a, p] r.o r.k0 r.k1 r.k2 t) ∧ ∃ x, (stp 1 [b01 a, p] r.o r.k0 r.k1 r.k2 t).o = [b01 (a || (decide (0 ≤ gne a was t gone) && decide (t - gne a was t gone < p))), x] := by
  obtain ⟨h0, g1, g2, h1, h2⟩ := h
  simp only [stp, List.getD_cons_zero, List.getD_cons_succ]
  rw [b_tr, pt_is hp, h0, b_w, w32_is (n := t) (by omega) (by omega)]
  cases a
  · cases was
    · have e : gne false false t gone = gone := rfl
      rw [e, show b01 false = 0 from rfl]
      rcases h2 rfl with ⟨e1, e2⟩ | ⟨e1, e2, e3⟩
      · rw [e2, show w32 0 = 0 from rfl, ptof_idle]
        have hd : decide (0 ≤ gone) = false := decide_eq_false (by omega)
        exact ⟨⟨rfl, g1, by omega, (fun q => by cases q), fun _ => Or.inl ⟨e1, rfl⟩⟩, _, by rw [hd]; rfl⟩
      · have hz : decide (0 ≤ gone) = true := decide_eq_true e1
        rw [e3, b_w, e2, w32_is (n := gone) (by omega) (by omega)]
        by_cases hc : t0 - gone < p
        · rw [decide_eq_true hc, show b01 true = 1 from rfl, ptof_run (by decide), el_is (by omega) (by omega)]
          have hm : (min (t - gone) p < p) = (t - gone < p) := propext ⟨fun _ => by omega, fun _ => by omega⟩
          simp only [hm]
          refine ⟨⟨rfl, g1, by omega, (fun q => by cases q), fun _ => Or.inr ⟨e1, rfl, ?_⟩⟩, _, by rw [hz]; simp; rfl⟩
          by_cases hq : t - gone < p <;> simp [hq, b01]
        · have hd : decide (t - gone < p) = false := decide_eq_false (by omega)
          rw [decide_eq_false hc, show b01 false = 0 from rfl, ptof_idle]
          exact ⟨⟨rfl, g1, by omega, (fun q => by cases q), fun _ => Or.inr ⟨e1, rfl, by rw [hd]; rfl⟩⟩, _, by rw [hd, Bool.and_false]; rfl⟩
    · have e : gne false true t gone = t := rfl
      rw [e, ptof_fall (by decide), el_0 hp.1, Int.sub_self]
      have hz : decide (0 ≤ t) = true := decide_eq_true (by omega)
      refine ⟨⟨rfl, by omega, by omega, (fun q => by cases q), fun _ => Or.inr ⟨by omega, rfl, ?_⟩⟩, 0, by rw [hz]; simp⟩
      rw [Int.sub_self]
      by_cases hq : 0 < p <;> simp [hq, b01]
  · have e : gne true was t gone = gone := by cases was <;> rfl
    rw [e]
    exact ⟨⟨rfl, g1, by omega, fun _ => rfl, fun q => by cases q⟩, 0, by rw [Bool.true_or]; rfl⟩
theorem d2_step {a was : Bool} {p t0 t pulse : Int} {r : Rs} (h : D2 was p t0 pulse r) (hp : 0 ≤ p ∧ p ≤ 39) (ht : 0 ≤ t0 ∧ t0 ≤ t ∧ t ≤ 100000) :
    (pl2 a was t (pl1 a was p t pulse) = -2 ∨ D2 a p t (pl2 a was t (pl1 a was p t pulse)) (stp 2 [b01 a, p] r.o r.k0 r.k1 r.k2 t)) ∧ ∃ x y, (stp 2 [b01 a, p] r.o r.k0 r.k1 r.k2 t).o = [b01 y, x] ∧ (0 ≤ pl2 a was t (pl1 a was p t pulse) → t - pl2 a was t (pl1 a was p t pulse) < p → y = true) ∧ (pl2 a was t (pl1 a was p t pulse) = -1 → y = false) := by
  obtain ⟨h0, h1⟩ := h
  simp only [stp, List.getD_cons_zero, List.getD_cons_succ]
  rw [b_tr, pt_is hp, h0, b_w, w32_is (n := t) (by omega) (by omega)]
  rcases h1 with ⟨rfl, h2⟩ | ⟨g1, g2, g3, h2⟩
  · have q1 : pl1 a was p t (-1) = -1 := if_neg (by omega)
    rw [q1]
    rcases h2 with h2 | ⟨h2, rfl⟩
    · rw [h2, show w32 0 = 0 from rfl]
      cases a
      · have q2 : pl2 false was t (-1) = -1 := by cases was <;> rfl
        rw [q2, ptp_off (by decide)]
        exact ⟨Or.inr ⟨rfl, Or.inl ⟨rfl, Or.inl rfl⟩⟩, 0, false, rfl, fun q => by omega, fun _ => rfl⟩
      · cases was
        · have q2 : pl2 true false t (-1) = t := rfl
          rw [q2, show b01 false = 0 from rfl, ptp_go (by decide), el_0 hp.1, Int.sub_self]
          by_cases hq : 0 < p
          · rw [if_pos hq]
            exact ⟨Or.inr ⟨rfl, Or.inr ⟨by omega, by omega, rfl, Or.inl ⟨rfl, by omega⟩⟩⟩, 0, true, rfl, fun _ _ => rfl, fun q => by omega⟩
          · rw [if_neg hq]
            exact ⟨Or.inr ⟨rfl, Or.inr ⟨by omega, by omega, rfl, Or.inr ⟨rfl, rfl, by omega⟩⟩⟩, 0, false, rfl, fun _ q => absurd q hq, fun _ => rfl⟩
        · have q2 : pl2 true true t (-1) = -1 := rfl
          rw [q2, ptp_hold (by decide) (by decide)]
          exact ⟨Or.inr ⟨rfl, Or.inl ⟨rfl, Or.inl rfl⟩⟩, _, false, rfl, fun q => by omega, fun _ => rfl⟩
    · rw [h2, show w32 2 = 2 from rfl]
      cases a
      · have q2 : pl2 false true t (-1) = -1 := rfl
        rw [q2, ptp_off (by decide)]
        exact ⟨Or.inr ⟨rfl, Or.inl ⟨rfl, Or.inl rfl⟩⟩, 0, false, rfl, fun q => by omega, fun _ => rfl⟩
      · have q2 : pl2 true true t (-1) = -1 := rfl
        rw [q2, ptp_hold (by decide) (by decide)]
        exact ⟨Or.inr ⟨rfl, Or.inl ⟨rfl, Or.inr ⟨rfl, rfl⟩⟩⟩, _, false, rfl, fun q => by omega, fun _ => rfl⟩
  · rw [g3, w32_is (n := pulse) (by omega) (by omega)]
    rcases h2 with ⟨h2, h3⟩ | ⟨h2, rfl, h3⟩
    · rw [h2, show w32 1 = 1 from rfl]
      by_cases hq : p ≤ t - pulse
      · have hl : ¬ el p t pulse < p := by rw [el_is (by omega) (by omega)]; omega
        have q1 : pl1 a was p t pulse = if a && !was then -2 else -1 := if_pos ⟨g1, hq⟩
        rw [q1]
        cases a
        · have q2 : pl2 false was t (if false && !was then -2 else -1) = -1 := by cases was <;> rfl
          rw [q2, ptp_off1, if_neg hl]
          exact ⟨Or.inr ⟨rfl, Or.inl ⟨rfl, Or.inl rfl⟩⟩, 0, false, rfl, fun q => by omega, fun _ => rfl⟩
        · rw [ptp_run, if_neg hl]
          cases was
          · exact ⟨Or.inl rfl, _, false, rfl, fun q => absurd q (show ¬ (0 : Int) ≤ -2 by decide), fun _ => rfl⟩
          · have q2 : pl2 true true t (if true && !true then -2 else -1) = -1 := rfl
            rw [q2]
            exact ⟨Or.inr ⟨rfl, Or.inl ⟨rfl, Or.inr ⟨rfl, rfl⟩⟩⟩, _, false, rfl, fun q => by omega, fun _ => rfl⟩
      · have hl : el p t pulse < p := by rw [el_is (by omega) (by omega)]; omega
        have q1 : pl1 a was p t pulse = pulse := if_neg (by omega)
        have q2 : pl2 a was t pulse = pulse := if_neg (by omega)
        rw [q1, q2]
        cases a
        · rw [ptp_off1, if_pos hl]
          exact ⟨Or.inr ⟨rfl, Or.inr ⟨g1, by omega, rfl, Or.inl ⟨rfl, by omega⟩⟩⟩, _, true, rfl, fun _ _ => rfl, fun q => by omega⟩
        · rw [ptp_run, if_pos hl]
          exact ⟨Or.inr ⟨rfl, Or.inr ⟨g1, by omega, rfl, Or.inl ⟨rfl, by omega⟩⟩⟩, _, true, rfl, fun _ _ => rfl, fun q => by omega⟩
    · rw [h2, show w32 2 = 2 from rfl]
      have q1 : pl1 a true p t pulse = -1 := by
        have : pl1 a true p t pulse = if a && !true then -2 else -1 := if_pos ⟨g1, by omega⟩
        rw [this]; cases a <;> rfl
      have q2 : pl2 a true t (-1) = -1 := by cases a <;> rfl
      rw [q1, q2]
      cases a
      · rw [ptp_off (by decide)]
        exact ⟨Or.inr ⟨rfl, Or.inl ⟨rfl, Or.inl rfl⟩⟩, 0, false, rfl, fun q => by omega, fun _ => rfl⟩
      · rw [ptp_hold (by decide) (by decide)]
        exact ⟨Or.inr ⟨rfl, Or.inl ⟨rfl, Or.inr ⟨rfl, rfl⟩⟩⟩, _, false, rfl, fun q => by omega, fun _ => rfl⟩
/-- The clock, step by step. -/
def tms (ss : List Nat) : Nat → Nat
  | 0 => 0
  | j + 1 => tms ss j + ss.getD j 0 % 16
theorem tms_le (ss : List Nat) (j : Nat) : tms ss j ≤ 15 * j := by
  induction j with
  | zero => exact Nat.le_refl _
  | succ j ih =>
    show tms ss j + ss.getD j 0 % 16 ≤ _
    have := Nat.mod_lt (ss.getD j 0) (show 16 > 0 by decide)
    omega
theorem tms_up (ss : List Nat) (j : Nat) : tms ss j ≤ tms ss (j + 1) := Nat.le_add_right _ _
def nws (ss : List Nat) (j : Nat) : List Int := (List.range j).map fun i => ((tms ss (i + 1) : Nat) : Int)
theorem nws_len (ss : List Nat) (j : Nat) : (nws ss j).length = j := by simp [nws]
theorem nws_next (ss : List Nat) (j : Nat) : nws ss (j + 1) = nws ss j ++ [((tms ss (j + 1) : Nat) : Int)] := by simp [nws, List.range_succ]
theorem nws_at (ss : List Nat) (j i : Nat) (h : i < j) : (nws ss j).getD i 0 = ((tms ss (i + 1) : Nat) : Int) := by simp [nws, h]
theorem rem16 (x : Nat) : (x : Int).tmod 16 = ((x % 16 : Nat) : Int) := by rw [Int.tmod_eq_emod_of_nonneg (by omega)]; omega
theorem rem40 (x : Nat) : (x : Int).tmod 40 = ((x % 40 : Nat) : Int) := by rw [Int.tmod_eq_emod_of_nonneg (by omega)]; omega
theorem sl_bool {w : World} {ao : Option Addr} {n c k : Nat} {l : List Bool} (h : Sl w (.slice ao n c) (bls l)) (hk : k < l.length) : ∃ b off, ao = some ⟨b, off, none⟩ ∧ w.cell? ⟨b, off + k, none⟩ = some (.bool (l.getD k false)) := by
  rcases h with ⟨h0, _⟩ | ⟨b, off, cap, e, _, hl⟩
  · have := congrArg List.length h0
    rw [bls_len] at this
    simp at this
    simp [this] at hk
  · simp only [Value.slice.injEq] at e
    exact ⟨b, off, e.1, hl k _ (bls_at l k hk)⟩
theorem sl_u8 {w : World} {ao : Option Addr} {n c k : Nat} {l : List Nat} (h : Sl w (.slice ao n c) (u8s l)) (hk : k < l.length) : ∃ b off, ao = some ⟨b, off, none⟩ ∧ w.cell? ⟨b, off + k, none⟩ = some (.int .u8 (l.getD k 0 : Nat)) := by
  rcases h with ⟨h0, _⟩ | ⟨b, off, cap, e, _, hl⟩
  · have := congrArg List.length h0
    rw [u8s_len] at this
    simp at this
    simp [this] at hk
  · simp only [Value.slice.injEq] at e
    exact ⟨b, off, e.1, hl k _ (u8s_at l k hk)⟩
set_option maxRecDepth 100000 in
set_option maxHeartbeats 8000000 in
theorem delays_w {w : World} {oa sa : Option Addr} {on sn oc sc : Nat} {ob : List Bool} {ss : List Nat} (p0 : Nat) (hp0 : p0 < 256) (hO : Sl w (.slice oa on oc) (bls ob)) (hon : on = ob.length) (ho9 : on ≤ 9223372036854775807) (hS : Sl w (.slice sa sn sc) (u8s ss)) (hsn : sn = ss.length) (hs9 : sn ≤ 9223372036854775807) (hss : ∀ x ∈ ss, x < 256) :
    Calls Try.prog 5 #[.slice oa on oc, .slice sa sn sc, .int .u8 (p0 : Int)] w fun e w' => e = .returned (.bool true) ∧ Below w.heap.size w w' := by
  have hpb : p0 < 256 := hp0
  have O := hid_as hO
  have SS := hid_as hS
  have HON := hid_as hon
  have HSN := hid_as hsn
  have HSS := hid_as hss
  have KN := hid_as (known_c w)
  clear hO hS hon hsn hss
  by_cases g1 : on ≤ 80
  case neg =>
    have g1' : (80 : Int) < on := by omega
    go_enter Try.func5, Try.ntmps5
    go_wp2_with fail
    refine KN.out.mono ?_
    rintro e w1 ⟨rfl, b1⟩
    have B := hid_as b1
    go_wp2
    go_ret
    exact ⟨rfl, B.out⟩
  have g1' : ¬ (80 : Int) < on := by omega
  by_cases g2 : sn ≤ 80
  case neg =>
    have g2' : (80 : Int) < sn := by omega
    go_enter Try.func5, Try.ntmps5
    go_wp2_with fail
    refine KN.out.mono ?_
    rintro e w1 ⟨rfl, b1⟩
    have B := hid_as b1
    go_wp2
    go_ret
    exact ⟨rfl, B.out⟩
  have g2' : ¬ (80 : Int) < sn := by omega
  obtain ⟨p, hp⟩ : ∃ p, p = p0 % 40 := ⟨_, rfl⟩
  have hp40 : p ≤ 39 := by omega
  have rp := rem40 p0
  have rp' : (p0 : Int) % 40 = ((p0 % 40 : Nat) : Int) := by omega
  rw [← hp] at rp rp'
  clear hp
  go_enter Try.func5, Try.ntmps5
  go_wp2_with fail
  refine KN.out.mono ?_
  rintro e w1 ⟨rfl, b1⟩
  have B1 := hid_as b1
  have OO := hid_as (O.out.below b1)
  have SO := hid_as (SS.out.below b1)
  clear KN b1 O SS
  obtain ⟨L, hL⟩ : ∃ L : Nat → List Int, L = fun i => [b01 (ob.getD i false), (p : Int)] := ⟨_, rfl⟩
  have HL : Hid (∀ i, L i = [b01 (ob.getD i false), (p : Int)]) := fun i => by rw [hL]
  clear hL
  obtain ⟨n, hn⟩ : ∃ n, n = min on sn := ⟨_, rfl⟩
  have G0 := hid_as (Gw.start w1 L)
  go_upto_block 0 with fail
  go_cut [7, 8] from 35 to 70 (fun l a wx => Gw w1.heap.size wx l a (.slice none 0 0) n L (nws ss n) [] ∧ Below w1.heap.size w1 wx)
  case first =>
    go_wp2
    go_loopw [7, 8, 9, 10] (fun l a t i wr => ∃ j : Nat, j ≤ n ∧ i = .int .i64 j ∧ t = .int .i64 ((tms ss j : Nat) : Int) ∧ Gw w1.heap.size wr l a (.slice none 0 0) j L (nws ss j) [] ∧ Below w1.heap.size w1 wr) (fun _ _ _ i _ => n - (intOf i).toNat)
    case atStart => exact ⟨0, by omega, rfl, rfl, G0.out, Below.refl _ _⟩
    case round =>
    obtain ⟨j, hj, rfl, rfl, hG, hB⟩ := hrel
    have G := hid_as hG
    have BB := hid_as hB
    obtain ⟨la, lc, rfl⟩ := hG.rows.shape
    obtain ⟨aa, ac, rfl⟩ := own_shape hG.ra
    rw [nws_len ss] at G ⊢
    clear hG hB G0
    by_cases hjn : j < n
    · have h1 : j < on := by omega
      have h2 : j < sn := by omega
      have h1' : (j : Int) < (on : Int) := by omega
      have h2' : (j : Int) < (sn : Int) := by omega
      obtain ⟨f, hf⟩ : ∃ f, f = ob.getD j false := ⟨_, rfl⟩
      obtain ⟨s, hs⟩ : ∃ s, s = ss.getD j 0 := ⟨_, rfl⟩
      have HLj : Hid (L j = [b01 f, (p : Int)]) := by rw [hf]; exact HL.out j
      have hs5 : s < 256 := by
        rw [hs, List.getD_eq_getElem?_getD, List.getElem?_eq_getElem (by rw [← HSN.out]; exact h2)]
        exact HSS.out _ (List.getElem_mem _)
      have HAn := hid_as (nws_next ss j)
      have HAl := hid_as (nws_len ss j)
      have tl := tms_le ss j
      obtain ⟨u, hu⟩ : ∃ u, u = s % 16 := ⟨_, rfl⟩
      have hu16 : u ≤ 15 := by omega
      have HXn : Hid (((tms ss (j + 1) : Nat) : Int) = (tms ss j : Int) + (u : Int)) := by
        have : tms ss (j + 1) = tms ss j + u := by rw [hu, hs]; rfl
        rw [this]; exact Int.natCast_add _ _
      obtain ⟨og, of, rfl, co⟩ := sl_bool (OO.out.below BB.out) (k := j) (by rw [← HON.out]; exact h1)
      obtain ⟨sg, sf, rfl, cs⟩ := sl_u8 (SO.out.below BB.out) (k := j) (by rw [← HSN.out]; exact h2)
      rw [← hf] at co
      rw [← hs] at cs
      have rs := rem16 s
      have rs' : (s : Int) % 16 = ((s % 16 : Nat) : Int) := by omega
      rw [← hu] at rs rs'
      clear hf hs hu
      rw [HXn.out] at HAn
      generalize tms ss j = X at *
      generalize nws ss j = A at *
      go_upto_if 58 with fail
      go_cut [11] from 55 to 58 (fun v wx => v = .int .i64 (b01 f) ∧ wx = wr)
      case first =>
        cases f
        · go_wp2
          go_meet
          exact ⟨rfl, rfl⟩
        · go_wp2
          go_meet
          exact ⟨rfl, rfl⟩
      case rest =>
      obtain ⟨rfl, hw⟩ := hcut
      subst hw
      rename World => V2
      obtain ⟨X2, hX2⟩ : ∃ X2, X2 = (X : Int) + (u : Int) := ⟨_, rfl⟩
      rw [← hX2] at HAn HXn ⊢
      have R1 : Row64 (V2.alloc (.cells #[.int .i64 (b01 f), .int .i64 (p : Int)] 2)) V2.heap.size (L j) := by rw [HLj.out]; exact row_new V2 [b01 f, (p : Int)]
      have K1 := below_new (Below.refl _ V2) (.cells #[.int .i64 (b01 f), .int .i64 (p : Int)] 2)
      obtain ⟨l', V3, e1, G3, k3⟩ := (G.out.below K1).pushL (by omega) R1 G.out.new.1 G.out.new.2
      obtain ⟨a', V4, e2, G4, k4⟩ := G3.pushA X2 (by rw [HAl.out]; omega)
      rw [World.size_alloc, HLj.out] at e1
      simp only [List.length_cons, List.length_nil, Nat.zero_add, Nat.reduceAdd] at e1
      have E1 := hid_as e1
      have E2 := hid_as e2
      have NX := hid_as G4
      have BX : Hid (Below w1.heap.size w1 V4) := (BB.out.trans ((K1.mono BB.out.size).trans (k3.trans k4)))
      clear R1 K1 e1 e2 G3 G4 k3 k4 G BB HLj hX2 co cs
      go_wp2_with (first | (at_builtin; refine Lib.wpList_append_run ((V2.alloc (.cells #[.int .i64 (b01 f), .int .i64 (p : Int)] 2)).alloc (.cells #[.slice (some ⟨V2.heap.size, 0, none⟩) 2 2] 22)) rfl _ _ _ _ rfl _ _ rfl rfl _ _ E1.out ?_) | (at_builtin; refine Lib.wpList_append_run (V3.alloc (.cells #[.int .i64 X2] 2)) rfl _ _ _ _ rfl _ _ rfl rfl _ _ E2.out ?_))
      go_roundw
      case rel => exact ⟨j + 1, by omega, by go_num, by rw [HXn.out], by rw [HAn.out]; exact NX.out, BX.out⟩
      case measure => simp [intOf]; omega
    · obtain rfl : n = j := by omega
      by_cases hx : n < on
      · have hx1 : (n : Int) < (on : Int) := by omega
        have hx2 : ¬ (n : Int) < (sn : Int) := by omega
        clear hn
        go_wp2
        go_meet
        exact ⟨G.out, BB.out⟩
      · have hx1 : ¬ (n : Int) < (on : Int) := by omega
        clear hn
        go_wp2
        go_meet
        exact ⟨G.out, BB.out⟩
  case rest =>
  obtain ⟨hG, hB⟩ := hcut
  obtain ⟨la, lc, rfl⟩ := hG.rows.shape
  obtain ⟨aa, ac, rfl⟩ := own_shape hG.ra
  rw [nws_len ss] at hG ⊢
  have LR := hid_as hG.rows
  have LA := hid_as (own_sl hG.ra)
  have BW := hid_as (below_and B1.out hB)
  have hn80 : n ≤ 80 := by omega
  clear hG hB G0 OO SO B1 hn
  rename World => V0
  have HLl : Hid (∀ i, (L i).length ≤ 100) := fun i => by rw [HL.out]; exact (show 2 ≤ 100 by decide)
  have LC := hid_as (fun k (hk : k < 10) U (b : Below V0.heap.size V0 U) => lives_c k hk (LR.out.below b) (LA.out.below b) (nws_len ss n).symm (by omega) HLl.out)
  have LC0 := hid_as (LC.out 0 (by decide) V0 (Below.refl _ _))
  unfold nm nml tx at LC0
  go_wp2_with fail
  refine LC0.out.mono ?_
  rintro e w2 ⟨q0, rfl, r0, b2⟩
  obtain ⟨a0, c0, rfl⟩ := r0.shape
  have R0 := hid_as r0
  have B2 := hid_as b2
  clear LC0 r0 b2
  have LC1 := hid_as (LC.out 1 (by decide) w2 B2.out)
  unfold nm nml tx at LC1
  go_wp2_with fail
  refine LC1.out.mono ?_
  rintro e w3 ⟨q1, rfl, r1, b3⟩
  obtain ⟨a1, c1, rfl⟩ := r1.shape
  have R1 := hid_as r1
  have R0' := hid_as (R0.out.below b3)
  have B3 := hid_as (below_and B2.out b3)
  clear LC1 r1 b3 R0 B2
  have LC2 := hid_as (LC.out 2 (by decide) w3 B3.out)
  unfold nm nml tx at LC2
  go_wp2_with fail
  refine LC2.out.mono ?_
  rintro e w4 ⟨q2, rfl, r2, b4⟩
  obtain ⟨a2, c2, rfl⟩ := r2.shape
  have R2 := hid_as r2
  have R1' := hid_as (R1.out.below b4)
  have R0 := hid_as (R0'.out.below b4)
  have B4 := hid_as (below_and B3.out b4)
  have BF := hid_as (below_and BW.out B4.out)
  have LR4 := hid_as (LR.out.below B4.out)
  have LA4 := hid_as (LA.out.below B4.out)
  clear LC2 r2 b4 R1 R0' B3 LC LR LA BW
  obtain ⟨S0, hS0⟩ : ∃ S, S = lif 0 L (fun j => (nws ss n).getD j 0) := ⟨_, rfl⟩
  obtain ⟨S1, hS1⟩ : ∃ S, S = lif 1 L (fun j => (nws ss n).getD j 0) := ⟨_, rfl⟩
  obtain ⟨S2, hS2⟩ : ∃ S, S = lif 2 L (fun j => (nws ss n).getD j 0) := ⟨_, rfl⟩
  rw [← hS0] at R0
  rw [← hS1] at R1'
  rw [← hS2] at R2
  have N0 : Hid (∀ j, j < n → S0 (j + 1) = stp 0 [b01 (ob.getD j false), (p : Int)] (S0 j).o (S0 j).k0 (S0 j).k1 (S0 j).k2 ((tms ss (j + 1) : Nat) : Int)) := fun j hj => by rw [hS0, ← HL.out j, ← nws_at ss n j hj]; rfl
  have N1 : Hid (∀ j, j < n → S1 (j + 1) = stp 1 [b01 (ob.getD j false), (p : Int)] (S1 j).o (S1 j).k0 (S1 j).k1 (S1 j).k2 ((tms ss (j + 1) : Nat) : Int)) := fun j hj => by rw [hS1, ← HL.out j, ← nws_at ss n j hj]; rfl
  have N2 : Hid (∀ j, j < n → S2 (j + 1) = stp 2 [b01 (ob.getD j false), (p : Int)] (S2 j).o (S2 j).k0 (S2 j).k1 (S2 j).k2 ((tms ss (j + 1) : Nat) : Int)) := fun j hj => by rw [hS2, ← HL.out j, ← nws_at ss n j hj]; rfl
  have Z0 : Hid (D0 false (p : Int) ((tms ss 0 : Nat) : Int) (-1) (S0 0)) := by rw [hS0]; exact ⟨rfl, fun q => by cases q⟩
  have Z1 : Hid (D1 false (p : Int) ((tms ss 0 : Nat) : Int) (-1) (S1 0)) := by rw [hS1]; exact ⟨rfl, by omega, by omega, (fun q => by cases q), fun _ => Or.inl ⟨rfl, rfl⟩⟩
  have Z2 : Hid (D2 false (p : Int) ((tms ss 0 : Nat) : Int) (-1) (S2 0)) := by rw [hS2]; exact ⟨rfl, Or.inl ⟨rfl, Or.inl rfl⟩⟩
  clear hS0 hS1 hS2
  go_wp2
  go_loopw [19, 20, 21, 22, 23] (fun sv gv pv wv i wr => ∃ (j : Nat) (sn gn pl : Int) (was : Bool), j ≤ n ∧ i = .int .i64 j ∧ sv = .int .i64 sn ∧ gv = .int .i64 gn ∧ pv = .int .i64 pl ∧ wv = .bool was ∧ (-1 ≤ sn ∧ sn ≤ ((tms ss j : Nat) : Int)) ∧ D0 was (p : Int) ((tms ss j : Nat) : Int) sn (S0 j) ∧ D1 was (p : Int) ((tms ss j : Nat) : Int) gn (S1 j) ∧ D2 was (p : Int) ((tms ss j : Nat) : Int) pl (S2 j) ∧ Same w4 wr) (fun _ _ _ _ i _ => n - (intOf i).toNat)
  case atStart => exact ⟨0, -1, -1, -1, false, by omega, rfl, rfl, rfl, rfl, rfl, ⟨by omega, by omega⟩, Z0.out, Z1.out, Z2.out, Same.refl _⟩
  case round =>
  obtain ⟨j, sn', gn, pl, was, hj, rfl, rfl, rfl, rfl, rfl, hsb, hD0, hD1, hD2, hSm⟩ := hrel
  by_cases hjn : j < n
  · have hjn' : (j : Int) < (n : Int) := by omega
    have tl := tms_le ss (j + 1)
    have tu := tms_up ss j
    obtain ⟨f, hf⟩ : ∃ f, f = ob.getD j false := ⟨_, rfl⟩
    have M0 := N0.out j hjn
    have M1 := N1.out j hjn
    have M2 := N2.out j hjn
    rw [← hf] at M0 M1 M2
    obtain ⟨T, hT⟩ : ∃ T : Int, T = ((tms ss (j + 1) : Nat) : Int) := ⟨_, rfl⟩
    obtain ⟨T0, hT0⟩ : ∃ T0 : Int, T0 = ((tms ss j : Nat) : Int) := ⟨_, rfl⟩
    rw [← hT] at M0 M1 M2
    rw [← hT0] at hD0 hD1 hD2 hsb
    have hT9 : 0 ≤ T0 ∧ T0 ≤ T ∧ T ≤ 100000 := by omega
    have hpp : 0 ≤ (p : Int) ∧ (p : Int) ≤ 39 := by omega
    obtain ⟨E0, x0, o0⟩ := d0_step (a := f) hD0 hpp hT9
    obtain ⟨E1, x1, o1⟩ := d1_step (a := f) hD1 hpp hT9
    obtain ⟨E2, x2, y2, o2, y2a, y2b⟩ := d2_step (a := f) hD2 hpp hT9
    rw [← M0] at E0 o0
    rw [← M1] at E1 o1
    rw [← M2] at E2 o2
    have hgn : -1 ≤ gn ∧ gn ≤ T0 := ⟨hD1.2.1, hD1.2.2.1⟩
    have hpl : -1 ≤ pl ∧ pl ≤ T0 := by rcases hD2.2 with h | h <;> omega
    have HE0 := hid_as E0
    have HE1 := hid_as E1
    have HE2 := hid_as E2
    clear M0 M1 M2 hD0 hD1 hD2 E0 E1 E2
    have SM := hid_as hSm
    obtain ⟨lg, lb, rfl, cl, rl⟩ := (LR4.out.below hSm.below).at hjn
    rw [HL.out j, ← hf] at cl rl
    have cl0 := cell_row (k := 0) rl rfl
    obtain ⟨ag, af, rfl, ca⟩ := sl64_at (LA4.out.below hSm.below) (k := j) (by rw [nws_len]; exact hjn)
    rw [nws_at ss n j hjn, ← hT] at ca
    obtain ⟨g0, b0, rfl, d0, e0⟩ := (R0.out.below hSm.below).at hjn
    obtain ⟨g1, b1, rfl, d1, e1⟩ := (R1'.out.below hSm.below).at hjn
    obtain ⟨g2, b2, rfl, d2, e2⟩ := (R2.out.below hSm.below).at hjn
    simp only [o0] at d0 e0
    simp only [o1] at d1 e1
    simp only [o2] at d2 e2
    have z0 := cell_row (k := 0) e0 rfl
    have z1 := cell_row (k := 0) e1 rfl
    have z2 := cell_row (k := 0) e2 rfl
    simp only [List.length_cons, List.length_nil, Nat.zero_add, Nat.reduceAdd] at cl d0 d1 d2
    clear rl e0 e1 e2 hSm o0 o1 o2
    have HT := hid_as hT
    clear hT hT0 hf
    have hbf : (b01 f == 1) = f := by cases f <;> rfl
    obtain ⟨s2, hs2⟩ : ∃ x, x = snc f was T sn' := ⟨_, rfl⟩
    obtain ⟨gg, hgg⟩ : ∃ x, x = gne f was T gn := ⟨_, rfl⟩
    obtain ⟨bq, hbq⟩ : ∃ x, x = (decide (0 ≤ pl) && decide ((p : Int) ≤ T - pl)) := ⟨_, rfl⟩
    obtain ⟨q1, hq1⟩ : ∃ x, x = pl1 f was p T pl := ⟨_, rfl⟩
    obtain ⟨bw, hbw⟩ : ∃ x, x = ((q1 == -1) && (f && !was)) := ⟨_, rfl⟩
    obtain ⟨q2, hq2⟩ : ∃ x, x = pl2 f was T q1 := ⟨_, rfl⟩
    rw [← hq1, ← hq2] at HE2 y2a y2b
    rw [← hs2] at HE0 z0
    rw [← hgg] at HE1 z1
    have HS2 := hid_as hs2
    have HGG := hid_as hgg
    have HBQ := hid_as hbq
    have HQ1 : Hid (q1 = if bq then (if f && !was then -2 else -1) else pl) := by
      show _ = _
      rw [hq1, hbq]
      unfold pl1
      by_cases h1 : 0 ≤ pl <;> by_cases h2 : (p : Int) ≤ T - pl <;> simp [h1, h2]
    have HBW := hid_as hbw
    have HQ2 : Hid (q2 = if bw then T else q1) := by
      show _ = _
      rw [hq2, hbw]
      unfold pl2
      by_cases h1 : q1 = -1 <;> simp [h1]
    have bs2 : -1 ≤ s2 ∧ s2 ≤ T := by rw [hs2]; unfold snc; split <;> omega
    have bgg : -1 ≤ gg ∧ gg ≤ T := by rw [hgg]; unfold gne; split <;> omega
    have bq1 : -2 ≤ q1 ∧ q1 ≤ T := by rw [hq1]; unfold pl1; repeat' split
                                      all_goals omega
    have bq2 : -2 ≤ q2 ∧ q2 ≤ T := by rw [hq2]; unfold pl2; split <;> omega
    clear hs2 hgg hbq hq1 hbw hq2
    have k0 : (b01 (f && decide ((p : Int) ≤ T - s2)) == 1) = (f && decide ((p : Int) ≤ T - s2)) := by cases (f && decide ((p : Int) ≤ T - s2)) <;> rfl
    have k1 : (b01 (f || (decide (0 ≤ gg) && decide (T - gg < (p : Int)))) == 1) = (f || (decide (0 ≤ gg) && decide (T - gg < (p : Int)))) := by cases (f || (decide (0 ≤ gg) && decide (T - gg < (p : Int)))) <;> rfl
    generalize b01 (f && decide ((p : Int) ≤ T - s2)) = v0 at *
    generalize b01 (f || (decide (0 ≤ gg) && decide (T - gg < (p : Int)))) = v1 at *
    generalize b01 f = fv at *
    have K0 := hid_as k0
    have K1 := hid_as k1
    have Y2A := hid_as y2a
    have Y2B := hid_as y2b
    clear k0 k1 y2a y2b
    go_upto_region 28 with fail
    go_cut [119] from 115 to 118 (fun v wx => v = .bool (f && !was) ∧ wx = wr)
    case first =>
      cases f <;> cases was
      all_goals
        go_wp2
        go_meet
        exact ⟨rfl, rfl⟩
    case rest =>
    obtain ⟨rfl, hw⟩ := hcut
    subst hw
    rename World => V1
    go_upto_if 119 with fail
    go_cut [19] from 115 to 123 (fun v wx => v = .int .i64 (s2) ∧ wx = V1)
    case first =>
      cases f <;> cases was
      all_goals
        go_wp2
        go_meet
        exact ⟨int_is (by rw [HS2.out]; rfl), rfl⟩
    case rest =>
    obtain ⟨rfl, hw⟩ := hcut
    subst hw
    rename World => V2
    go_upto_region 30 with fail
    go_cut [128] from 124 to 127 (fun v wx => v = .bool (!f && was) ∧ wx = V2)
    case first =>
      cases f <;> cases was
      all_goals
        go_wp2
        go_meet
        exact ⟨rfl, rfl⟩
    case rest =>
    obtain ⟨rfl, hw⟩ := hcut
    subst hw
    rename World => V3
    go_upto_if 128 with fail
    go_cut [20] from 124 to 132 (fun v wx => v = .int .i64 (gg) ∧ wx = V3)
    case first =>
      cases f <;> cases was
      all_goals
        go_wp2
        go_meet
        exact ⟨int_is (by rw [HGG.out]; rfl), rfl⟩
    case rest =>
    obtain ⟨rfl, hw⟩ := hcut
    subst hw
    rename World => V4
    go_upto_region 32 with fail
    go_cut [144] from 133 to 143 (fun v wx => v = .bool (bq) ∧ wx = V4)
    case first =>
      by_cases h0 : 0 ≤ pl
      · by_cases h1 : (p : Int) ≤ T - pl
        · have H0 := hid_as (decide_eq_true h0)
          have H1 := hid_as (decide_eq_true h1)
          go_wp2
          go_meet
          exact ⟨by rw [HBQ.out, H0.out]; first | rfl | (rw [H1.out]; rfl), rfl⟩
        · have H0 := hid_as (decide_eq_true h0)
          have H1 := hid_as (decide_eq_false h1)
          go_wp2
          go_meet
          exact ⟨by rw [HBQ.out, H0.out]; first | rfl | (rw [H1.out]; rfl), rfl⟩
      · have H0 := hid_as (decide_eq_false h0)
        go_wp2
        go_meet
        exact ⟨by rw [HBQ.out, H0.out]; rfl, rfl⟩
    case rest =>
    obtain ⟨rfl, hw⟩ := hcut
    subst hw
    rename World => V5
    go_upto_if 144 with fail
    go_cut [21] from 133 to 149 (fun v wx => v = .int .i64 (q1) ∧ wx = V5)
    case first =>
      cases bq <;> cases f <;> cases was
      all_goals
        go_wp2
        go_meet
        exact ⟨int_is (by rw [HQ1.out]; rfl), rfl⟩
    case rest =>
    obtain ⟨rfl, hw⟩ := hcut
    subst hw
    rename World => V6
    go_upto_region 36 with fail
    go_cut [158] from 150 to 157 (fun v wx => v = .bool (bw) ∧ wx = V6)
    case first =>
      cases he : (q1 == -1)
      · have HE := hid_as he
        go_wp2
        go_meet
        exact ⟨by rw [HBW.out, HE.out]; rfl, rfl⟩
      · have HE := hid_as he
        cases f <;> cases was
        all_goals
          go_wp2
          go_meet
          exact ⟨by rw [HBW.out, HE.out]; rfl, rfl⟩
    case rest =>
    obtain ⟨rfl, hw⟩ := hcut
    subst hw
    rename World => V7
    go_upto_if 158 with fail
    go_cut [21] from 150 to 162 (fun v wx => v = .int .i64 (q2) ∧ wx = V7)
    case first =>
      cases bw
      all_goals
        go_wp2
        go_meet
        exact ⟨int_is (by rw [HQ2.out]; rfl), rfl⟩
    case rest =>
    obtain ⟨rfl, hw⟩ := hcut
    subst hw
    rename World => V8
    have w1' : IntKind.i64.wrap (T - s2) = T - s2 := by rw [IntKind.wrap_i64]; omega
    have w2' : IntKind.i64.wrap (T - gg) = T - gg := by rw [IntKind.wrap_i64]; omega
    have CZ := hid_as (fun U (b : Same V8 U) => (⟨(b.below.cell (p := ⟨ag, af + j, none⟩) (lt_of_cell ca)).trans ca, (b.below.cell (p := ⟨g2, j, none⟩) (lt_of_cell d2)).trans d2, (b.below.cell (p := ⟨b2, 0, none⟩) (lt_of_cell z2)).trans z2⟩ : _ ∧ _ ∧ _))
    go_upto_region 38 with fail
    go_cut [206] from 163 to 205 (fun v wx => v = .bool false ∧ Same V8 wx)
    case first =>
      clear CZ d2 z2 cl cl0
      cases f
      · have h0 : (v0 == 1) = false := by rw [K0.out]; rfl
        by_cases hg : 0 ≤ gg
        · have hg' : decide (0 ≤ gg) = true := decide_eq_true hg
          have h1 : (v1 == 1) = decide (T - gg < (p : Int)) := by rw [K1.out, hg']; rfl
          go_quiet (fail)
          go_wp2
          go_meet
          exact ⟨by simp, Same.drewN _ _⟩
        · have hg' : decide (0 ≤ gg) = false := decide_eq_false hg
          have h1 : (v1 == 1) = false := by rw [K1.out, hg']; rfl
          go_quiet (fail)
          go_wp2
          go_meet
          exact ⟨by simp, Same.drewN _ _⟩
      · have h0 : (v0 == 1) = decide ((p : Int) ≤ T - s2) := by rw [K0.out]; rfl
        have h1 : (v1 == 1) = true := by rw [K1.out]; rfl
        go_quiet (fail)
        go_wp2
        go_meet
        exact ⟨by simp, Same.drewN _ _⟩
    case rest =>
    obtain ⟨rfl, hSM⟩ := hcut
    obtain ⟨ca', d2', z2'⟩ := CZ.out _ hSM
    have SM2 := hid_as (SM.out.trans hSM)
    clear CZ ca d0 d1 d2 z0 z1 z2 cl cl0 hSM SM
    rename World => V9
    go_upto_region 40 with fail
    go_cut [240] from 207 to 239 (fun v wx => v = .bool false ∧ wx = V9)
    case first =>
      by_cases h0 : 0 ≤ q2
      · have hq : (q2 == -1) = false := by rw [beq_eq_false_iff_ne]; omega
        by_cases h1 : T - q2 < (p : Int)
        · have hy : y2 = true := Y2A.out h0 h1
          subst hy
          rw [show b01 true = 1 from rfl] at z2'
          have HD := hid_as (decide_eq_true h1)
          go_wp2
          go_meet
          exact ⟨by first | rfl | (simp; done) | simp [HD.out], rfl⟩
        · have HD := hid_as (decide_eq_false h1)
          go_wp2
          go_meet
          exact ⟨by first | rfl | (simp; done) | simp [HD.out], rfl⟩
      · by_cases hm : q2 = -1
        · have hy : y2 = false := Y2B.out hm
          subst hy
          subst hm
          rw [show b01 false = 0 from rfl] at z2'
          go_wp2
          go_meet
          exact ⟨by first | rfl | (simp; done), rfl⟩
        · have hq : (q2 == -1) = false := by rw [beq_eq_false_iff_ne]; exact hm
          have HD := hid_as (decide_eq_false h0)
          go_wp2
          go_meet
          exact ⟨by first | rfl | (simp; done) | simp [HD.out], rfl⟩
    case rest =>
    obtain ⟨rfl, hw⟩ := hcut
    subst hw
    clear ca' d2' z2' Y2A Y2B
    by_cases hm : q2 = -2
    · have hm' : (q2 == -2) = true := by rw [beq_iff_eq]; exact hm
      have FIN := hid_as (below_and BF.out SM2.out.below)
      clear hm
      go_wp2
      go_ret
      exact ⟨rfl, FIN.out⟩
    · have hm' : (q2 == -2) = false := by rw [beq_eq_false_iff_ne]; exact hm
      have HD2 := hid_as (HE2.out.resolve_left hm)
      go_wp2
      go_roundw
      case rel => exact ⟨j + 1, s2, gg, q2, f, by omega, by go_num, rfl, rfl, rfl, rfl, by rw [← HT.out]; exact bs2, by rw [← HT.out]; exact HE0.out, by rw [← HT.out]; exact HE1.out, by rw [← HT.out]; exact HD2.out, SM2.out⟩
      case measure => simp [intOf]; omega
  · have FIN := hid_as (below_and BF.out hSm.below)
    clear hSm
    go_wp2
    go_ret
    exact ⟨rfl, FIN.out⟩
end Go.Proofs.Ytbpnaenineinmaa
