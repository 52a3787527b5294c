/- The law of steps (stage 17). -/
import Derived.Test.YtbpnaenineinmaaRN
namespace Go.Proofs.Ytbpnaenineinmaa
open Go.RowKit
open Fb
set_option maxRecDepth 100000 in
set_option maxHeartbeats 4000000 in
theorem steps_w {w : World} {ia oa : Option Addr} {n m ic oc : Nat} {l q : List Int} (s : ByteArray) (wh k0 k1 k2 t : Int) (hi : Sl w (.slice ia n ic) (i64s l)) (hn : n = l.length) (hn9 : n ≤ 9223372036854775807) (ho : Sl w (.slice oa m oc) (i64s q)) (hm : m = q.length) (hm9 : m ≤ 9223372036854775807) :
    Calls Try.prog 3 #[.string s, .int .i64 wh, .slice ia n ic, .agg #[.int .i64 k0, .int .i64 k1, .int .i64 k2], .slice oa m oc, .int .i64 t] w fun e w' => e = .returned (.bool true) ∧ Below w.heap.size w w' := by
  have I := hid_as hi
  have O := hid_as ho
  have HN := hid_as hn
  have HM := hid_as hm
  clear hi ho hn hm
  have KA : Hid (Below w.heap.size w (w.alloc (.cells #[.int .i64 k0, .int .i64 k1, .int .i64 k2] 23))) := below_new (Below.refl _ _) _
  have KH : Hid (Kr (w.alloc (.cells #[.int .i64 k0, .int .i64 k1, .int .i64 k2] 23)) w.heap.size k0 k1 k2) := heap_alloc_new w _
  by_cases g0 : s.size ≤ 100
  case neg =>
    have g0' : (100 : Int) < s.size := by omega
    clear g0
    go_enter Try.func3, Try.ntmps3
    go_upto_region 1 with fail
    generalize (w.alloc (.cells #[.int .i64 k0, .int .i64 k1, .int .i64 k2] 23)) = W0 at *
    have KN := hid_as (known_c W0)
    go_wp2_with fail
    refine KN.out.mono ?_
    rintro e w1 ⟨rfl, b1⟩
    have B := hid_as (below_and KA.out b1)
    go_wp2
    go_ret
    exact ⟨rfl, B.out⟩
  have g0' : ¬ (100 : Int) < s.size := by omega
  by_cases g1 : n ≤ 20
  case neg =>
    have g1' : (20 : Int) < n := by omega
    go_enter Try.func3, Try.ntmps3
    go_upto_region 1 with fail
    generalize (w.alloc (.cells #[.int .i64 k0, .int .i64 k1, .int .i64 k2] 23)) = W0 at *
    have KN := hid_as (known_c W0)
    go_wp2_with fail
    refine KN.out.mono ?_
    rintro e w1 ⟨rfl, b1⟩
    have B := hid_as (below_and KA.out b1)
    go_wp2
    go_ret
    exact ⟨rfl, B.out⟩
  have g1' : ¬ (20 : Int) < n := by omega
  by_cases g2 : m ≤ 20
  case neg =>
    have g2' : (20 : Int) < m := by omega
    go_enter Try.func3, Try.ntmps3
    go_upto_region 1 with fail
    generalize (w.alloc (.cells #[.int .i64 k0, .int .i64 k1, .int .i64 k2] 23)) = W0 at *
    have KN := hid_as (known_c W0)
    go_wp2_with fail
    refine KN.out.mono ?_
    rintro e w1 ⟨rfl, b1⟩
    have B := hid_as (below_and KA.out b1)
    go_wp2
    go_ret
    exact ⟨rfl, B.out⟩
  have g2' : ¬ (20 : Int) < m := by omega
  obtain ⟨kk, hkk⟩ : ∃ kk : Nat, wh % 10 = (kk : Int) := ⟨(wh % 10).toNat, by omega⟩
  have hk10 : kk < 10 := by omega
  have hk10' : (kk : Int) < 10 := by omega
  have PL := hid_as (fun U => place_10 wh U)
  rw [hkk] at PL
  clear hkk
  go_enter Try.func3, Try.ntmps3
  go_upto_region 1 with fail
  generalize (w.alloc (.cells #[.int .i64 k0, .int .i64 k1, .int .i64 k2] 23)) = W0 at *
  have KN := hid_as (known_c W0)
  go_wp2_with fail
  refine KN.out.mono ?_
  rintro e w1 ⟨rfl, b1⟩
  have KB := hid_as (KH.out.below b1)
  have BW := hid_as (below_and KA.out b1)
  have SI := hid_as (I.out.below BW.out)
  have SO := hid_as (O.out.below BW.out)
  clear KN b1 KA KH I O
  obtain ⟨kx, hkx⟩ : ∃ kx, kx = w.heap.size := ⟨_, rfl⟩
  rw [← hkx] at KB ⊢
  clear hkx
  go_wp2
  go_loopw [0, 13] (fun b i wr => ∃ (s : ByteArray) (j : Nat), j ≤ 2 ∧ i = .int .i64 j ∧ b = .string s ∧ Below w1.heap.size w1 wr) (fun _ i _ => 2 - (intOf i).toNat)
  case atStart => exact ⟨s, 0, by omega, rfl, rfl, Below.refl _ _⟩
  case round =>
  obtain ⟨S, j, hj, rfl, rfl, hB⟩ := hrel
  by_cases hj2 : j < 2
  · have hj2' : (j : Int) < 2 := by omega
    have KC := hid_as (KB.out.below hB)
    have TI := hid_as (SI.out.below hB)
    have TO := hid_as (SO.out.below hB)
    obtain ⟨va, w3, ha, oa3, b3, _, _⟩ := app_nums (w := wr) (base := wr.heap.size) (q := []) (World.ownsRow_nil ..) TI.out (by rw [← HN.out]; omega) (Nat.le_refl _)
    simp only [Nat.zero_add, List.nil_append, ← HN.out] at oa3
    have HA := hid_as ha
    have SA := hid_as (own_sl oa3)
    obtain ⟨aa, ca, rfl⟩ := own_shape oa3
    have B3 := hid_as (below_and hB b3)
    have UI := hid_as (TI.out.below b3)
    have UO := hid_as (TO.out.below b3)
    have KD := hid_as (KC.out.below b3)
    clear ha oa3 hB KC TI TO b3
    obtain ⟨r, hr3, hst⟩ := two_steps S l q k0 k1 k2 t
    have X := hid_as (hst w3 aa oa n m ca oc SA.out HN.out hn9 UO.out HM.out hm9).1
    have Y := hid_as (fun U (b : Below w3.heap.size w3 U) => (hst U ia oa n m ic oc (UI.out.below b) HN.out hn9 (UO.out.below b) HM.out hm9).2)
    clear hst
    obtain ⟨ro, x0, x1, x2⟩ := r
    simp only at hr3
    obtain ⟨p0, p1, p2, _⟩ := KD.out.cells
    go_upto_region 9 with (at_builtin; refine Lib.wpList_append_run wr rfl _ _ _ _ rfl _ _ rfl rfl _ _ HA.out ?_)
    clear HA
    go_wp2_with fail
    refine X.out.mono ?_
    rintro e w5 ⟨a5, n5, rfl, s5, e5, b5⟩
    simp only at s5 e5
    have S5 := hid_as (s5.below (below_new (Below.refl _ _) (.cells #[.int .i64 x0, .int .i64 x1, .int .i64 x2] 23)))
    have K5 : Hid (Kr (w5.alloc (.cells #[.int .i64 x0, .int .i64 x1, .int .i64 x2] 23)) w5.heap.size x0 x1 x2) := heap_alloc_new w5 _
    have B5 := hid_as (below_new b5 (.cells #[.int .i64 x0, .int .i64 x1, .int .i64 x2] 23))
    have E5 := hid_as e5
    clear X p0 p1 p2 s5 e5 b5
    go_upto_region 10 with fail
    generalize (w5.alloc (.cells #[.int .i64 x0, .int .i64 x1, .int .i64 x2] 23)) = w6 at *
    generalize w5.heap.size = ky at *
    obtain ⟨p0, p1, p2, _⟩ := (KD.out.below B5.out).cells
    have Z := hid_as (Y.out w6 B5.out)
    clear Y
    go_wp2_with fail
    refine Z.out.mono ?_
    rintro e w7 ⟨a7, n7, rfl, s7, e7, b7⟩
    simp only at s7 e7
    have S7 := hid_as (s7.below (below_new (Below.refl _ _) (.cells #[.int .i64 x0, .int .i64 x1, .int .i64 x2] 23)))
    have T7 := hid_as ((S5.out.below b7).below (below_new (Below.refl _ _) (.cells #[.int .i64 x0, .int .i64 x1, .int .i64 x2] 23)))
    have K6 := hid_as ((K5.out.below b7).below (below_new (Below.refl _ _) (.cells #[.int .i64 x0, .int .i64 x1, .int .i64 x2] 23)))
    have K7 : Hid (Kr (w7.alloc (.cells #[.int .i64 x0, .int .i64 x1, .int .i64 x2] 23)) w7.heap.size x0 x1 x2) := heap_alloc_new w7 _
    have B7 := hid_as (below_new (below_and B5.out b7) (.cells #[.int .i64 x0, .int .i64 x1, .int .i64 x2] 23))
    have E7 := hid_as e7
    clear Z p0 p1 p2 s7 e7 b7 S5 K5 B5
    go_upto_region 11 with fail
    generalize (w7.alloc (.cells #[.int .i64 x0, .int .i64 x1, .int .i64 x2] 23)) = w8 at *
    generalize w7.heap.size = kz at *
    have NA := hid_as (nums_c T7.out S7.out (by omega))
    have NB := hid_as (fun U (k : Same w8 U) => nums_c ((SA.out.below B7.out).same k) ((UI.out.below B7.out).same k) (by rw [← HN.out]; omega))
    simp only [decide_true] at NA NB
    have hE := eq3_yes x0 x1 x2
    have CA := hid_as (fun U (k : Same w8 U) => (⟨(K6.out.below k.below).cells, (K7.out.below k.below).cells⟩ : _ ∧ _))
    go_wp2_with fail
    refine NA.out.mono ?_
    rintro e w9 ⟨rfl, s9⟩
    obtain ⟨⟨p0, p1, p2, _⟩, t0, t1, t2, _⟩ := CA.out _ s9
    have S9 := hid_as s9
    clear NA s9 CA
    go_wp2_with fail
    refine (NB.out _ S9.out).mono ?_
    rintro e w10 ⟨rfl, s10⟩
    have BA := hid_as (below_and (below_and B3.out B7.out) (S9.out.trans s10).below)
    clear NB s10 S9 p0 p1 p2 t0 t1 t2 hE
    have NC := hid_as (names_c w10)
    go_wp2_with fail
    refine NC.out.mono ?_
    rintro e w11 ⟨rfl, b11, s11, c11⟩
    have BB := hid_as (below_and BA.out b11)
    have ck := c11 kk hk10
    clear NC b11 s11 c11
    go_wp2_with fail
    refine (PL.out _).mono ?_
    rintro e w' ⟨rfl, hw⟩
    subst w'
    go_wp2
    go_roundw
    case rel => exact ⟨nm kk, j + 1, by omega, by go_num, rfl, BB.out⟩
    case measure => simp [intOf]; omega
  · have FIN := hid_as (below_and BW.out hB)
    clear hB
    go_wp2
    go_ret
    exact ⟨rfl, FIN.out⟩
end Go.Proofs.Ytbpnaenineinmaa
