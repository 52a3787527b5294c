/- The walk of PduShort: its ways (exc). -/
import Derived.Test.YtehbbkdiekgpbabLShB
namespace Go.Proofs.Ytehbbkdiekgpbab
open Go.RowKit
open Pdu
set_option linter.unusedSimpArgs false in
set_option linter.unusedVariables false in
set_option maxRecDepth 100000 in
set_option maxHeartbeats 8000000 in
theorem short_exc30 (a0 a1 a2 a3 m c : Nat) (k : Int) (a4 : List Bool) (a5 : List Nat) (av aw : Value) (so : Option Addr) (w : World) (ha : IsRq w (.agg #[.int .u8 a0, .int .u16 a1, .int .u16 a2, .int .u16 a3, av, aw]) ⟨a0, a1, a2, a3, a4, a5⟩) (hl : a4.length ≤ 2500 ∧ a5.length ≤ 200) (fa : Rq.Fits ⟨a0, a1, a2, a3, a4, a5⟩) (hk : a0 = 5 ∨ a0 = 6 ∨ a0 = 15 ∨ a0 = 16 ∨ a0 = 22) (ms : List Nat) (h : Sl w (.slice so m c) (u8s ms)) (hM : Bytes ms) (hn : m = ms.length) (hm : m ≤ 50) (hB : decide (0 < m) = true)
    (HO : ∀ (W : World) (e : Ending) (W' : World), OpenEnd (reqBytes ⟨a0, a1, a2, a3, a4, a5⟩ ++ ms) W e W' → Below W.heap.size W W' ∧ ∃ q0 q1 q2 q3 bo nb bc ro nr rc, e = .returned (.tuple #[.agg #[.int .u8 q0, .int .u16 q1, .int .u16 q2, .int .u16 q3, .slice bo nb bc, .slice ro nr rc], .int .i64 30]))
    (HP : ∀ (W : World) (e : Ending) (W' : World), AnsEnd ⟨a0, a1, a2, a3, a4, a5⟩ (repBytes ⟨a0, 4, 0, 0, [], []⟩ ++ ms) W e W' → Below W.heap.size W W' ∧ ∃ q0 q1 q2 q3 bo nb bc ro nr rc, e = .returned (.tuple #[.agg #[.int .u8 q0, .int .u8 q1, .int .u16 q2, .int .u16 q3, .slice bo nb bc, .slice ro nr rc], .int .i64 30]))
    (HC : ∀ (p : Nat), p < (repBytes ⟨a0, 4, 0, 0, [], []⟩).length → ¬ IsAns ⟨a0, a1, a2, a3, a4, a5⟩ ((repBytes ⟨a0, 4, 0, 0, [], []⟩).take p)) (hR : Rp.Fits ⟨a0, 4, 0, 0, [], []⟩) (hok : Rp.Ok ⟨a0, 4, 0, 0, [], []⟩) (hCL : 1 ≤ (repBytes ⟨a0, 4, 0, 0, [], []⟩).length ∧ (repBytes ⟨a0, 4, 0, 0, [], []⟩).length ≤ 900) (HF1 : ∀ (p : Nat), a0 = 1 ∨ a0 = 2 ∨ a0 = 3 ∨ a0 = 4 ∨ a0 = 23 ∨ ((repBytes ⟨a0, 4, 0, 0, [], []⟩).take p).getD 0 0 ≠ a0) (HF2 : a0 = 1 ∨ a0 = 2 ∨ a0 = 3 ∨ a0 = 4 ∨ a0 = 23 ∨ (repBytes ⟨a0, 4, 0, 0, [], []⟩ ++ ms).getD 0 0 ≠ a0) :
    Calls Try.prog 4 #[.agg #[.int .u8 a0, .int .u16 a1, .int .u16 a2, .int .u16 a3, av, aw], .int .i64 k, .slice so m c] w fun e w' => e = .returned (.bool true) ∧ Below w.heap.size w w' := by
  have HA := hid_as ha
  clear ha
  have FA := hid_as fa
  have hd := decide_eq_true hl
  have h4 : decide ((50 : Int) < (m : Int)) = false := decide_eq_false (by omega)
  have t2 : decide ((a0 : Int) ≤ 2) = false := decide_eq_false (by omega)
  have t4 : decide ((a0 : Int) ≤ 4) = false := decide_eq_false (by omega)
  have t23 : ((a0 : Int) == 23) = false := by rw [beq_eq_false_iff_ne]; omega
  have HK := hid_as hk
  have HSM := hid_as h
  have HN := hid_as hn
  have HOO := hid_as HO
  have HPP := hid_as HP
  have HCC := hid_as HC
  clear HO HP HC
  have HRF := hid_as hR
  have HCL := hid_as hCL
  have HFC := hid_as HF1
  have HFD := hid_as HF2
  clear hCL HF1 HF2
  have HOK := hid_as hok
  obtain ⟨bs, hbs⟩ : ∃ bs, bs = reqBytes ⟨a0, a1, a2, a3, a4, a5⟩ := ⟨_, rfl⟩
  rw [← hbs] at HOO
  have hRQ : IsReq bs := by rw [hbs]; exact (isReq_bytes fa HA.out.1).1
  have h5 : 5 ≤ bs.length := hRQ.1
  have h253 : bs.length ≤ 253 := hRQ.2.1
  have hlen0 : ((bs.length : Int) == 0) = false := by rw [beq_eq_false_iff_ne]; omega
  have HBY : Hid (Bytes bs) := by unfold Hid; rw [hbs]; exact reqBytes_bytes HA.out.1 (by have := hl.1; simp only; omega) (by have := hl.2; simp only; omega)
  have HRQ := hid_as hRQ
  have HBS := hid_as hbs
  have HL := hid_as hl
  have H5 := hid_as (And.intro h5 h253)
  have HMM := hid_as hm
  clear hl hm fa hk h hn hR hbs hRQ h5 h253 hok
  go_enter Try.func4, Try.ntmps4
  go_wp2_with fail
  refine (known_law _).mono ?_
  rintro e w1 ⟨rfl, k1⟩
  obtain ⟨k1, B1, hs1⟩ := one_box k1
  have K1 : Hid (Below w.heap.size w w1) := k1
  have H1 := hid_as (HA.out.below k1)
  have B1 : Hid (Box w1 w.heap.size (.int .u8 a0) (.int .u16 a1) (.int .u16 a2) (.int .u16 a3) av aw) := B1
  obtain ⟨c0, c1, c2, c3, c4, c5⟩ := B1.out
  clear k1
  go_wp2_with fail
  refine (light_c H1.out).mono ?_
  rintro e w2 ⟨rfl, k2⟩
  have K2 : Hid (Below w.heap.size w w2) := below_and K1.out k2
  rw [hd]
  have H2 := hid_as (HA.out.below K2.out)
  have hs2 : w.heap.size < w2.heap.size := Nat.lt_of_lt_of_le hs1 k2.size
  have B2 : Hid (Box w2 w.heap.size (.int .u8 a0) (.int .u16 a1) (.int .u16 a2) (.int .u16 a3) av aw) := B1.out.below k2 hs1
  clear k2 c0 c1 c2 c3 c4 c5 B1 H1
  obtain ⟨c0, c1, c2, c3, c4, c5⟩ := B2.out
  go_wp2_with fail
  refine (request_yes H2.out FA.out).mono ?_
  rw [← HBS.out]
  rintro e w3 ⟨x, rfl, ownx, k3⟩
  obtain ⟨g, xc, hx, hxc⟩ := own_some ownx (by have := H5.out; intro h; rw [h] at this; simp at this)
  subst hx
  have OX := hid_as (own_sl ownx)
  have K3 : Hid (Below w.heap.size w w3) := below_and K2.out k3
  have hs3 : w.heap.size < w3.heap.size := Nat.lt_of_lt_of_le hs2 k3.size
  have B3 : Hid (Box w3 w.heap.size (.int .u8 a0) (.int .u16 a1) (.int .u16 a2) (.int .u16 a3) av aw) := B2.out.below k3 hs2
  have XP := hid_as (place_c k bs.length (by have := H5.out; omega) (by have := H5.out; omega) w3)
  clear k3 c0 c1 c2 c3 c4 c5 B2 H2 ownx
  have HXC := hid_as hxc
  clear hxc
  go_wp2_with fail
  refine XP.out.mono ?_
  rintro e w' ⟨⟨p, hp, rfl⟩, hw⟩
  subst w'
  have p1 : (p : Int) ≤ (xc : Int) := by have := HXC.out; omega
  have p2 : p ≤ xc := by have := HXC.out; omega
  have p3 : (0 : Int) ≤ (p : Int) := by omega
  have XO := hid_as (open_c (sl_cut OX.out hp) (bytes_take HBY.out p))
  have HCUT := hid_as (cut_no HRQ.out hp)
  clear hp XP
  go_wp2_with fail
  refine XO.out.mono ?_
  rintro e w4 ⟨k4, ⟨hr, _⟩ | ⟨_, rfl⟩⟩
  · exact absurd hr HCUT.out
  have K4 : Hid (Below w.heap.size w w4) := below_and K3.out k4
  have hs4 : w.heap.size < w4.heap.size := Nat.lt_of_lt_of_le hs3 k4.size
  have B4 : Hid (Box w4 w.heap.size (.int .u8 a0) (.int .u16 a1) (.int .u16 a2) (.int .u16 a3) av aw) := B3.out.below k4 hs3
  have OX4 := hid_as (OX.out.below k4)
  have XC := hid_as (fun (o : Obj) => copy_c (OX4.out.below (below_new (Below.refl _ w4) o)) (by have := H5.out; omega))
  clear k4 p1 p2 p3 XO OX B3 HCUT
  go_wp2_with fail
  refine (XC.out _).mono ?_
  rintro e w5 ⟨y, rfl, owny, k5⟩
  have KK5 : Hid (Below w4.heap.size w4 w5) := below_and (below_new (Below.refl _ w4) _) k5
  have K5 : Hid (Below w.heap.size w w5) := below_and K4.out KK5.out
  have hs5 : w.heap.size < w5.heap.size := Nat.lt_of_lt_of_le hs4 KK5.out.size
  have B5 : Hid (Box w5 w.heap.size (.int .u8 a0) (.int .u16 a1) (.int .u16 a2) (.int .u16 a3) av aw) := B4.out.below KK5.out hs4
  obtain ⟨i0, hi, hz0, hz1, hz2⟩ := info_parts Try.infoByte
  obtain ⟨y6, w6, hAp, own6, g6⟩ := run_append_sl (P := Try.prog) (w := w5) _ 29 29 5 i0 (.int .u8 0) 1 Try.underlying29 hi hz0 hz1 hz2 rfl y _ _ owny (.slice so m c) (u8s ms) (HSM.out.below K5.out) (u8s_one ms) (by have := H5.out; have := HN.out; have := HMM.out; rw [u8s_len]; unfold maxLen; omega) (by have := H5.out; have := HN.out; have := HMM.out; rw [u8s_len]; omega) k5.size
  have HAP := hid_as hAp
  rw [← u8s_app] at own6
  have k6 : Below w4.heap.size w4 w6 := KK5.out.grown g6 KK5.out.size (fun g hg => Nat.le_of_lt (Nat.lt_of_lt_of_le (by rw [World.size_alloc]; exact Nat.lt_succ_self _) (owny.lt g hg).1))
  have KK6 := hid_as k6
  have K6 : Hid (Below w.heap.size w w6) := below_and K4.out k6
  have hs6 : w.heap.size < w6.heap.size := Nat.lt_of_lt_of_le hs4 k6.size
  have B6 : Hid (Box w6 w.heap.size (.int .u8 a0) (.int .u16 a1) (.int .u16 a2) (.int .u16 a3) av aw) := B4.out.below k6 hs4
  have XO := hid_as (open_c (own_sl own6) (bytes_app HBY.out hM))
  clear hAp owny own6 g6 k5 k6 XC B5 B4 KK5
  go_wp2_with (at_builtin; refine Lib.wpList_append_run _ rfl _ _ _ _ rfl _ _ rfl rfl _ _ HAP.out ?_)
  refine XO.out.mono ?_
  rintro e w7 hend
  obtain ⟨k7, q0, q1, q2, q3, bo, nb, bc, ro, nr, rc, rfl⟩ := HOO.out _ _ _ hend
  have K7 : Hid (Below w.heap.size w w7) := below_and K6.out k7
  have hs7 : w.heap.size < w7.heap.size := Nat.lt_of_lt_of_le hs6 k7.size
  have B7 : Hid (Box w7 w.heap.size (.int .u8 a0) (.int .u16 a1) (.int .u16 a2) (.int .u16 a3) av aw) := B6.out.below k7 hs6
  clear hend k7 XO HAP B6 OX4 KK6
  go_upto_region 10 with fail
  have KX := hid_as (below_new K7.out (.cells #[.int .u8 q0, .int .u16 q1, .int .u16 q2, .int .u16 q3, .slice bo nb bc, .slice ro nr rc] 26))
  have BX := B7.out.grow (.cells #[.int .u8 q0, .int .u16 q1, .int .u16 q2, .int .u16 q3, .slice bo nb bc, .slice ro nr rc] 26)
  have hsX : w.heap.size < (w7.alloc (.cells #[.int .u8 q0, .int .u16 q1, .int .u16 q2, .int .u16 q3, .slice bo nb bc, .slice ro nr rc] 26)).heap.size := by rw [World.size_alloc]; omega
  clear B7 K7 hs7
  generalize w7.alloc (.cells #[.int .u8 q0, .int .u16 q1, .int .u16 q2, .int .u16 q3, .slice bo nb bc, .slice ro nr rc] 26) = X at KX BX hsX ⊢
  obtain ⟨c0, c1, c2, c3, c4, c5⟩ := BX
  go_upto_region 13 with fail
  have KY := hid_as (below_new KX.out (.cells #[.int .u8 a0, .int .u8 4, .int .u16 0, .int .u16 0, .slice none 0 0, .slice none 0 0] 40))
  have BY := (Box.mk c0 c1 c2 c3 c4 c5).grow (.cells #[.int .u8 a0, .int .u8 4, .int .u16 0, .int .u16 0, .slice none 0 0, .slice none 0 0] 40)
  have RY := Box.new X (.int .u8 a0) (.int .u8 4) (.int .u16 0) (.int .u16 0) (.slice none 0 0) (.slice none 0 0) 40
  have hsY : X.heap.size < (X.alloc (.cells #[.int .u8 a0, .int .u8 4, .int .u16 0, .int .u16 0, .slice none 0 0, .slice none 0 0] 40)).heap.size := by rw [World.size_alloc]; omega
  clear c0 c1 c2 c3 c4 c5
  generalize X.alloc (.cells #[.int .u8 a0, .int .u8 4, .int .u16 0, .int .u16 0, .slice none 0 0, .slice none 0 0] 40) = Y at KY BY RY hsY ⊢
  have BYH := hid_as BY
  obtain ⟨c0, c1, c2, c3, c4, c5⟩ := BY
  obtain ⟨d0, d1, d2, d3, d4, d5⟩ := RY
  have hsw : w.heap.size < Y.heap.size := Nat.lt_trans hsX hsY
  have XR := hid_as (ref_reply (v := .agg #[.int .u8 a0, .int .u8 4, .int .u16 0, .int .u16 0, .slice none 0 0, .slice none 0 0]) (r := ⟨a0, 4, 0, 0, [], []⟩) (w := Y) ⟨HOK.out, _, _, rfl, Sl.nil Y, Sl.nil Y⟩ (by simp) (by simp))
  go_wp2_with fail
  refine XR.out.mono ?_
  rintro e w8 ⟨k8, ⟨_, z, rfl, ownz⟩ | ⟨hno, _⟩⟩
  case inr => exact absurd HRF.out hno
  obtain ⟨cs, hcs⟩ : ∃ cs, cs = repBytes ⟨a0, 4, 0, 0, [], []⟩ := ⟨_, rfl⟩
  rw [← hcs] at ownz HPP HCC HFC HFD HCL
  have hc1 : 1 ≤ cs.length ∧ cs.length ≤ 900 := HCL.out
  have HCB : Hid (Bytes cs) := by unfold Hid; rw [hcs]; exact repBytes_bytes HOK.out HRF.out
  obtain ⟨gz, zc, hz, hzc⟩ := own_some ownz (by intro h; rw [h] at hc1; simp at hc1)
  subst hz
  have OZ := hid_as (own_sl ownz)
  have K8 : Hid (Below w.heap.size w w8) := below_and KY.out k8
  have hs8 : w.heap.size < w8.heap.size := Nat.lt_of_lt_of_le hsw k8.size
  have B8 := BYH.out.below k8 hsw
  have B8H := hid_as B8
  have HC1 := hid_as hc1
  have HZC := hid_as hzc
  clear k8 ownz hcs hc1 hzc c0 c1 c2 c3 c4 c5 d0 d1 d2 d3 d4 d5 XR
  obtain ⟨c0, c1, c2, c3, c4, c5⟩ := B8
  have PL := hid_as (place_c k cs.length (by have := HC1.out; omega) (by have := HC1.out; omega))
  have OR : Hid (∀ (p : Nat) (hp : p < cs.length) (W : World) (h : Below w8.heap.size w8 W), Calls Try.prog 14 #[.agg #[.int .u8 a0, .int .u16 a1, .int .u16 a2, .int .u16 a3, av, aw], .slice (some ⟨gz, 0, none⟩) p zc] W fun e w' => Below w8.heap.size w8 w' ∧ Below W.heap.size W w' ∧ e = .returned (.tuple #[.agg #[.int .u8 0, .int .u8 0, .int .u16 0, .int .u16 0, .slice none 0 0, .slice none 0 0], .int .i64 30])) := by
    intro p hp W h
    refine (orep_r (HA.out.below (below_and K8.out h)) (sl_cut (OZ.out.below h) hp) (bytes_take HCB.out p) (by rw [List.length_take]; have := HC1.out; omega) (HFC.out p)).mono ?_
    rintro e w9 ⟨k9, ⟨hr, _⟩ | ⟨_, he⟩⟩
    · exact absurd hr (HCC.out p hp)
    · exact ⟨below_and h k9, k9, he⟩
  have hne8 : ¬ (w8.heap.size = w.heap.size) := by omega
  go_upto_region 18 with fail
  go_region_held3 (fun w' => w'.cell? ⟨w.heap.size, 0, none⟩ = some (.int .u8 a0) ∧ w'.cell? ⟨w.heap.size, 1, none⟩ = some (.int .u16 a1) ∧ w'.cell? ⟨w.heap.size, 2, none⟩ = some (.int .u16 a2) ∧ w'.cell? ⟨w.heap.size, 3, none⟩ = some (.int .u16 a3) ∧ w'.cell? ⟨w.heap.size, 4, none⟩ = some (av) ∧ w'.cell? ⟨w.heap.size, 5, none⟩ = some (aw)) (first | (simp [World.cell?_setCell_far, World.cell?_alloc_past, hs8, c0, c1, c2, c3, c4, c5]; done) | (simp [World.cell?_setCell_far, World.cell?_alloc_past, hs9, hne8, u0, u1, u2, u3, u4, u5]; done)) (first | (go_at_call 11; (with_reducible refine (PL.out _).mono ?_); rintro e w' ⟨⟨p, hp, rfl⟩, hw⟩; subst w'; have p1 : (p : Int) ≤ (zc : Int) := (by have := HZC.out; omega); have p2 : p ≤ zc := (by have := HZC.out; omega); have p3 : (0 : Int) ≤ (p : Int) := (by omega); have HPC := hid_as hp; clear hp) | (go_at_call 14; (with_reducible refine (OR.out p HPC.out _ ?_).mono ?_); (first | exact Below.refl _ _ | exact (Below.refl _ _).drew | exact below_new (Below.refl _ _) _ | exact below_new (Below.refl _ _).drew _ | exact (below_new (Below.refl _ _) _).drew); rintro e w9 ⟨kk9, k9, rfl⟩; have hs9 : w.heap.size < w9.heap.size := (Nat.lt_of_lt_of_le hs8 kk9.size); have KK9 := hid_as kk9; obtain ⟨u0, u1, u2, u3, u4, u5⟩ := B8H.out.below kk9 hs8; (first | (have hb6 := block6 ((k9.block _ (by simp)).trans (heap_alloc_new _ (.cells #[.int .u8 0, .int .u8 0, .int .u16 0, .int .u16 0, .slice none 0 0, .slice none 0 0] 40))); obtain ⟨⟨v0, v1, v2, v3, v4, v5⟩, hfz⟩ := hb6; have f0 := hfz 0; have f1 := hfz 1; have f2 := hfz 2; have f3 := hfz 3; have f4 := hfz 4; have f5 := hfz 5; clear hfz) | skip)))
  all_goals
    (first | (obtain ⟨V, hV⟩ : ∃ V, V = w9.alloc (.cells #[.int .u8 0, .int .u8 0, .int .u16 0, .int .u16 0, .slice none 0 0, .slice none 0 0] 40) := ⟨_, rfl⟩; rw [← hV]; have KV : Hid (Below w8.heap.size w8 V) := (by unfold Hid; rw [hV]; exact below_new KK9.out _); clear hV) | (obtain ⟨V, hV⟩ : ∃ V, V = (((((w9.setCell ⟨w8.heap.size, 0, none⟩ (.int .u8 0)).setCell ⟨w8.heap.size, 1, none⟩ (.int .u8 0)).setCell ⟨w8.heap.size, 2, none⟩ (.int .u16 0)).setCell ⟨w8.heap.size, 3, none⟩ (.int .u16 0)).setCell ⟨w8.heap.size, 4, none⟩ (.slice none 0 0)).setCell ⟨w8.heap.size, 5, none⟩ (.slice none 0 0) := ⟨_, rfl⟩; rw [← hV]; have KV : Hid (Below w8.heap.size w8 V) := (by unfold Hid; rw [hV]; exact below_six KK9.out (Nat.le_refl _) _ _ _ _ _ _); clear hV))
    clear c0 c1 c2 c3 c4 c5
    have hsV : w.heap.size < V.heap.size := Nat.lt_of_lt_of_le hs8 KV.out.size
    have KW : Hid (Below w.heap.size w V) := below_and K8.out KV.out
    have BV := hid_as (B8H.out.below KV.out hs8)
    obtain ⟨c0, c1, c2, c3, c4, c5⟩ := BV.out
    have hneV : ¬ (V.heap.size = w.heap.size) := by omega
    have CP : Hid (∀ (W : World) (h : Below V.heap.size V W), Calls Try.prog 12 #[.slice (some ⟨gz, 0, none⟩) cs.length zc] W fun e w' => Below V.heap.size V w' ∧ Below W.heap.size W w' ∧ ∃ y, e = .returned y ∧ w'.ownsRow W.heap.size 5 1 y cs.length (u8s cs)) := by
      intro W h
      refine (copy_c (OZ.out.below (below_and KV.out h)) (by have := HC1.out; omega)).mono ?_
      rintro e w9 ⟨y, he, hy, k⟩
      exact ⟨below_and h k, k, y, he, hy⟩
    have OP : Hid (∀ (v : Value) (W : World) (h : Below V.heap.size V W) (hv : Sl W v (u8s (cs ++ ms))), Calls Try.prog 14 #[.agg #[.int .u8 a0, .int .u16 a1, .int .u16 a2, .int .u16 a3, av, aw], v] W fun e w' => Below V.heap.size V w' ∧ Below W.heap.size W w' ∧ ∃ q0 q1 q2 q3 bo nb bc ro nr rc, e = .returned (.tuple #[.agg #[.int .u8 q0, .int .u8 q1, .int .u16 q2, .int .u16 q3, .slice bo nb bc, .slice ro nr rc], .int .i64 30])) := by
      intro v W h hv
      refine (orep_r (HA.out.below (below_and KW.out h)) hv (bytes_app HCB.out hM) (by rw [List.length_append]; have := HC1.out; have := HN.out; have := HMM.out; omega) HFD.out).mono ?_
      intro e w9 hend
      obtain ⟨k9, he⟩ := HPP.out _ _ _ hend
      exact ⟨below_and h k9, k9, he⟩
    have SM := hid_as (fun (W : World) (h : Below V.heap.size V W) => HSM.out.below (below_and KW.out h))
    go_upto_region 19 with fail
    go_region_held3 (fun w' => w'.cell? ⟨w.heap.size, 0, none⟩ = some (.int .u8 a0) ∧ w'.cell? ⟨w.heap.size, 1, none⟩ = some (.int .u16 a1) ∧ w'.cell? ⟨w.heap.size, 2, none⟩ = some (.int .u16 a2) ∧ w'.cell? ⟨w.heap.size, 3, none⟩ = some (.int .u16 a3) ∧ w'.cell? ⟨w.heap.size, 4, none⟩ = some (av) ∧ w'.cell? ⟨w.heap.size, 5, none⟩ = some (aw)) (first | (simp [World.cell?_setCell_far, World.cell?_alloc_past, hsC, hneV, hneA, hneB, z0, z1, z2, z3, z4, z5]; done) | (simp [World.cell?_alloc_past, hsB, y0, y1, y2, y3, y4, y5]; done) | (simp [World.cell?_alloc_past, hsA, x0, x1, x2, x3, x4, x5]; done) | (simp [World.cell?_alloc_past, hsV, c0, c1, c2, c3, c4, c5]; done)) (first | (go_at_call 12; (with_reducible refine (CP.out _ ?_).mono ?_); (first | exact Below.refl _ _ | exact (Below.refl _ _).drew | exact below_new (Below.refl _ _) _ | exact below_new (Below.refl _ _).drew _ | exact (below_new (Below.refl _ _) _).drew); rintro e wA ⟨kkA, kA, y, rfl, ownA⟩; have hsA : w.heap.size < wA.heap.size := (Nat.lt_of_lt_of_le hsV kkA.size); have hneA : ¬ (wA.heap.size = w.heap.size) := (by omega); have KKA := hid_as kkA; obtain ⟨x0, x1, x2, x3, x4, x5⟩ := BV.out.below kkA hsV; have ltA := hid_as ownA.lt; (first | (have hA := hid_as (first_kept kA ownA)) | skip); have OWA := hid_as ownA; have SZA := hid_as kA.size; clear kA kkA ownA) | (refine step_append_sl rfl (.tmp 115) (.tmp 116) rfl _ _ (.slice so m c) cs ms rfl rfl (by first | exact OWA.out | exact OWA.out.alloc _) (by first | exact SM.out _ KKA.out | exact SM.out _ (below_new KKA.out _)) (by have := HC1.out; have := HN.out; have := HMM.out; omega) (by first | exact SZA.out | (have := SZA.out; rw [World.size_alloc]; omega)) ?_; intro y11 wB slB kB otB; have SLB := hid_as slB; have kkB : Below V.heap.size V wB := (Below.trans (by first | exact KKA.out | exact below_new KKA.out _) (Below.mono kB (by simp))); have KKB := hid_as kkB; have hsB : w.heap.size < wB.heap.size := (Nat.lt_of_lt_of_le hsV kkB.size); have hneB : ¬ (wB.heap.size = w.heap.size) := (by omega); obtain ⟨y0, y1, y2, y3, y4, y5⟩ := BV.out.below kkB hsV; (first | (have hA2 := hid_as ((otB _ hA.out.2.1 hA.out.2.2).trans hA.out.1)) | (have hA2 := hid_as ((otB _ (by rw [World.size_alloc]; exact Nat.lt_succ_self _) (by intro e; exact absurd (ltA.out _ e).2 (Nat.lt_irrefl _))).trans (heap_alloc_new wA (.cells #[.int .u8 0, .int .u8 0, .int .u16 0, .int .u16 0, .slice none 0 0, .slice none 0 0] 40)))) | skip); clear slB kB otB kkB) | (go_at_call 14; (with_reducible refine (OP.out _ _ ?_ ?_).mono ?_); (first | exact KKB.out | exact below_new KKB.out _); (first | exact SLB.out | exact SLB.out.below (below_new (Below.refl _ _) _)); rintro e wC ⟨kkC, kC, q0, q1, q2, q3, bo, nb, bc, ro, nr, rc, rfl⟩; have hsC : w.heap.size < wC.heap.size := (Nat.lt_of_lt_of_le hsV kkC.size); have KKC := hid_as kkC; obtain ⟨z0, z1, z2, z3, z4, z5⟩ := BV.out.below kkC hsV; (first | (have hq6 := hA2.out; have hb6 := block6 ((kC.block _ (Array.getElem?_eq_some_iff.1 hq6).1).trans hq6); obtain ⟨⟨v0, v1, v2, v3, v4, v5⟩, hfz⟩ := hb6; have f0 := hfz 0; have f1 := hfz 1; have f2 := hfz 2; have f3 := hfz 3; have f4 := hfz 4; have f5 := hfz 5; clear hfz) | (have hb6 := block6 ((kC.block _ (by simp)).trans (heap_alloc_new _ (.cells #[.int .u8 0, .int .u8 0, .int .u16 0, .int .u16 0, .slice none 0 0, .slice none 0 0] 40))); obtain ⟨⟨v0, v1, v2, v3, v4, v5⟩, hfz⟩ := hb6; have f0 := hfz 0; have f1 := hfz 1; have f2 := hfz 2; have f3 := hfz 3; have f4 := hfz 4; have f5 := hfz 5; clear hfz) | skip)))
    all_goals
      go_wp2
      go_ret
      have KC : Hid (Below w.heap.size w wC) := below_and KW.out KKC.out
      refine ⟨rfl, ?_⟩
      first
        | (with_reducible exact below_new KC.out _)
        | (with_reducible exact below_six KC.out (Nat.le_of_lt hsV) _ _ _ _ _ _)
        | (with_reducible exact below_six KC.out (Nat.le_of_lt hsA) _ _ _ _ _ _)
        | (with_reducible exact below_six KC.out (Nat.le_of_lt hsB) _ _ _ _ _ _)
set_option linter.unusedSimpArgs false in
set_option linter.unusedVariables false in
set_option maxRecDepth 100000 in
set_option maxHeartbeats 8000000 in
theorem short_exc0 (a0 a1 a2 a3 m c : Nat) (k : Int) (a4 : List Bool) (a5 : List Nat) (av aw : Value) (so : Option Addr) (w : World) (ha : IsRq w (.agg #[.int .u8 a0, .int .u16 a1, .int .u16 a2, .int .u16 a3, av, aw]) ⟨a0, a1, a2, a3, a4, a5⟩) (hl : a4.length ≤ 2500 ∧ a5.length ≤ 200) (fa : Rq.Fits ⟨a0, a1, a2, a3, a4, a5⟩) (hk : a0 = 5 ∨ a0 = 6 ∨ a0 = 15 ∨ a0 = 16 ∨ a0 = 22) (ms : List Nat) (h : Sl w (.slice so m c) (u8s ms)) (hM : Bytes ms) (hn : m = ms.length) (hm : m ≤ 50) (hB : decide (0 < m) = false)
    (HO : ∀ (W : World) (e : Ending) (W' : World), OpenEnd (reqBytes ⟨a0, a1, a2, a3, a4, a5⟩ ++ ms) W e W' → Below W.heap.size W W' ∧ ∃ q0 q1 q2 q3 bo nb bc ro nr rc, e = .returned (.tuple #[.agg #[.int .u8 q0, .int .u16 q1, .int .u16 q2, .int .u16 q3, .slice bo nb bc, .slice ro nr rc], .int .i64 0]))
    (HP : ∀ (W : World) (e : Ending) (W' : World), AnsEnd ⟨a0, a1, a2, a3, a4, a5⟩ (repBytes ⟨a0, 4, 0, 0, [], []⟩ ++ ms) W e W' → Below W.heap.size W W' ∧ ∃ q0 q1 q2 q3 bo nb bc ro nr rc, e = .returned (.tuple #[.agg #[.int .u8 q0, .int .u8 q1, .int .u16 q2, .int .u16 q3, .slice bo nb bc, .slice ro nr rc], .int .i64 0]))
    (HC : ∀ (p : Nat), p < (repBytes ⟨a0, 4, 0, 0, [], []⟩).length → ¬ IsAns ⟨a0, a1, a2, a3, a4, a5⟩ ((repBytes ⟨a0, 4, 0, 0, [], []⟩).take p)) (hR : Rp.Fits ⟨a0, 4, 0, 0, [], []⟩) (hok : Rp.Ok ⟨a0, 4, 0, 0, [], []⟩) (hCL : 1 ≤ (repBytes ⟨a0, 4, 0, 0, [], []⟩).length ∧ (repBytes ⟨a0, 4, 0, 0, [], []⟩).length ≤ 900) (HF1 : ∀ (p : Nat), a0 = 1 ∨ a0 = 2 ∨ a0 = 3 ∨ a0 = 4 ∨ a0 = 23 ∨ ((repBytes ⟨a0, 4, 0, 0, [], []⟩).take p).getD 0 0 ≠ a0) (HF2 : a0 = 1 ∨ a0 = 2 ∨ a0 = 3 ∨ a0 = 4 ∨ a0 = 23 ∨ (repBytes ⟨a0, 4, 0, 0, [], []⟩ ++ ms).getD 0 0 ≠ a0) :
    Calls Try.prog 4 #[.agg #[.int .u8 a0, .int .u16 a1, .int .u16 a2, .int .u16 a3, av, aw], .int .i64 k, .slice so m c] w fun e w' => e = .returned (.bool true) ∧ Below w.heap.size w w' := by
  have HA := hid_as ha
  clear ha
  have FA := hid_as fa
  have hd := decide_eq_true hl
  have h4 : decide ((50 : Int) < (m : Int)) = false := decide_eq_false (by omega)
  have t2 : decide ((a0 : Int) ≤ 2) = false := decide_eq_false (by omega)
  have t4 : decide ((a0 : Int) ≤ 4) = false := decide_eq_false (by omega)
  have t23 : ((a0 : Int) == 23) = false := by rw [beq_eq_false_iff_ne]; omega
  have HK := hid_as hk
  have HSM := hid_as h
  have HN := hid_as hn
  have HOO := hid_as HO
  have HPP := hid_as HP
  have HCC := hid_as HC
  clear HO HP HC
  have HRF := hid_as hR
  have HCL := hid_as hCL
  have HFC := hid_as HF1
  have HFD := hid_as HF2
  clear hCL HF1 HF2
  have HOK := hid_as hok
  obtain ⟨bs, hbs⟩ : ∃ bs, bs = reqBytes ⟨a0, a1, a2, a3, a4, a5⟩ := ⟨_, rfl⟩
  rw [← hbs] at HOO
  have hRQ : IsReq bs := by rw [hbs]; exact (isReq_bytes fa HA.out.1).1
  have h5 : 5 ≤ bs.length := hRQ.1
  have h253 : bs.length ≤ 253 := hRQ.2.1
  have hlen0 : ((bs.length : Int) == 0) = false := by rw [beq_eq_false_iff_ne]; omega
  have HBY : Hid (Bytes bs) := by unfold Hid; rw [hbs]; exact reqBytes_bytes HA.out.1 (by have := hl.1; simp only; omega) (by have := hl.2; simp only; omega)
  have HRQ := hid_as hRQ
  have HBS := hid_as hbs
  have HL := hid_as hl
  have H5 := hid_as (And.intro h5 h253)
  have HMM := hid_as hm
  clear hl hm fa hk h hn hR hbs hRQ h5 h253 hok
  go_enter Try.func4, Try.ntmps4
  go_wp2_with fail
  refine (known_law _).mono ?_
  rintro e w1 ⟨rfl, k1⟩
  obtain ⟨k1, B1, hs1⟩ := one_box k1
  have K1 : Hid (Below w.heap.size w w1) := k1
  have H1 := hid_as (HA.out.below k1)
  have B1 : Hid (Box w1 w.heap.size (.int .u8 a0) (.int .u16 a1) (.int .u16 a2) (.int .u16 a3) av aw) := B1
  obtain ⟨c0, c1, c2, c3, c4, c5⟩ := B1.out
  clear k1
  go_wp2_with fail
  refine (light_c H1.out).mono ?_
  rintro e w2 ⟨rfl, k2⟩
  have K2 : Hid (Below w.heap.size w w2) := below_and K1.out k2
  rw [hd]
  have H2 := hid_as (HA.out.below K2.out)
  have hs2 : w.heap.size < w2.heap.size := Nat.lt_of_lt_of_le hs1 k2.size
  have B2 : Hid (Box w2 w.heap.size (.int .u8 a0) (.int .u16 a1) (.int .u16 a2) (.int .u16 a3) av aw) := B1.out.below k2 hs1
  clear k2 c0 c1 c2 c3 c4 c5 B1 H1
  obtain ⟨c0, c1, c2, c3, c4, c5⟩ := B2.out
  go_wp2_with fail
  refine (request_yes H2.out FA.out).mono ?_
  rw [← HBS.out]
  rintro e w3 ⟨x, rfl, ownx, k3⟩
  obtain ⟨g, xc, hx, hxc⟩ := own_some ownx (by have := H5.out; intro h; rw [h] at this; simp at this)
  subst hx
  have OX := hid_as (own_sl ownx)
  have K3 : Hid (Below w.heap.size w w3) := below_and K2.out k3
  have hs3 : w.heap.size < w3.heap.size := Nat.lt_of_lt_of_le hs2 k3.size
  have B3 : Hid (Box w3 w.heap.size (.int .u8 a0) (.int .u16 a1) (.int .u16 a2) (.int .u16 a3) av aw) := B2.out.below k3 hs2
  have XP := hid_as (place_c k bs.length (by have := H5.out; omega) (by have := H5.out; omega) w3)
  clear k3 c0 c1 c2 c3 c4 c5 B2 H2 ownx
  have HXC := hid_as hxc
  clear hxc
  go_wp2_with fail
  refine XP.out.mono ?_
  rintro e w' ⟨⟨p, hp, rfl⟩, hw⟩
  subst w'
  have p1 : (p : Int) ≤ (xc : Int) := by have := HXC.out; omega
  have p2 : p ≤ xc := by have := HXC.out; omega
  have p3 : (0 : Int) ≤ (p : Int) := by omega
  have XO := hid_as (open_c (sl_cut OX.out hp) (bytes_take HBY.out p))
  have HCUT := hid_as (cut_no HRQ.out hp)
  clear hp XP
  go_wp2_with fail
  refine XO.out.mono ?_
  rintro e w4 ⟨k4, ⟨hr, _⟩ | ⟨_, rfl⟩⟩
  · exact absurd hr HCUT.out
  have K4 : Hid (Below w.heap.size w w4) := below_and K3.out k4
  have hs4 : w.heap.size < w4.heap.size := Nat.lt_of_lt_of_le hs3 k4.size
  have B4 : Hid (Box w4 w.heap.size (.int .u8 a0) (.int .u16 a1) (.int .u16 a2) (.int .u16 a3) av aw) := B3.out.below k4 hs3
  have OX4 := hid_as (OX.out.below k4)
  have XC := hid_as (fun (o : Obj) => copy_c (OX4.out.below (below_new (Below.refl _ w4) o)) (by have := H5.out; omega))
  clear k4 p1 p2 p3 XO OX B3 HCUT
  go_wp2_with fail
  refine (XC.out _).mono ?_
  rintro e w5 ⟨y, rfl, owny, k5⟩
  have KK5 : Hid (Below w4.heap.size w4 w5) := below_and (below_new (Below.refl _ w4) _) k5
  have K5 : Hid (Below w.heap.size w w5) := below_and K4.out KK5.out
  have hs5 : w.heap.size < w5.heap.size := Nat.lt_of_lt_of_le hs4 KK5.out.size
  have B5 : Hid (Box w5 w.heap.size (.int .u8 a0) (.int .u16 a1) (.int .u16 a2) (.int .u16 a3) av aw) := B4.out.below KK5.out hs4
  obtain ⟨i0, hi, hz0, hz1, hz2⟩ := info_parts Try.infoByte
  obtain ⟨y6, w6, hAp, own6, g6⟩ := run_append_sl (P := Try.prog) (w := w5) _ 29 29 5 i0 (.int .u8 0) 1 Try.underlying29 hi hz0 hz1 hz2 rfl y _ _ owny (.slice so m c) (u8s ms) (HSM.out.below K5.out) (u8s_one ms) (by have := H5.out; have := HN.out; have := HMM.out; rw [u8s_len]; unfold maxLen; omega) (by have := H5.out; have := HN.out; have := HMM.out; rw [u8s_len]; omega) k5.size
  have HAP := hid_as hAp
  rw [← u8s_app] at own6
  have k6 : Below w4.heap.size w4 w6 := KK5.out.grown g6 KK5.out.size (fun g hg => Nat.le_of_lt (Nat.lt_of_lt_of_le (by rw [World.size_alloc]; exact Nat.lt_succ_self _) (owny.lt g hg).1))
  have KK6 := hid_as k6
  have K6 : Hid (Below w.heap.size w w6) := below_and K4.out k6
  have hs6 : w.heap.size < w6.heap.size := Nat.lt_of_lt_of_le hs4 k6.size
  have B6 : Hid (Box w6 w.heap.size (.int .u8 a0) (.int .u16 a1) (.int .u16 a2) (.int .u16 a3) av aw) := B4.out.below k6 hs4
  have XO := hid_as (open_c (own_sl own6) (bytes_app HBY.out hM))
  clear hAp owny own6 g6 k5 k6 XC B5 B4 KK5
  go_wp2_with (at_builtin; refine Lib.wpList_append_run _ rfl _ _ _ _ rfl _ _ rfl rfl _ _ HAP.out ?_)
  refine XO.out.mono ?_
  rintro e w7 hend
  obtain ⟨k7, q0, q1, q2, q3, bo, nb, bc, ro, nr, rc, rfl⟩ := HOO.out _ _ _ hend
  have K7 : Hid (Below w.heap.size w w7) := below_and K6.out k7
  have hs7 : w.heap.size < w7.heap.size := Nat.lt_of_lt_of_le hs6 k7.size
  have B7 : Hid (Box w7 w.heap.size (.int .u8 a0) (.int .u16 a1) (.int .u16 a2) (.int .u16 a3) av aw) := B6.out.below k7 hs6
  clear hend k7 XO HAP B6 OX4 KK6
  go_upto_region 10 with fail
  have KX := hid_as (below_new K7.out (.cells #[.int .u8 q0, .int .u16 q1, .int .u16 q2, .int .u16 q3, .slice bo nb bc, .slice ro nr rc] 26))
  have BX := B7.out.grow (.cells #[.int .u8 q0, .int .u16 q1, .int .u16 q2, .int .u16 q3, .slice bo nb bc, .slice ro nr rc] 26)
  have hsX : w.heap.size < (w7.alloc (.cells #[.int .u8 q0, .int .u16 q1, .int .u16 q2, .int .u16 q3, .slice bo nb bc, .slice ro nr rc] 26)).heap.size := by rw [World.size_alloc]; omega
  clear B7 K7 hs7
  generalize w7.alloc (.cells #[.int .u8 q0, .int .u16 q1, .int .u16 q2, .int .u16 q3, .slice bo nb bc, .slice ro nr rc] 26) = X at KX BX hsX ⊢
  obtain ⟨c0, c1, c2, c3, c4, c5⟩ := BX
  go_upto_region 13 with fail
  have KY := hid_as (below_new KX.out (.cells #[.int .u8 a0, .int .u8 4, .int .u16 0, .int .u16 0, .slice none 0 0, .slice none 0 0] 40))
  have BY := (Box.mk c0 c1 c2 c3 c4 c5).grow (.cells #[.int .u8 a0, .int .u8 4, .int .u16 0, .int .u16 0, .slice none 0 0, .slice none 0 0] 40)
  have RY := Box.new X (.int .u8 a0) (.int .u8 4) (.int .u16 0) (.int .u16 0) (.slice none 0 0) (.slice none 0 0) 40
  have hsY : X.heap.size < (X.alloc (.cells #[.int .u8 a0, .int .u8 4, .int .u16 0, .int .u16 0, .slice none 0 0, .slice none 0 0] 40)).heap.size := by rw [World.size_alloc]; omega
  clear c0 c1 c2 c3 c4 c5
  generalize X.alloc (.cells #[.int .u8 a0, .int .u8 4, .int .u16 0, .int .u16 0, .slice none 0 0, .slice none 0 0] 40) = Y at KY BY RY hsY ⊢
  have BYH := hid_as BY
  obtain ⟨c0, c1, c2, c3, c4, c5⟩ := BY
  obtain ⟨d0, d1, d2, d3, d4, d5⟩ := RY
  have hsw : w.heap.size < Y.heap.size := Nat.lt_trans hsX hsY
  have XR := hid_as (ref_reply (v := .agg #[.int .u8 a0, .int .u8 4, .int .u16 0, .int .u16 0, .slice none 0 0, .slice none 0 0]) (r := ⟨a0, 4, 0, 0, [], []⟩) (w := Y) ⟨HOK.out, _, _, rfl, Sl.nil Y, Sl.nil Y⟩ (by simp) (by simp))
  go_wp2_with fail
  refine XR.out.mono ?_
  rintro e w8 ⟨k8, ⟨_, z, rfl, ownz⟩ | ⟨hno, _⟩⟩
  case inr => exact absurd HRF.out hno
  obtain ⟨cs, hcs⟩ : ∃ cs, cs = repBytes ⟨a0, 4, 0, 0, [], []⟩ := ⟨_, rfl⟩
  rw [← hcs] at ownz HPP HCC HFC HFD HCL
  have hc1 : 1 ≤ cs.length ∧ cs.length ≤ 900 := HCL.out
  have HCB : Hid (Bytes cs) := by unfold Hid; rw [hcs]; exact repBytes_bytes HOK.out HRF.out
  obtain ⟨gz, zc, hz, hzc⟩ := own_some ownz (by intro h; rw [h] at hc1; simp at hc1)
  subst hz
  have OZ := hid_as (own_sl ownz)
  have K8 : Hid (Below w.heap.size w w8) := below_and KY.out k8
  have hs8 : w.heap.size < w8.heap.size := Nat.lt_of_lt_of_le hsw k8.size
  have B8 := BYH.out.below k8 hsw
  have B8H := hid_as B8
  have HC1 := hid_as hc1
  have HZC := hid_as hzc
  clear k8 ownz hcs hc1 hzc c0 c1 c2 c3 c4 c5 d0 d1 d2 d3 d4 d5 XR
  obtain ⟨c0, c1, c2, c3, c4, c5⟩ := B8
  have PL := hid_as (place_c k cs.length (by have := HC1.out; omega) (by have := HC1.out; omega))
  have OR : Hid (∀ (p : Nat) (hp : p < cs.length) (W : World) (h : Below w8.heap.size w8 W), Calls Try.prog 14 #[.agg #[.int .u8 a0, .int .u16 a1, .int .u16 a2, .int .u16 a3, av, aw], .slice (some ⟨gz, 0, none⟩) p zc] W fun e w' => Below w8.heap.size w8 w' ∧ Below W.heap.size W w' ∧ e = .returned (.tuple #[.agg #[.int .u8 0, .int .u8 0, .int .u16 0, .int .u16 0, .slice none 0 0, .slice none 0 0], .int .i64 30])) := by
    intro p hp W h
    refine (orep_r (HA.out.below (below_and K8.out h)) (sl_cut (OZ.out.below h) hp) (bytes_take HCB.out p) (by rw [List.length_take]; have := HC1.out; omega) (HFC.out p)).mono ?_
    rintro e w9 ⟨k9, ⟨hr, _⟩ | ⟨_, he⟩⟩
    · exact absurd hr (HCC.out p hp)
    · exact ⟨below_and h k9, k9, he⟩
  have hne8 : ¬ (w8.heap.size = w.heap.size) := by omega
  go_upto_region 18 with fail
  go_region_held3 (fun w' => w'.cell? ⟨w.heap.size, 0, none⟩ = some (.int .u8 a0) ∧ w'.cell? ⟨w.heap.size, 1, none⟩ = some (.int .u16 a1) ∧ w'.cell? ⟨w.heap.size, 2, none⟩ = some (.int .u16 a2) ∧ w'.cell? ⟨w.heap.size, 3, none⟩ = some (.int .u16 a3) ∧ w'.cell? ⟨w.heap.size, 4, none⟩ = some (av) ∧ w'.cell? ⟨w.heap.size, 5, none⟩ = some (aw)) (first | (simp [World.cell?_setCell_far, World.cell?_alloc_past, hs8, c0, c1, c2, c3, c4, c5]; done) | (simp [World.cell?_setCell_far, World.cell?_alloc_past, hs9, hne8, u0, u1, u2, u3, u4, u5]; done)) (first | (go_at_call 11; (with_reducible refine (PL.out _).mono ?_); rintro e w' ⟨⟨p, hp, rfl⟩, hw⟩; subst w'; have p1 : (p : Int) ≤ (zc : Int) := (by have := HZC.out; omega); have p2 : p ≤ zc := (by have := HZC.out; omega); have p3 : (0 : Int) ≤ (p : Int) := (by omega); have HPC := hid_as hp; clear hp) | (go_at_call 14; (with_reducible refine (OR.out p HPC.out _ ?_).mono ?_); (first | exact Below.refl _ _ | exact (Below.refl _ _).drew | exact below_new (Below.refl _ _) _ | exact below_new (Below.refl _ _).drew _ | exact (below_new (Below.refl _ _) _).drew); rintro e w9 ⟨kk9, k9, rfl⟩; have hs9 : w.heap.size < w9.heap.size := (Nat.lt_of_lt_of_le hs8 kk9.size); have KK9 := hid_as kk9; obtain ⟨u0, u1, u2, u3, u4, u5⟩ := B8H.out.below kk9 hs8; (first | (have hb6 := block6 ((k9.block _ (by simp)).trans (heap_alloc_new _ (.cells #[.int .u8 0, .int .u8 0, .int .u16 0, .int .u16 0, .slice none 0 0, .slice none 0 0] 40))); obtain ⟨⟨v0, v1, v2, v3, v4, v5⟩, hfz⟩ := hb6; have f0 := hfz 0; have f1 := hfz 1; have f2 := hfz 2; have f3 := hfz 3; have f4 := hfz 4; have f5 := hfz 5; clear hfz) | skip)))
  all_goals
    (first | (obtain ⟨V, hV⟩ : ∃ V, V = w9.alloc (.cells #[.int .u8 0, .int .u8 0, .int .u16 0, .int .u16 0, .slice none 0 0, .slice none 0 0] 40) := ⟨_, rfl⟩; rw [← hV]; have KV : Hid (Below w8.heap.size w8 V) := (by unfold Hid; rw [hV]; exact below_new KK9.out _); clear hV) | (obtain ⟨V, hV⟩ : ∃ V, V = (((((w9.setCell ⟨w8.heap.size, 0, none⟩ (.int .u8 0)).setCell ⟨w8.heap.size, 1, none⟩ (.int .u8 0)).setCell ⟨w8.heap.size, 2, none⟩ (.int .u16 0)).setCell ⟨w8.heap.size, 3, none⟩ (.int .u16 0)).setCell ⟨w8.heap.size, 4, none⟩ (.slice none 0 0)).setCell ⟨w8.heap.size, 5, none⟩ (.slice none 0 0) := ⟨_, rfl⟩; rw [← hV]; have KV : Hid (Below w8.heap.size w8 V) := (by unfold Hid; rw [hV]; exact below_six KK9.out (Nat.le_refl _) _ _ _ _ _ _); clear hV))
    clear c0 c1 c2 c3 c4 c5
    have hsV : w.heap.size < V.heap.size := Nat.lt_of_lt_of_le hs8 KV.out.size
    have KW : Hid (Below w.heap.size w V) := below_and K8.out KV.out
    have BV := hid_as (B8H.out.below KV.out hs8)
    obtain ⟨c0, c1, c2, c3, c4, c5⟩ := BV.out
    have hneV : ¬ (V.heap.size = w.heap.size) := by omega
    have CP : Hid (∀ (W : World) (h : Below V.heap.size V W), Calls Try.prog 12 #[.slice (some ⟨gz, 0, none⟩) cs.length zc] W fun e w' => Below V.heap.size V w' ∧ Below W.heap.size W w' ∧ ∃ y, e = .returned y ∧ w'.ownsRow W.heap.size 5 1 y cs.length (u8s cs)) := by
      intro W h
      refine (copy_c (OZ.out.below (below_and KV.out h)) (by have := HC1.out; omega)).mono ?_
      rintro e w9 ⟨y, he, hy, k⟩
      exact ⟨below_and h k, k, y, he, hy⟩
    have OP : Hid (∀ (v : Value) (W : World) (h : Below V.heap.size V W) (hv : Sl W v (u8s (cs ++ ms))), Calls Try.prog 14 #[.agg #[.int .u8 a0, .int .u16 a1, .int .u16 a2, .int .u16 a3, av, aw], v] W fun e w' => Below V.heap.size V w' ∧ Below W.heap.size W w' ∧ ∃ q0 q1 q2 q3 bo nb bc ro nr rc, e = .returned (.tuple #[.agg #[.int .u8 q0, .int .u8 q1, .int .u16 q2, .int .u16 q3, .slice bo nb bc, .slice ro nr rc], .int .i64 0])) := by
      intro v W h hv
      refine (orep_r (HA.out.below (below_and KW.out h)) hv (bytes_app HCB.out hM) (by rw [List.length_append]; have := HC1.out; have := HN.out; have := HMM.out; omega) HFD.out).mono ?_
      intro e w9 hend
      obtain ⟨k9, he⟩ := HPP.out _ _ _ hend
      exact ⟨below_and h k9, k9, he⟩
    have SM := hid_as (fun (W : World) (h : Below V.heap.size V W) => HSM.out.below (below_and KW.out h))
    go_upto_region 19 with fail
    go_region_held3 (fun w' => w'.cell? ⟨w.heap.size, 0, none⟩ = some (.int .u8 a0) ∧ w'.cell? ⟨w.heap.size, 1, none⟩ = some (.int .u16 a1) ∧ w'.cell? ⟨w.heap.size, 2, none⟩ = some (.int .u16 a2) ∧ w'.cell? ⟨w.heap.size, 3, none⟩ = some (.int .u16 a3) ∧ w'.cell? ⟨w.heap.size, 4, none⟩ = some (av) ∧ w'.cell? ⟨w.heap.size, 5, none⟩ = some (aw)) (first | (simp [World.cell?_setCell_far, World.cell?_alloc_past, hsC, hneV, hneA, hneB, z0, z1, z2, z3, z4, z5]; done) | (simp [World.cell?_alloc_past, hsB, y0, y1, y2, y3, y4, y5]; done) | (simp [World.cell?_alloc_past, hsA, x0, x1, x2, x3, x4, x5]; done) | (simp [World.cell?_alloc_past, hsV, c0, c1, c2, c3, c4, c5]; done)) (first | (go_at_call 12; (with_reducible refine (CP.out _ ?_).mono ?_); (first | exact Below.refl _ _ | exact (Below.refl _ _).drew | exact below_new (Below.refl _ _) _ | exact below_new (Below.refl _ _).drew _ | exact (below_new (Below.refl _ _) _).drew); rintro e wA ⟨kkA, kA, y, rfl, ownA⟩; have hsA : w.heap.size < wA.heap.size := (Nat.lt_of_lt_of_le hsV kkA.size); have hneA : ¬ (wA.heap.size = w.heap.size) := (by omega); have KKA := hid_as kkA; obtain ⟨x0, x1, x2, x3, x4, x5⟩ := BV.out.below kkA hsV; have ltA := hid_as ownA.lt; (first | (have hA := hid_as (first_kept kA ownA)) | skip); have OWA := hid_as ownA; have SZA := hid_as kA.size; clear kA kkA ownA) | (refine step_append_sl rfl (.tmp 115) (.tmp 116) rfl _ _ (.slice so m c) cs ms rfl rfl (by first | exact OWA.out | exact OWA.out.alloc _) (by first | exact SM.out _ KKA.out | exact SM.out _ (below_new KKA.out _)) (by have := HC1.out; have := HN.out; have := HMM.out; omega) (by first | exact SZA.out | (have := SZA.out; rw [World.size_alloc]; omega)) ?_; intro y11 wB slB kB otB; have SLB := hid_as slB; have kkB : Below V.heap.size V wB := (Below.trans (by first | exact KKA.out | exact below_new KKA.out _) (Below.mono kB (by simp))); have KKB := hid_as kkB; have hsB : w.heap.size < wB.heap.size := (Nat.lt_of_lt_of_le hsV kkB.size); have hneB : ¬ (wB.heap.size = w.heap.size) := (by omega); obtain ⟨y0, y1, y2, y3, y4, y5⟩ := BV.out.below kkB hsV; (first | (have hA2 := hid_as ((otB _ hA.out.2.1 hA.out.2.2).trans hA.out.1)) | (have hA2 := hid_as ((otB _ (by rw [World.size_alloc]; exact Nat.lt_succ_self _) (by intro e; exact absurd (ltA.out _ e).2 (Nat.lt_irrefl _))).trans (heap_alloc_new wA (.cells #[.int .u8 0, .int .u8 0, .int .u16 0, .int .u16 0, .slice none 0 0, .slice none 0 0] 40)))) | skip); clear slB kB otB kkB) | (go_at_call 14; (with_reducible refine (OP.out _ _ ?_ ?_).mono ?_); (first | exact KKB.out | exact below_new KKB.out _); (first | exact SLB.out | exact SLB.out.below (below_new (Below.refl _ _) _)); rintro e wC ⟨kkC, kC, q0, q1, q2, q3, bo, nb, bc, ro, nr, rc, rfl⟩; have hsC : w.heap.size < wC.heap.size := (Nat.lt_of_lt_of_le hsV kkC.size); have KKC := hid_as kkC; obtain ⟨z0, z1, z2, z3, z4, z5⟩ := BV.out.below kkC hsV; (first | (have hq6 := hA2.out; have hb6 := block6 ((kC.block _ (Array.getElem?_eq_some_iff.1 hq6).1).trans hq6); obtain ⟨⟨v0, v1, v2, v3, v4, v5⟩, hfz⟩ := hb6; have f0 := hfz 0; have f1 := hfz 1; have f2 := hfz 2; have f3 := hfz 3; have f4 := hfz 4; have f5 := hfz 5; clear hfz) | (have hb6 := block6 ((kC.block _ (by simp)).trans (heap_alloc_new _ (.cells #[.int .u8 0, .int .u8 0, .int .u16 0, .int .u16 0, .slice none 0 0, .slice none 0 0] 40))); obtain ⟨⟨v0, v1, v2, v3, v4, v5⟩, hfz⟩ := hb6; have f0 := hfz 0; have f1 := hfz 1; have f2 := hfz 2; have f3 := hfz 3; have f4 := hfz 4; have f5 := hfz 5; clear hfz) | skip)))
    all_goals
      go_wp2
      go_ret
      have KC : Hid (Below w.heap.size w wC) := below_and KW.out KKC.out
      refine ⟨rfl, ?_⟩
      first
        | (with_reducible exact below_new KC.out _)
        | (with_reducible exact below_six KC.out (Nat.le_of_lt hsV) _ _ _ _ _ _)
        | (with_reducible exact below_six KC.out (Nat.le_of_lt hsA) _ _ _ _ _ _)
        | (with_reducible exact below_six KC.out (Nat.le_of_lt hsB) _ _ _ _ _ _)
end Go.Proofs.Ytehbbkdiekgpbab
