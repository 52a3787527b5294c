/- The walk of RetainPlays (stage 9). -/
import Derived.Test.YtoiadofoclgnoaaPL1
namespace Go.Proofs.Ytoiadofoclgnoaa
open Go.RowKit
open Pdu
set_option maxRecDepth 100000 in
set_option maxHeartbeats 40000000 in
theorem plays_at (size n : Int) (m c lb lo : Nat) (L : List Stp) (w : World) (hm : m = L.length) (hm80 : m ≤ 80) (hL : ∀ i x, L[i]? = some x → StepAt w lb lo i x) :
    Calls Try.prog 3 #[.int .i64 size, .int .i64 n, .slice (some ⟨lb, lo, none⟩) m c] w fun e w' => e = .returned (.bool true) ∧ Below w.heap.size w w' := by
  have HL := hid_as hL
  have HM := hid_as hm
  have d1 : ¬ (80 : Int) < (m : Int) := by omega
  clear hL hm
  have KN := hid_as (known_c w)
  obtain ⟨i0, hi, hz0, hz1', hz2'⟩ := info_parts Try.info64
  go_enter Try.func3, Try.ntmps3
  go_wp2_with fail
  with_reducible refine KN.out.mono ?_
  rintro e w1 ⟨rfl, k1⟩
  have K1 := hid_as k1
  have ST := hid_as (store_c size w1)
  clear KN k1
  go_wp2_with fail
  with_reducible refine ST.out.mono ?_
  rintro e w2 ⟨z, hz1, hz2, rfl, t2, k2⟩
  have RM := hid_as (room_c t2)
  rw [new_room hz1] at RM
  have T2 := hid_as t2
  have K2 := hid_as (below_and K1.out k2)
  have GZ : Hid (w.heap.size ≤ w1.heap.size) := K1.out.size
  have GY : Hid (w.heap.size ≤ w1.heap.size + 1) := Nat.le_succ_of_le K1.out.size
  clear ST t2 k2 K1
  generalize w1.heap.size + 1 = g at *
  generalize w1.heap.size = h at *
  obtain ⟨r, hr⟩ : ∃ r, r = (z - 36) / 8 := ⟨_, rfl⟩
  rw [← hr] at RM
  have hr1 : r ≤ 60 := by omega
  have HR := hid_as hr
  clear hr
  go_upto_region 6 with fail
  go_cut [1] from 39 to 44 (fun v wx => ∃ a : Nat, a ≤ r ∧ a ≤ 40 ∧ v = .int .i64 a ∧ Same w2 wx)
  case first =>
    go_wp2_with fail
    with_reducible refine RM.out.mono ?_
    rintro e w3 ⟨rfl, k3⟩
    have K3 := hid_as k3
    clear RM k3
    by_cases hl : (40 : Int) < (r : Int)
    · have PA := hid_as (fun W => place_i n 41 (by decide) (by decide) W)
      go_wp2_with fail
      with_reducible refine (PA.out _).mono ?_
      rintro e w4 ⟨⟨a, ha, rfl⟩, hw⟩
      subst w4
      clear PA
      go_wp2_with fail
      go_meet
      exact ⟨a, by omega, by omega, rfl, K3.out⟩
    · have PA := hid_as (fun W => place_i n (1 + (r : Int)) (by omega) (by omega) W)
      go_wp2_with fail
      with_reducible refine (PA.out _).mono ?_
      rintro e w4 ⟨⟨a, ha, rfl⟩, hw⟩
      subst w4
      clear PA
      go_wp2_with fail
      go_meet
      exact ⟨a, by omega, by omega, rfl, K3.out⟩
  case rest =>
  obtain ⟨a, har, ha5, rfl, k3⟩ := hcut
  have H3 : Hid (Hk w wc g h (SS.new 8 z) a 0 none) := ⟨T2.out.same k3, below_and K2.out k3.below, GY.out, GZ.out, sg_new (by decide) (by omega) (by have := HR.out; omega) (by omega)⟩
  clear RM T2 K2 k3 HR
  have OP := hid_as (H3.out.opn (ni := a) rfl rfl)
  go_wp2_with fail
  with_reducible refine OP.out.mono ?_
  rintro e w4 ⟨gj0, J0, v0, f0, rfl, op⟩
  obtain ⟨rfl, rfl⟩ := op.told
  have R0 : Hid (PlR w w4 gj0 g h a 0 none (.slice none 0 0) 0) := PlR.opened (gj := 0) op (fun x hx => by simp at hx) (show (-1 : Int) < 0 by decide) (Nat.le_refl _)
  clear OP op H3
  have NB := hid_as (fun (sd : Int) (W : World) => num_i sd a (ni := a) rfl W (by omega))
  go_wp2
  go_loopw [8, 12, 13, 14, 15, 16] (fun jv lv ld sv cv iv wr => ∃ (k gj ct : Nat) (o : Last), k ≤ m ∧ jv = .pointer (some ⟨gj, 0, none⟩) ∧ ld = .bool (isl o) ∧ sv = .int .u64 (scn o : Nat) ∧ cv = .int .u64 (ct : Nat) ∧ iv = .int .i64 k ∧ PlR w wr gj g h a k o lv ct) (fun _ _ _ _ _ iv _ => m - (intOf iv).toNat)
  case atStart => exact ⟨0, gj0, 0, none, by omega, rfl, rfl, rfl, rfl, rfl, R0.out⟩
  case round =>
    obtain ⟨k, gj, ct, o, hk, rfl, rfl, rfl, rfl, rfl, hR⟩ := hrel
    have RR := hid_as hR
    clear hR R0
    by_cases hkm : k < m
    · have hkm2 : (k : Int) < (m : Int) := by omega
      obtain ⟨x, hx⟩ : ∃ x, L[k]? = some x := ⟨_, List.getElem?_eq_getElem (by rw [← HM.out]; exact hkm)⟩
      obtain ⟨J, s, hj, hlft, hct⟩ := RR.out.ex
      have SA := (HL.out k x hx).keep hj.k
      obtain ⟨sa, sb, sc'⟩ := SA
      have KW := hid_as hj.k
      clear hx hj hlft hct J s
      obtain ⟨xa, xb, xc⟩ := x
      simp only at sa sb sc'
      go_upto_region 16 with fail
      obtain ⟨X, hX⟩ : ∃ X, X = wr.alloc (.cells #[.int .i64 xa, .int .i64 xb, .int .i64 xc] 35) := ⟨_, rfl⟩
      have kX : Below wr.heap.size wr X := by rw [hX]; exact below_new (Below.refl _ _) _
      have x0 : X.cell? ⟨wr.heap.size, 0, none⟩ = some (.int .i64 xa) := by rw [hX]; simp
      have x1 : X.cell? ⟨wr.heap.size, 1, none⟩ = some (.int .i64 xb) := by rw [hX]; simp
      have x2 : X.cell? ⟨wr.heap.size, 2, none⟩ = some (.int .i64 xc) := by rw [hX]; simp
      have RX := hid_as (RR.out.below kX)
      have BG : Hid (wr.heap.size ≠ g ∧ wr.heap.size ≠ h ∧ wr.heap.size ≠ gj) := by
        obtain ⟨J, s, hj, _, _⟩ := RR.out.ex
        have := hj.lts
        refine ⟨?_, ?_, ?_⟩ <;> omega
      rw [← hX]
      clear hX kX RR sa sb sc' KW
      generalize wr.heap.size = bx at *
      go_wp2_with fail
      with_reducible refine (NB.out _ _).mono ?_
      rintro e Y ⟨vn, rfl, owny, ky⟩
      generalize wrap64 (xb + (k : Int)) = sd at *
      have y0 := keep_cell ky x0
      have y1 := keep_cell ky x1
      have y2 := keep_cell ky x2
      have RY := hid_as (RX.out.below ky)
      have LTX : gj < X.heap.size ∧ g < X.heap.size ∧ h < X.heap.size := by
        obtain ⟨J, s, hj, _, _⟩ := RX.out.ex
        exact hj.lts
      have OY := hid_as (Kv.ofNew owny LTX.1 LTX.2.1 LTX.2.2)
      have VNB : Hid (∀ b, vn.ownBlock = some b → b < Y.heap.size) := fun b hb => (owny.lt b hb).2
      have RSC := hid_as RY.out.sc
      have CTB : Hid (ct ≤ k) := by
        obtain ⟨J, s, hj, _, hc⟩ := RY.out.ex
        have := hj.ld
        show ct ≤ k
        omega
      have WY : Hid (w.heap.size ≤ Y.heap.size) := by
        obtain ⟨J, s, hj, _, _⟩ := RY.out.ex
        exact hj.k.size
      clear ky x0 x1 x2 RX LTX owny
      by_cases hA : (0 : Int) ≤ xa ∧ xa ≤ 5
      · skip
        as_aux_lemma =>
        have hp : (0 : Int) ≤ xa := hA.1
        have hq : xa ≤ 5 := hA.2
        have dp : decide ((0 : Int) ≤ xa) = true := decide_eq_true hp
        have dq : decide (xa ≤ 5) = true := decide_eq_true hq
        obtain ⟨sn, hsn⟩ : ∃ sn, sn = scn o := ⟨_, rfl⟩
        have hsn2 : sn ≤ 80 := by have := RY.out.sc; omega
        obtain ⟨sp, hsp⟩ : ∃ sp, sp = sn + 1 := ⟨_, rfl⟩
        have hsp1 : (sn : Int) + 1 = (sp : Int) := by omega
        have hspw : IntKind.u64.wrap ((sn : Int) + 1) = (sp : Int) := by rw [IntKind.wrap_u64]; omega
        rw [← hsn]
        have HSN := hid_as hsn
        have HSP := hid_as hsp
        clear hsn hsp
        have OWN := hid_as OY.out.own
        go_upto_region 19 with fail
        go_cut [19] from 86 to 87 (fun v wx => ∃ (ai : Option Addr) (ci : Nat), v = .slice ai a ci ∧ wx.ownsRow Y.heap.size 2 1 v a (i64s (nbs sd a)) ∧ Below Y.heap.size Y wx)
        case first =>
          rcases own_shape OWN.out with ⟨rfl, ha0⟩ | ⟨gn, cn, rfl, _⟩
          · subst ha0
            go_wp2_with (at_builtin; refine wpList_append_own_none rfl _ _ 29 rfl Y.heap.size 2 i0 1 Try.underlying29 hi _ 0 [] rfl (World.ownsRow_nil ..) rfl ?_)
            go_meet
            exact ⟨none, 0, rfl, World.ownsRow_nil .., Below.refl _ _⟩
          · go_wp2_with (at_builtin; refine wpList_append_own _ rfl _ _ 29 rfl Y.heap.size 2 i0 (.int .i64 0) 1 8 Try.underlying29 hi hz0 hz1' hz2' rfl (by decide) _ 0 [] rfl (World.ownsRow_nil ..) ⟨gn, 0, none⟩ a cn (i64s (nbs sd a)) rfl (by rw [i64s_len, nbs_len, Nat.mul_one]) (fun j u hj => OWN.out.cells (g := gn) rfl j u hj) (i64s_one _) (by unfold maxLen; omega) (by omega) (Nat.le_refl _) ?_; intro v' w1' hown hgrow _)
            have ho : w1'.ownsRow Y.heap.size 2 1 v' a (i64s (nbs sd a)) := by simpa using hown
            have HO := hid_as ho
            have HB : Hid (Below Y.heap.size Y w1') := (Below.refl _ Y).grown hgrow (Nat.le_refl _) fun k hk => by cases (show (none : Option Nat) = some k from hk)
            clear hown hgrow ho
            go_meet
            obtain ⟨ao', c', rfl⟩ : ∃ ao c, v' = .slice ao a c := by have := (own_sl HO.out).shape; rw [i64s_len, nbs_len] at this; exact this
            exact ⟨ao', c', rfl, HO.out, HB.out⟩
        case rest =>
        obtain ⟨ai, ci, rfl, owni, ki⟩ := hcut
        have OI := hid_as owni
        have RC := hid_as (RY.out.below ki)
        have NC := hid_as (OY.out.below ki)
        have LTY : Hid (gj < Y.heap.size ∧ g < Y.heap.size ∧ h < Y.heap.size) := by
          obtain ⟨J, s, hj, _, _⟩ := RY.out.ex
          exact hj.lts
        obtain ⟨J, s, hj, hlft, hct⟩ := RC.out.ex
        have LY := hid_as (hj.lay0 (sc := sp) (sci := (sp : Int)) hlft rfl OI.out LTY.out.1 LTY.out.2.1 LTY.out.2.2 (nbs_len _ _) (nbs_ints _ _) (by omega) (by omega))
        have HCT := hid_as hct
        clear hj hlft hct owni RY OY
        go_wp2_with fail
        with_reducible refine LY.out.mono ?_
        rintro e w6 ⟨rfl, J6, s6, ly⟩
        have OI6 : Hid (w6.ownsRow Y.heap.size 2 1 (.slice ai a ci) a (i64s (nbs sd a))) := own64_only OI.out ly.b (not3 OI.out LTY.out.1 LTY.out.2.1 LTY.out.2.2)
        have NC6 : Hid (Kv w6 vn a (nbs sd a) [gj, g, h]) := NC.out.only ly.b
        have KY6 : Hid (Y.heap.size ≤ w6.heap.size) := Nat.le_trans ki.size ly.b.size
        have hnl : J6.laid = ct + 1 := by rw [ly.laid, HCT.out]
        have H6 := hid_as ly.hj
        have LF6 := hid_as ly.lft
        clear LY ly ki OI NC RC
        -- what follows once the numbers have been overwritten
        have FIN : Hid (∀ W, Below Y.heap.size w6 W → (∀ b, vn.ownBlock = some b → b < Y.heap.size) → PlR w W gj g h a (k + 1) (some (sp, nbs sd a)) vn (ct + 1)) := by
          intro W kW hvb
          have hlt := LTY.out
          refine ⟨⟨J6, s6, ⟨⟨H6.out.jr.st.heap (kW.block _ hlt.2.1) (kW.block _ hlt.2.2), ⟨(kW.block _ hlt.1).trans H6.out.jr.jn.box⟩, H6.out.jr.n1, H6.out.jr.n2, H6.out.jr.fit⟩, H6.out.k.trans (kW.mono WY.out), H6.out.j0, H6.out.g0, H6.out.h0, H6.out.sg, H6.out.dead, H6.out.jn, H6.out.set, H6.out.ld⟩, LF6.out, hnl⟩, fun x hx => ?_, ?_⟩
          · simp only [Option.some.injEq] at hx
            subst hx
            refine ⟨⟨NC6.out.own.1, ?_⟩, NC6.out.ne⟩
            rcases NC6.out.own.2 with h' | ⟨gn, cap, cur, e, hb, hg, r⟩
            · exact Or.inl h'
            · exact Or.inr ⟨gn, cap, cur, e, hb, (kW.block gn (hvb gn (by rw [e]; rfl))).trans hg, r⟩
          · show sp ≤ k + 1
            have := HSP.out
            have := HSN.out
            have := RSC.out
            omega
        rcases own_shape OI6.out with ⟨e0, ha0⟩ | ⟨gi, ci', e0, hgi⟩
        · simp only [Value.slice.injEq] at e0
          obtain ⟨rfl, hx0, rfl⟩ := e0
          have hna : ¬ (0 : Int) < (a : Int) := by omega
          clear hx0 ha0
          have RF := hid_as (FIN.out w6 (Below.refl _ _) VNB.out)
          clear FIN OI6
          go_wp2
          go_loopw [20] (fun iv wq => iv = .int .i64 0 ∧ wq = w6) (fun _ _ => 0)
          case atStart => exact ⟨rfl, rfl⟩
          case round =>
            obtain ⟨rfl, hwq⟩ := hrel
            subst hwq
            obtain ⟨J7, s7, hj7, hlft7, hct7⟩ := RF.out.ex
            have SC := hid_as hj7.scn
            have LTF := hid_as hj7.lts
            have RS := hid_as (fun (W : World) (q : Hj w W gj g h { J7 with scan := sp } s7 a (k + 1) (some (sp, nbs sd a))) (b : Only [gj] _ W) => (⟨⟨_, s7, q, hlft7, hct7⟩, fun x hx => (RF.out.own x hx).only (b.mono (by simp)), RF.out.sc⟩ : PlR w W gj g h a (k + 1) (some (sp, nbs sd a)) vn (ct + 1)))
            have HC7 := hid_as hct7
            clear hj7 hlft7 hct7
            obtain ⟨cp, hcp⟩ : ∃ cp, cp = ct + 1 := ⟨_, rfl⟩
            have hct9 : ct ≤ 80 := by
              have := CTB.out
              omega
            have hcp1 : (ct : Int) + 1 = (cp : Int) := by omega
            have hcpw : IntKind.u64.wrap ((ct : Int) + 1) = (cp : Int) := by rw [IntKind.wrap_u64]; omega
            rw [← hcp] at RS HC7
            clear hcp
            go_wp2_with fail
            with_reducible refine SC.out.mono ?_
            rintro e w8 ⟨rfl, h8, b8⟩
            have LD := hid_as h8.lad
            have R8 := hid_as (RS.out _ h8 b8)
            have e8 : ({ J7 with scan := sp } : JS).laid = cp := HC7.out
            rw [e8] at LD
            clear SC h8 b8 RS e8
            go_wp2_with fail
            with_reducible refine LD.out.mono ?_
            rintro e w9 ⟨rfl, hw⟩
            subst w9
            clear LD
            go_wp2
            go_roundw
            case rel => exact ⟨k + 1, gj, cp, (some (sp, nbs sd a)), by omega, rfl, rfl, by first | rfl | exact int_is rfl, rfl, by go_num, R8.out⟩
            case measure => simp [intOf]; omega
        · simp only [Value.slice.injEq] at e0
          obtain ⟨rfl, hx0, rfl⟩ := e0
          clear hx0
          have I0 := hid_as (InR.first OI6.out (nbs_len _ _))
          clear OI6
          go_wp2
          go_loopw [20] (fun iv wq => ∃ q : Nat, q ≤ a ∧ iv = .int .i64 q ∧ InR Y.heap.size gi a w6 wq) (fun iv _ => a - (intOf iv).toNat)
          case atStart => exact ⟨0, by omega, rfl, I0.out⟩
          case round =>
            obtain ⟨q, hq', rfl, hI⟩ := hrel
            have II := hid_as hI
            clear hI I0
            by_cases hqa : q < a
            · have hqa2 : (q : Int) < (a : Int) := by omega
              obtain ⟨y0, hy0⟩ := II.out.cl q hqa
              have hfz := II.out.fz q
              have I1 := hid_as (II.out.stp (y := 99) hqa hgi KY6.out)
              go_wp2
              go_roundw
              case rel => exact ⟨q + 1, by omega, by go_num, I1.out⟩
              case measure => simp [intOf]; omega
            · obtain rfl : a = q := by omega
              have RF := hid_as (FIN.out _ II.out.k VNB.out)
              clear FIN II
              obtain ⟨J7, s7, hj7, hlft7, hct7⟩ := RF.out.ex
              have SC := hid_as hj7.scn
              have LTF := hid_as hj7.lts
              have RS := hid_as (fun (W : World) (q : Hj w W gj g h { J7 with scan := sp } s7 a (k + 1) (some (sp, nbs sd a))) (b : Only [gj] _ W) => (⟨⟨_, s7, q, hlft7, hct7⟩, fun x hx => (RF.out.own x hx).only (b.mono (by simp)), RF.out.sc⟩ : PlR w W gj g h a (k + 1) (some (sp, nbs sd a)) vn (ct + 1)))
              have HC7 := hid_as hct7
              clear hj7 hlft7 hct7
              obtain ⟨cp, hcp⟩ : ∃ cp, cp = ct + 1 := ⟨_, rfl⟩
              have hct9 : ct ≤ 80 := by
                have := CTB.out
                omega
              have hcp1 : (ct : Int) + 1 = (cp : Int) := by omega
              have hcpw : IntKind.u64.wrap ((ct : Int) + 1) = (cp : Int) := by rw [IntKind.wrap_u64]; omega
              rw [← hcp] at RS HC7
              clear hcp
              go_wp2_with fail
              with_reducible refine SC.out.mono ?_
              rintro e w8 ⟨rfl, h8, b8⟩
              have LD := hid_as h8.lad
              have R8 := hid_as (RS.out _ h8 b8)
              have e8 : ({ J7 with scan := sp } : JS).laid = cp := HC7.out
              rw [e8] at LD
              clear SC h8 b8 RS e8
              go_wp2_with fail
              with_reducible refine LD.out.mono ?_
              rintro e w9 ⟨rfl, hw⟩
              subst w9
              clear LD
              go_wp2
              go_roundw
              case rel => exact ⟨k + 1, gj, cp, (some (sp, nbs sd a)), by omega, rfl, rfl, by first | rfl | exact int_is rfl, rfl, by go_num, R8.out⟩
              case measure => simp [intOf]; omega
      · by_cases h6 : xa = 6
        · skip
          as_aux_lemma =>
          subst h6
          obtain ⟨J, s, hj, hlft, hct⟩ := RY.out.ex
          have LTY := hid_as hj.lts
          have HOW := hid_as RY.out.own
          have HSC := hid_as RY.out.sc
          obtain ⟨sn, hsn⟩ : ∃ sn, sn = scn o := ⟨_, rfl⟩
          have hsn2 : sn ≤ 80 := by have := RY.out.sc; omega
          obtain ⟨sp, hsp⟩ : ∃ sp, sp = sn + 1 := ⟨_, rfl⟩
          have hsp1 : (sn : Int) + 1 = (sp : Int) := by omega
          have hspw : IntKind.u64.wrap ((sn : Int) + 1) = (sp : Int) := by rw [IntKind.wrap_u64]; omega
          rw [← hsn]
          have HSN := hid_as hsn
          have HSP := hid_as hsp
          clear hsn hsp
          have PC := hid_as (fun W => place_i xb 5 (by decide) (by decide) W)
          have CU := hid_as (fun (W : World) (q : Same Y W) (p : Nat) (hp : (p : Int) < 5) => (hj.below q.below).cut (p : Int) xc (by omega))
          have CA : Hid (∀ W, Same Y W → W.cell? ⟨bx, 1, none⟩ = some (.int .i64 xb) ∧ W.cell? ⟨bx, 2, none⟩ = some (.int .i64 xc)) := fun W q => ⟨keep_cell q.below y1, keep_cell q.below y2⟩
          have CB : Hid (∀ W W', Same Y W → Turn g W W' → W'.cell? ⟨bx, 1, none⟩ = some (.int .i64 xb) ∧ W'.cell? ⟨bx, 2, none⟩ = some (.int .i64 xc)) := fun W W' q t => by
            have hb : W'.heap[bx]? = W.heap[bx]? := t.block bx (by rw [q.heap]; exact lt_of_cell y1) (fun e => BG.out.1 (by simpa using e))
            exact ⟨(World.cell?_of_block (a := ⟨bx, 1, none⟩) hb).trans (CA.out W q).1, (World.cell?_of_block (a := ⟨bx, 2, none⟩) hb).trans (CA.out W q).2⟩
          have HLF := hid_as hlft
          clear hj hlft hct RY
          go_upto_region 31 with fail
          go_region_held3 (fun W => W.cell? ⟨bx, 1, none⟩ = some (.int .i64 xb) ∧ W.cell? ⟨bx, 2, none⟩ = some (.int .i64 xc)) (first | exact CA.out _ (Same.drew _) | exact CA.out _ (Same.refl _) | exact c5z) (first
            | (go_at_call 11; (with_reducible refine (PC.out _).mono ?_); rintro e w5 ⟨⟨pc, hpc, rfl⟩, hw⟩; subst w5)
            | (go_at_call 18; (with_reducible refine (CU.out _ ?_ _ hpc).mono ?_); (first | exact Same.drew _); rintro e w5 ⟨rfl, h5, t5⟩; have c5z := CB.out _ _ (Same.drew _) t5))
          have H5 := hid_as h5
          have O5 : Hid (Only [gj, g, h] Y w5) := ((Same.drew Y).only _).trans (Only.ofTurn t5 (by simp))
          have N5 : Hid (Kv w5 vn a (nbs sd a) [gj, g, h]) := OY.out.only O5.out
          have W5 : Hid (∀ x, o = some x → Kv w5 u12 a x.2 [gj, g, h]) := fun x hx => (HOW.out x hx).only O5.out
          have LY := hid_as (H5.out.lay_ne (sc := sp) (sci := (sp : Int)) rfl N5.out.own N5.out.ne (nbs_len _ _) (nbs_ints _ _) (by omega) (by omega))
          clear h5 t5 c5z PC CU CA CB HOW OY O5 H5 HLF
          go_wp2_with fail
          with_reducible refine LY.out.mono ?_
          rintro e w6 ⟨en, rfl, ly⟩
          have CS : ∃ (s6 : SS) (o6 : Last), Hk w w6 g h s6 a (k + 1) o6 ∧ ((o6 = some (sp, nbs sd a) ∧ (en = 0 ∨ en = 82)) ∨ (o = o6 ∧ en = 82)) ∧ Only [gj, g, h] w5 w6 := by
            rcases ly with ⟨J', s', he, hj, hl, hf, hz, hs, b, kp⟩ | ⟨s', o', he, hk, ho, hf, hz, b⟩
            · exact ⟨s', _, hj.hk, Or.inl ⟨rfl, Or.inl he⟩, b⟩
            · skip
              refine ⟨s', o', hk, ?_, b⟩
              rcases ho with ho | ho
              · exact Or.inr ⟨ho.symm, he⟩
              · exact Or.inl ⟨ho, Or.inr he⟩
          obtain ⟨s6, o6, h6', hc6, b6⟩ := CS
          have N6 := hid_as (N5.out.only b6)
          have W6 : Hid (∀ x, o = some x → Kv w6 u12 a x.2 [gj, g, h]) := fun x hx => (W5.out x hx).only b6
          have PW := hid_as h6'.pwr2
          clear LY ly h6' b6 N5 W5
          have hen : en = 0 ∨ en = 82 := by rcases hc6 with ⟨_, h⟩ | ⟨_, h⟩ <;> omega
          rcases hen with rfl | rfl
          · obtain ⟨rfl, _⟩ := hc6.resolve_right (fun q => by cases q.2)
            cases o with
            | none =>
              simp only [isl, scn] at *
              as_aux_lemma =>
              go_wp2_with fail
              with_reducible refine PW.out.mono ?_
              rintro e w7 ⟨rfl, h7, t7⟩
              have OP := hid_as (h7.opn (ni := a) rfl rfl)
              have N7 : Hid (Kv w7 vn a (nbs sd a) [gj, g, h]) := N6.out.only (Only.ofTurn t7 (by simp))
              have W7 : Hid (∀ x, (none : Last) = some x → Kv w7 u12 a x.2 [gj, g, h]) := fun x hx => (W6.out x hx).only (Only.ofTurn t7 (by simp))
              clear PW h7 t7 N6 W6
              go_wp2_with fail
              with_reducible refine OP.out.mono ?_
              rintro e w8 ⟨gk, Jk, vk, fk, rfl, op⟩
              obtain ⟨rfl, ownk⟩ := op.told
              have R8 : Hid (PlR w w8 gk g h a (k + 1) (some (sp, nbs sd a)) vn 0) := PlR.opened op (fun x hx => by simp only [Option.some.injEq] at hx; subst hx; exact N7.out) (show (-1 : Int) < 0 by decide) (by show sp ≤ k + 1; have := HSP.out; have := HSN.out; have := HSC.out; omega)
              have N8 := N7.out.below op.b
              have OK8 := hid_as ownk
              have NU : Hid (Calls Try.prog 20 #[vk, vn] w8 fun e w' => e = .returned (.bool true) ∧ Same w8 w') := by
                have := nums_told ownk N8.own (by rw [nbs_len]; omega)
                rwa [decide_eq_true rfl] at this
              clear OP op ownk N8 N7 W7
              go_wp2_with fail
              with_reducible refine NU.out.mono ?_
              rintro e w9 ⟨rfl, k9⟩
              have R9 := hid_as (R8.out.below k9.below)
              have OK9 := hid_as (own64_below OK8.out k9.below)
              clear NU k9 R8 OK8
              obtain ⟨J9, s9, hj9, hlft9, hct9⟩ := R9.out.ex
              have LT9 := hid_as hj9.lts
              have SC := hid_as hj9.scn
              have RS := hid_as (fun (W : World) (q : Hj w W gk g h { J9 with scan := sp } s9 a (k + 1) (some (sp, nbs sd a))) (b : Only [gk] w9 W) => (⟨⟨_, s9, q, hlft9, hct9⟩, fun x hx => (R9.out.own x hx).only (b.mono (by simp)), R9.out.sc⟩ : PlR w W gk g h a (k + 1) (some (sp, nbs sd a)) vn 0))
              clear hj9 hlft9 hct9
              go_wp2_with fail
              with_reducible refine SC.out.mono ?_
              rintro e w10 ⟨rfl, h10, b10⟩
              have R10 := hid_as (RS.out _ h10 b10)
              clear SC h10 b10 RS R9 OK9
              go_wp2
              go_roundw
              case rel => exact ⟨k + 1, gk, 0, (some (sp, nbs sd a)), by omega, rfl, rfl, by first | rfl | exact int_is rfl, rfl, by go_num, R10.out⟩
              case measure => simp [intOf]; omega
            | some y =>
              simp only [isl, scn] at *
              as_aux_lemma =>
              go_wp2_with fail
              with_reducible refine PW.out.mono ?_
              rintro e w7 ⟨rfl, h7, t7⟩
              have OP := hid_as (h7.opn (ni := a) rfl rfl)
              have N7 : Hid (Kv w7 vn a (nbs sd a) [gj, g, h]) := N6.out.only (Only.ofTurn t7 (by simp))
              have W7 : Hid (∀ x, (some y : Last) = some x → Kv w7 u12 a x.2 [gj, g, h]) := fun x hx => (W6.out x hx).only (Only.ofTurn t7 (by simp))
              clear PW h7 t7 N6 W6
              go_wp2_with fail
              with_reducible refine OP.out.mono ?_
              rintro e w8 ⟨gk, Jk, vk, fk, rfl, op⟩
              obtain ⟨rfl, ownk⟩ := op.told
              have R8 : Hid (PlR w w8 gk g h a (k + 1) (some (sp, nbs sd a)) vn 0) := PlR.opened op (fun x hx => by simp only [Option.some.injEq] at hx; subst hx; exact N7.out) (show (-1 : Int) < 0 by decide) (by show sp ≤ k + 1; have := HSP.out; have := HSN.out; have := HSC.out; omega)
              have N8 := N7.out.below op.b
              have OK8 := hid_as ownk
              have NU : Hid (Calls Try.prog 20 #[vk, vn] w8 fun e w' => e = .returned (.bool true) ∧ Same w8 w') := by
                have := nums_told ownk N8.own (by rw [nbs_len]; omega)
                rwa [decide_eq_true rfl] at this
              have V8 := hid_as ((W7.out y rfl).newj op.b op.j1)
              have VKB : Hid (∀ b, vk.ownBlock = some b → b ≠ gk) := own_ne_j ownk op.hj.jr.jn
              clear OP op ownk N8 N7 W7
              go_wp2_with fail
              with_reducible refine NU.out.mono ?_
              rintro e w9 ⟨rfl, k9⟩
              have R9 := hid_as (R8.out.below k9.below)
              have OK9 := hid_as (own64_below OK8.out k9.below)
              have V9 := hid_as (V8.out.below k9.below)
              clear V8
              clear NU k9 R8 OK8
              obtain ⟨J9, s9, hj9, hlft9, hct9⟩ := R9.out.ex
              have LT9 := hid_as hj9.lts
              have SC := hid_as hj9.scn
              have RS := hid_as (fun (W : World) (q : Hj w W gk g h { J9 with scan := sp } s9 a (k + 1) (some (sp, nbs sd a))) (b : Only [gk] w9 W) => (⟨⟨_, s9, q, hlft9, hct9⟩, fun x hx => (R9.out.own x hx).only (b.mono (by simp)), R9.out.sc⟩ : PlR w W gk g h a (k + 1) (some (sp, nbs sd a)) vn 0))
              clear hj9 hlft9 hct9
              go_wp2_with fail
              with_reducible refine SC.out.mono ?_
              rintro e w10 ⟨rfl, h10, b10⟩
              have R10 := hid_as (RS.out _ h10 b10)
              have V10 := V9.out.only (b10.mono (T := [gk, g, h]) (by simp))
              have OK10 : w10.ownsRow 0 2 1 vk a (i64s (nbs sd a)) := by
                have o9 := own_base OK9.out (Nat.zero_le _)
                have e9 : (nbs sd a).length = a := nbs_len _ _
                rw [e9] at o9
                exact own64_only o9 b10 (fun b hb hm => by
                  simp only [List.mem_cons, List.not_mem_nil, or_false] at hm
                  exact VKB.out b hb hm)
              have NU := hid_as (nums_told OK10 V10.own (by rw [nbs_len]; omega))
              clear SC h10 b10 RS R9 OK9 V9 V10 OK10
              go_wp2_with fail
              with_reducible refine NU.out.mono ?_
              rintro e w11 ⟨rfl, k11⟩
              have R11 := hid_as (R10.out.below k11.below)
              clear NU k11 R10
              generalize decide (nbs sd a = y.2) = d
              cases d with
              | true =>
                go_wp2
                go_roundw
                case rel => exact ⟨k + 1, gk, 0, (some (sp, nbs sd a)), by omega, rfl, rfl, by first | rfl | exact int_is rfl, rfl, by go_num, R11.out⟩
                case measure => simp [intOf]; omega
              | false =>
                go_wp2
                go_roundw
                case rel => exact ⟨k + 1, gk, 0, (some (sp, nbs sd a)), by omega, rfl, rfl, by first | rfl | exact int_is rfl, rfl, by go_num, R11.out⟩
                case measure => simp [intOf]; omega
          · rcases hc6 with ⟨rfl, _⟩ | ⟨rfl, _⟩
            · skip
              cases o with
              | none =>
                simp only [isl, scn] at *
                as_aux_lemma =>
                go_wp2_with fail
                with_reducible refine PW.out.mono ?_
                rintro e w7 ⟨rfl, h7, t7⟩
                have OP := hid_as (h7.opn (ni := a) rfl rfl)
                have N7 : Hid (Kv w7 vn a (nbs sd a) [gj, g, h]) := N6.out.only (Only.ofTurn t7 (by simp))
                have W7 : Hid (∀ x, (none : Last) = some x → Kv w7 u12 a x.2 [gj, g, h]) := fun x hx => (W6.out x hx).only (Only.ofTurn t7 (by simp))
                clear PW h7 t7 N6 W6
                go_wp2_with fail
                with_reducible refine OP.out.mono ?_
                rintro e w8 ⟨gk, Jk, vk, fk, rfl, op⟩
                obtain ⟨rfl, ownk⟩ := op.told
                have R8 : Hid (PlR w w8 gk g h a (k + 1) (some (sp, nbs sd a)) vn 0) := PlR.opened op (fun x hx => by simp only [Option.some.injEq] at hx; subst hx; exact N7.out) (show (-1 : Int) < 0 by decide) (by show sp ≤ k + 1; have := HSP.out; have := HSN.out; have := HSC.out; omega)
                have N8 := N7.out.below op.b
                have OK8 := hid_as ownk
                have NU : Hid (Calls Try.prog 20 #[vk, vn] w8 fun e w' => e = .returned (.bool true) ∧ Same w8 w') := by
                  have := nums_told ownk N8.own (by rw [nbs_len]; omega)
                  rwa [decide_eq_true rfl] at this
                clear OP op ownk N8 N7 W7
                go_wp2_with fail
                with_reducible refine NU.out.mono ?_
                rintro e w9 ⟨rfl, k9⟩
                have R9 := hid_as (R8.out.below k9.below)
                have OK9 := hid_as (own64_below OK8.out k9.below)
                clear NU k9 R8 OK8
                obtain ⟨J9, s9, hj9, hlft9, hct9⟩ := R9.out.ex
                have LT9 := hid_as hj9.lts
                have SC := hid_as hj9.scn
                have RS := hid_as (fun (W : World) (q : Hj w W gk g h { J9 with scan := sp } s9 a (k + 1) (some (sp, nbs sd a))) (b : Only [gk] w9 W) => (⟨⟨_, s9, q, hlft9, hct9⟩, fun x hx => (R9.out.own x hx).only (b.mono (by simp)), R9.out.sc⟩ : PlR w W gk g h a (k + 1) (some (sp, nbs sd a)) vn 0))
                clear hj9 hlft9 hct9
                go_wp2_with fail
                with_reducible refine SC.out.mono ?_
                rintro e w10 ⟨rfl, h10, b10⟩
                have R10 := hid_as (RS.out _ h10 b10)
                clear SC h10 b10 RS R9 OK9
                go_wp2
                go_roundw
                case rel => exact ⟨k + 1, gk, 0, (some (sp, nbs sd a)), by omega, rfl, rfl, by first | rfl | exact int_is rfl, rfl, by go_num, R10.out⟩
                case measure => simp [intOf]; omega
              | some y =>
                simp only [isl, scn] at *
                as_aux_lemma =>
                go_wp2_with fail
                with_reducible refine PW.out.mono ?_
                rintro e w7 ⟨rfl, h7, t7⟩
                have OP := hid_as (h7.opn (ni := a) rfl rfl)
                have N7 : Hid (Kv w7 vn a (nbs sd a) [gj, g, h]) := N6.out.only (Only.ofTurn t7 (by simp))
                have W7 : Hid (∀ x, (some y : Last) = some x → Kv w7 u12 a x.2 [gj, g, h]) := fun x hx => (W6.out x hx).only (Only.ofTurn t7 (by simp))
                clear PW h7 t7 N6 W6
                go_wp2_with fail
                with_reducible refine OP.out.mono ?_
                rintro e w8 ⟨gk, Jk, vk, fk, rfl, op⟩
                obtain ⟨rfl, ownk⟩ := op.told
                have R8 : Hid (PlR w w8 gk g h a (k + 1) (some (sp, nbs sd a)) vn 0) := PlR.opened op (fun x hx => by simp only [Option.some.injEq] at hx; subst hx; exact N7.out) (show (-1 : Int) < 0 by decide) (by show sp ≤ k + 1; have := HSP.out; have := HSN.out; have := HSC.out; omega)
                have N8 := N7.out.below op.b
                have OK8 := hid_as ownk
                have NU : Hid (Calls Try.prog 20 #[vk, vn] w8 fun e w' => e = .returned (.bool true) ∧ Same w8 w') := by
                  have := nums_told ownk N8.own (by rw [nbs_len]; omega)
                  rwa [decide_eq_true rfl] at this
                have V8 := hid_as ((W7.out y rfl).newj op.b op.j1)
                have VKB : Hid (∀ b, vk.ownBlock = some b → b ≠ gk) := own_ne_j ownk op.hj.jr.jn
                clear OP op ownk N8 N7 W7
                go_wp2_with fail
                with_reducible refine NU.out.mono ?_
                rintro e w9 ⟨rfl, k9⟩
                have R9 := hid_as (R8.out.below k9.below)
                have OK9 := hid_as (own64_below OK8.out k9.below)
                have V9 := hid_as (V8.out.below k9.below)
                clear V8
                clear NU k9 R8 OK8
                obtain ⟨J9, s9, hj9, hlft9, hct9⟩ := R9.out.ex
                have LT9 := hid_as hj9.lts
                have SC := hid_as hj9.scn
                have RS := hid_as (fun (W : World) (q : Hj w W gk g h { J9 with scan := sp } s9 a (k + 1) (some (sp, nbs sd a))) (b : Only [gk] w9 W) => (⟨⟨_, s9, q, hlft9, hct9⟩, fun x hx => (R9.out.own x hx).only (b.mono (by simp)), R9.out.sc⟩ : PlR w W gk g h a (k + 1) (some (sp, nbs sd a)) vn 0))
                clear hj9 hlft9 hct9
                go_wp2_with fail
                with_reducible refine SC.out.mono ?_
                rintro e w10 ⟨rfl, h10, b10⟩
                have R10 := hid_as (RS.out _ h10 b10)
                have V10 := V9.out.only (b10.mono (T := [gk, g, h]) (by simp))
                have OK10 : w10.ownsRow 0 2 1 vk a (i64s (nbs sd a)) := by
                  have o9 := own_base OK9.out (Nat.zero_le _)
                  have e9 : (nbs sd a).length = a := nbs_len _ _
                  rw [e9] at o9
                  exact own64_only o9 b10 (fun b hb hm => by
                    simp only [List.mem_cons, List.not_mem_nil, or_false] at hm
                    exact VKB.out b hb hm)
                have NU := hid_as (nums_told OK10 V10.own (by rw [nbs_len]; omega))
                clear SC h10 b10 RS R9 OK9 V9 V10 OK10
                go_wp2_with fail
                with_reducible refine NU.out.mono ?_
                rintro e w11 ⟨rfl, k11⟩
                have R11 := hid_as (R10.out.below k11.below)
                clear NU k11 R10
                generalize decide (nbs sd a = y.2) = d
                cases d with
                | true =>
                  go_wp2
                  go_roundw
                  case rel => exact ⟨k + 1, gk, 0, (some (sp, nbs sd a)), by omega, rfl, rfl, by first | rfl | exact int_is rfl, rfl, by go_num, R11.out⟩
                  case measure => simp [intOf]; omega
                | false =>
                  go_wp2
                  go_roundw
                  case rel => exact ⟨k + 1, gk, 0, (some (sp, nbs sd a)), by omega, rfl, rfl, by first | rfl | exact int_is rfl, rfl, by go_num, R11.out⟩
                  case measure => simp [intOf]; omega
            · skip
              cases o with
              | none =>
                simp only [isl, scn] at *
                as_aux_lemma =>
                go_wp2_with fail
                with_reducible refine PW.out.mono ?_
                rintro e w7 ⟨rfl, h7, t7⟩
                have OP := hid_as (h7.opn (ni := a) rfl rfl)
                have N7 : Hid (Kv w7 vn a (nbs sd a) [gj, g, h]) := N6.out.only (Only.ofTurn t7 (by simp))
                have W7 : Hid (∀ x, (none : Last) = some x → Kv w7 u12 a x.2 [gj, g, h]) := fun x hx => (W6.out x hx).only (Only.ofTurn t7 (by simp))
                clear PW h7 t7 N6 W6
                go_wp2_with fail
                with_reducible refine OP.out.mono ?_
                rintro e w8 ⟨gk, Jk, vk, fk, rfl, op⟩
                obtain ⟨rfl, rfl⟩ := op.told
                have R8 : Hid (PlR w w8 gk g h a (k + 1) none u12 0) := PlR.opened (gj := gj) op (fun x hx => by simp at hx) (show (-1 : Int) < 0 by decide) (Nat.zero_le _)
                clear OP op N7 W7
                go_wp2
                go_roundw
                case rel => exact ⟨k + 1, gk, 0, none, by omega, rfl, rfl, by first | rfl | exact int_is rfl, rfl, by go_num, R8.out⟩
                case measure => simp [intOf]; omega
              | some y =>
                simp only [isl, scn] at *
                as_aux_lemma =>
                go_wp2_with fail
                with_reducible refine PW.out.mono ?_
                rintro e w7 ⟨rfl, h7, t7⟩
                have OP := hid_as (h7.opn (ni := a) rfl rfl)
                have N7 : Hid (Kv w7 vn a (nbs sd a) [gj, g, h]) := N6.out.only (Only.ofTurn t7 (by simp))
                have W7 : Hid (∀ x, (some y : Last) = some x → Kv w7 u12 a x.2 [gj, g, h]) := fun x hx => (W6.out x hx).only (Only.ofTurn t7 (by simp))
                clear PW h7 t7 N6 W6
                go_wp2_with fail
                with_reducible refine OP.out.mono ?_
                rintro e w8 ⟨gk, Jk, vk, fk, rfl, op⟩
                obtain ⟨rfl, ownk⟩ := op.told
                have R8 : Hid (PlR w w8 gk g h a (k + 1) (some y) u12 0) := PlR.opened op W7.out (show (-1 : Int) < 0 by decide) (by have := HSC.out; show y.1 ≤ k + 1; have h2 : scn (some y) = y.1 := rfl; omega)
                have N8 := N7.out.below op.b
                have V8 := hid_as ((W7.out y rfl).newj op.b op.j1)
                have VKB : Hid (∀ b, vk.ownBlock = some b → b ≠ gk) := own_ne_j ownk op.hj.jr.jn
                have hyl : y.2.length = a := (own64_len V8.out.own).symm
                rw [hyl] at ownk
                have OK8 := hid_as (own_base ownk (Nat.zero_le _))
                have NU := hid_as (nums_told ownk N8.own (by omega))
                clear OP op ownk N8 N7 W7
                go_wp2_with fail
                with_reducible refine NU.out.mono ?_
                rintro e w9 ⟨rfl, k9⟩
                have R9 := hid_as (R8.out.below k9.below)
                have OK9 := hid_as (own64_below OK8.out k9.below)
                have V9 := hid_as (V8.out.below k9.below)
                clear NU k9 R8 OK8 V8
                obtain ⟨J9, s9, hj9, hlft9, hct9⟩ := R9.out.ex
                have SC := hid_as hj9.scn
                have RS := hid_as (fun (W : World) (J' : JS) (q : Hj w W gk g h J' s9 a (k + 1) (some y)) (hl : J'.laid = 0) (b : Only [gk] w9 W) => (⟨⟨_, s9, q, hlft9, hl⟩, fun x hx => (R9.out.own x hx).only (b.mono (by simp)), R9.out.sc⟩ : PlR w W gk g h a (k + 1) (some y) u12 0))
                have HC9 := hid_as hct9
                have H9 := hid_as hj9
                have OKF := hid_as (fun (W : World) (b : Only [gk] w9 W) => own64_only OK9.out b (fun b hb hm => by
                  simp only [List.mem_cons, List.not_mem_nil, or_false] at hm
                  exact VKB.out b hb hm))
                have VF := hid_as (fun (W : World) (b : Only [gk] w9 W) => V9.out.only (b.mono (T := [gk, g, h]) (by simp)))
                clear hj9 hlft9 hct9 OK9 V9
                have hne : ((y.1 : Int) == (sp : Int)) = false := by
                  rw [beq_eq_false_iff_ne]
                  have h1 := HSP.out
                  have h2 : sn = y.1 := HSN.out
                  omega
                generalize decide (y.2 = nbs sd a) = d
                cases d with
                | true =>
                  go_wp2_with fail
                  with_reducible refine SC.out.mono ?_
                  rintro e w10 ⟨rfl, h10, b10⟩
                  have NU : Hid (Calls Try.prog 20 #[vk, u12] w10 fun e w' => e = .returned (.bool true) ∧ Same w10 w') := by
                    have := nums_told (OKF.out _ b10) (VF.out _ b10).own (by omega)
                    rwa [decide_eq_true rfl] at this
                  have H10 := hid_as h10
                  have B10 := hid_as b10
                  clear SC h10 b10
                  go_wp2_with fail
                  with_reducible refine NU.out.mono ?_
                  rintro e w11 ⟨rfl, k11⟩
                  have SC2 := hid_as (H10.out.below k11.below).scn
                  have B11 : Hid (Only [gk] w9 w11) := B10.out.trans (Only.ofBelow k11.below)
                  clear NU k11
                  go_wp2_with fail
                  with_reducible refine SC2.out.mono ?_
                  rintro e w12 ⟨rfl, h12, b12⟩
                  have R12 := hid_as (RS.out _ _ h12 HC9.out (B11.out.trans b12))
                  clear SC2 h12 b12 RS
                  go_wp2
                  go_roundw
                  case rel => exact ⟨k + 1, gk, 0, (some y), by omega, rfl, rfl, by first | rfl | exact int_is rfl, rfl, by go_num, R12.out⟩
                  case measure => simp [intOf]; omega
                | false =>
                  have NU : Hid (Calls Try.prog 20 #[vk, u12] w9 fun e w' => e = .returned (.bool true) ∧ Same w9 w') := by
                    have := nums_told (OKF.out _ (Only.refl _ _)) (VF.out _ (Only.refl _ _)).own (by omega)
                    rwa [decide_eq_true rfl] at this
                  clear SC
                  go_wp2_with fail
                  with_reducible refine NU.out.mono ?_
                  rintro e w11 ⟨rfl, k11⟩
                  have SC2 := hid_as (H9.out.below k11.below).scn
                  have B11 : Hid (Only [gk] w9 w11) := Only.ofBelow k11.below
                  clear NU k11
                  go_wp2_with fail
                  with_reducible refine SC2.out.mono ?_
                  rintro e w12 ⟨rfl, h12, b12⟩
                  have R12 := hid_as (RS.out _ _ h12 HC9.out (B11.out.trans b12))
                  clear SC2 h12 b12 RS
                  go_wp2
                  go_roundw
                  case rel => exact ⟨k + 1, gk, 0, (some y), by omega, rfl, rfl, by first | rfl | exact int_is rfl, rfl, by go_num, R12.out⟩
                  case measure => simp [intOf]; omega
        · by_cases h7 : xa = 7
          · skip
            as_aux_lemma =>
            subst h7
            obtain ⟨J, s, hj, hlft, hct⟩ := RY.out.ex
            have OP := hid_as (hj.hk.opn (ni := a) hj.dead rfl)
            have HLF := hid_as hlft
            have HOW := hid_as RY.out.own
            have HSC := hid_as RY.out.sc
            clear hj hlft hct RY
            cases o with
            | none =>
              simp only [isl, scn] at *
              go_wp2_with fail
              with_reducible refine OP.out.mono ?_
              rintro e w6 ⟨gk, Jk, vk, fk, rfl, op⟩
              obtain ⟨rfl, rfl⟩ := op.told
              have R6 := hid_as (PlR.opened op HOW.out HLF.out HSC.out).rise
              clear OP op
              go_wp2
              go_roundw
              case rel => exact ⟨k + 1, gk, 0, none, by omega, rfl, rfl, by first | rfl | exact int_is rfl, rfl, by go_num, R6.out⟩
              case measure => simp [intOf]; omega
            | some y =>
              simp only [isl, scn] at *
              go_wp2_with fail
              with_reducible refine OP.out.mono ?_
              rintro e w6 ⟨gk, Jk, vk, fk, rfl, op⟩
              obtain ⟨rfl, ownk⟩ := op.told
              have R6 := hid_as (PlR.opened op HOW.out HLF.out HSC.out)
              have KV := (HOW.out y rfl).below op.b
              have NU : Hid (Calls Try.prog 20 #[vk, u12] w6 fun e w' => e = .returned (.bool true) ∧ Same w6 w') := by
                have hy : y.2.length = a := (own64_len KV.own).symm
                have := nums_told ownk KV.own (by omega)
                rwa [decide_eq_true rfl] at this
              clear OP op KV ownk
              go_wp2_with fail
              with_reducible refine NU.out.mono ?_
              rintro e w7 ⟨rfl, k7⟩
              have R7 := hid_as (R6.out.below k7.below)
              clear NU k7 R6
              obtain ⟨J7, s7, hj7, hlft7, hct7⟩ := R7.out.ex
              have SC := hid_as hj7.scn
              have RS := hid_as (fun (W : World) (q : Hj w W gk g h { J7 with scan := y.1 } s7 a k (some y)) (b : Only [gk] w7 W) => (⟨⟨_, s7, q, hlft7, hct7⟩, fun x hx => (R7.out.own x hx).only (b.mono (by simp)), R7.out.sc⟩ : PlR w W gk g h a k (some y) u12 0))
              clear hj7 hlft7 hct7
              go_wp2_with fail
              with_reducible refine SC.out.mono ?_
              rintro e w8 ⟨rfl, h8, b8⟩
              have R8 := hid_as (RS.out _ h8 b8).rise
              clear SC h8 b8 RS R7
              go_wp2
              go_roundw
              case rel => exact ⟨k + 1, gk, 0, (some y), by omega, rfl, rfl, by first | rfl | exact int_is rfl, rfl, by go_num, R8.out⟩
              case measure => simp [intOf]; omega
          · skip
            as_aux_lemma =>
            have R9 := hid_as RY.out.rise
            have da : (decide ((0 : Int) ≤ xa) && decide (xa ≤ 5)) = false := by
              rw [Bool.and_eq_false_iff, decide_eq_false_iff_not, decide_eq_false_iff_not]
              omega
            have h6 : (xa == 6) = false := by rw [beq_eq_false_iff_ne]; omega
            have h7 : (xa == 7) = false := by rw [beq_eq_false_iff_ne]; omega
            by_cases hp : (0 : Int) ≤ xa
            · have hq : ¬ xa ≤ 5 := by omega
              have dp : decide ((0 : Int) ≤ xa) = true := decide_eq_true hp
              have dq : decide (xa ≤ 5) = false := decide_eq_false hq
              go_wp2
              go_roundw
              case rel => exact ⟨k + 1, gj, ct, o, by omega, rfl, rfl, by first | rfl | exact int_is rfl, rfl, by go_num, R9.out⟩
              case measure => simp [intOf]; omega
            · have dp : decide ((0 : Int) ≤ xa) = false := decide_eq_false hp
              go_wp2
              go_roundw
              case rel => exact ⟨k + 1, gj, ct, o, by omega, rfl, rfl, by first | rfl | exact int_is rfl, rfl, by go_num, R9.out⟩
              case measure => simp [intOf]; omega
    · obtain rfl : k = m := by omega
      obtain ⟨J, s, hj, hlft, hct⟩ := RR.out.ex
      have KW := hid_as hj.k
      clear hj hlft hct J s
      go_wp2
      go_ret
      exact ⟨rfl, KW.out⟩
end Go.Proofs.Ytoiadofoclgnoaa
