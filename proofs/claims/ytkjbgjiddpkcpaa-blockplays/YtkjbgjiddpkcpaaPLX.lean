/- The walk of BlockPlays (stage 8). -/
import Derived.Test.YtkjbgjiddpkcpaaPL3
namespace Go.Proofs.Ytkjbgjiddpkcpaa
open Go.RowKit
open Pdu
/-- Behind I steps. -/
def PI (w W : World) (z I : Nat) (sv rv : Value) : Prop := ∃ g h r q s t, sv = .pointer (some ⟨g, 0, none⟩) ∧ rv = .pointer (some ⟨r, 0, none⟩) ∧ PJ w W g h r q s t ∧ Sim s t ∧ s.sz = z ∧ s.n ≤ I
theorem c123 : Bytes [1, 2, 3] := by
  intro x hx
  simp at hx
  omega
set_option maxRecDepth 100000 in
set_option maxHeartbeats 8000000 in
theorem plays_w (nb sz n c : Nat) (x0 x1 : Int) (ao : Option Addr) (L : List Stp) (w : World) (hb : (x0 < 1 ∧ (nb : Int) = 1) ∨ (64 < x0 ∧ (nb : Int) = 64) ∨ (1 ≤ x0 ∧ x0 ≤ 64 ∧ (nb : Int) = x0)) (hz : (x1 < 16 ∧ (sz : Int) = 16) ∨ (300 < x1 ∧ (sz : Int) = 300) ∨ (16 ≤ x1 ∧ x1 ≤ 300 ∧ (sz : Int) = x1)) (hn : n = L.length) (hn9 : n ≤ 9223372036854775807) (hbig : ∀ x ∈ L, x.b.length ≤ 140737488355328)
    (hF : 0 < n → ∃ lb lo, ao = some ⟨lb, lo, none⟩ ∧ ∀ i x, L[i]? = some x → StepAt w lb lo i x) :
    Calls Try.prog 3 #[.int .i64 x0, .int .i64 x1, .slice ao n c] w fun e w' => e = .returned (.bool true) ∧ Below w.heap.size w w' := by
  have X := hid_as (known_law w)
  have HF := hid_as hF
  have HN := hid_as hn
  have LI := hid_as (fun (W : World) (k : Below w.heap.size w W) => light_c n c ao L W hn hn9 hbig (fun h0 => by
    obtain ⟨lb, lo, e, f⟩ := hF h0
    exact ⟨lb, lo, e, fun i x hx => (f i x hx).below k⟩))
  have h1 : 16 ≤ sz ∧ sz ≤ 300 := by omega
  have h2 : 1 ≤ nb ∧ nb ≤ 64 := by omega
  have HB := hid_as hb
  have HZ := hid_as hz
  clear hF hn hbig hb hz
  go_enter Try.func3, Try.ntmps3
  go_wp2_with fail
  refine X.out.mono ?_
  rintro e w1 ⟨rfl, k1⟩
  have K1 := hid_as k1
  have LL := hid_as (LI.out w1 k1)
  clear k1 X LI
  go_wp2_with fail
  refine LL.out.mono ?_
  rintro e wx ⟨⟨lb, rfl, hlb⟩, hw⟩
  subst wx
  clear LL
  cases lb
  case false =>
    go_wp2
    go_ret
    exact ⟨rfl, K1.out⟩
  obtain ⟨hn200, hall⟩ := hlb rfl
  have HALL := hid_as hall
  clear hlb hall
  go_upto_if 24 with fail
  go_cut [1] from 23 to 24 (fun v wx => (∃ z : Int, v = .int .i64 z ∧ ((z < 16 ∧ (sz : Int) = 16) ∨ (4096 < z ∧ (sz : Int) = 4096) ∨ (16 ≤ z ∧ z ≤ 4096 ∧ (sz : Int) = z))) ∧ wx = w1)
  case first =>
    by_cases h3 : 300 < x1
    · have e3 : (sz : Int) = 300 := by have := HZ.out; omega
      have E3 := hid_as e3
      clear e3 HZ
      go_wp2
      go_meet
      case rel => exact ⟨⟨300, rfl, Or.inr (Or.inr ⟨by decide, by decide, E3.out⟩)⟩, rfl⟩
    · have HZ2 : Hid ((x1 < 16 ∧ (sz : Int) = 16) ∨ (4096 < x1 ∧ (sz : Int) = 4096) ∨ (16 ≤ x1 ∧ x1 ≤ 4096 ∧ (sz : Int) = x1)) := by
        have := HZ.out
        show _ ∨ _
        omega
      clear HZ
      go_wp2
      go_meet
      case rel => exact ⟨⟨x1, rfl, HZ2.out⟩, rfl⟩
  case rest =>
    obtain ⟨⟨z, rfl, hz⟩, hw⟩ := hcut
    subst hw
    have N1 := hid_as (new_h K1.out HB.out hz)
    have N2 := hid_as (fun (h : Nat) (W : World) (hh : h < W.heap.size) => newr_c nb sz h x0 z W hh HB.out hz)
    clear hz HB HZ
    go_wp2_with fail
    refine N1.out.mono ?_
    rintro e w2 ⟨g, h, rfl, s2⟩
    have S2 := hid_as s2
    have N3 := hid_as (N2.out h w2 s2.lt.2)
    clear N1 N2 s2
    go_wp2_with fail
    refine N3.out.mono ?_
    rintro e w3 ⟨q, rfl, rf3, k3, hq⟩
    obtain ⟨r, hr⟩ : ∃ r, r = w2.heap.size := ⟨_, rfl⟩
    rw [← hr] at rf3 hq ⊢
    have P3 : Hid (PJ w w3 g h r q (SS.new nb sz) (SS.new nb sz)) := ⟨S2.out.below k3, rf3, by have := S2.out.k.size; omega, by have := S2.out.k.size; omega⟩
    clear N3 rf3 k3 hq hr S2
    have Z3 := hid_as P3.out.hs.size
    rw [show (SS.new nb sz).sz = sz from rfl] at Z3
    have R3 := hid_as (readr_c P3.out.rf 0)
    have er : (SS.new nb sz).err 0 = 0 := by
      unfold SS.err SS.new
      simp
      omega
    rw [er] at R3
    go_wp2_with fail
    refine Z3.out.mono ?_
    rintro e wx ⟨rfl, hw⟩
    subst wx
    clear Z3 er
    go_wp2_with fail
    refine R3.out.mono ?_
    rintro e w4 ⟨⟨v4, rfl, -⟩, k4⟩
    have P4 := hid_as (P3.out.below k4.below)
    obtain ⟨cap, c0, hcap⟩ := P4.out.rf.cells
    obtain ⟨p, cp, ck, -, -⟩ := P4.out.rf.cRow (k := 0) (by show 0 < (List.replicate nb _).length; rw [List.length_replicate]; omega)
    have hl0 : (SS.new nb sz).rows.length = nb := by simp [SS.new]
    rw [hl0] at c0
    rw [show (SS.new nb sz).sz = sz from rfl] at ck
    have hnb0 : 0 < nb := by omega
    have hnb1 : (0 : Int) < (nb : Int) := by omega
    clear R3 k4 P3 hcap hl0
    go_wp2_with fail
    clear c0 ck
    go_loopw [7, 8, 12] (fun sv rv i wr => ∃ I : Nat, i = .int .i64 (I : Int) ∧ I ≤ n ∧ PI w wr sz I sv rv) (fun _ _ i _ => n - (intOf i).toNat)
    case atStart => exact ⟨0, rfl, Nat.zero_le _, g, h, r, q, _, _, rfl, rfl, P4.out, Sim.refl _, rfl, Nat.le_refl _⟩
    case round =>
      obtain ⟨I, rfl, hI, g, h, r, q, s, t, rfl, rfl, pj, sim, hsz, hsn⟩ := hrel
      have P := hid_as pj
      have SIM := hid_as sim
      have HSZ := hid_as hsz
      have AL := hid_as (alike_c pj.hs.st pj.rf sim)
      clear pj sim P4 hsz
      by_cases hIn : I < n
      case neg =>
        have hI2 : ¬ ((I : Int) < (n : Int)) := by omega
        go_wp2_with fail
        refine AL.out.mono ?_
        rintro e w5 ⟨rfl, k5⟩
        have K5 := hid_as (below_and P.out.hs.k k5)
        clear AL k5
        go_wp2
        go_ret
        exact ⟨rfl, K5.out⟩
      have hI2 : (I : Int) < (n : Int) := by omega
      clear AL
      obtain ⟨lb, lo, rfl, hst⟩ := HF.out (by omega)
      obtain ⟨y, hy⟩ : ∃ y, L[I]? = some y := ⟨_, List.getElem?_eq_getElem (by rw [← HN.out]; exact hIn)⟩
      obtain ⟨hB, hx8, hnm, po, pc, hcs, sl⟩ := (hst I y hy)
      have hy2 := HALL.out y (List.mem_of_getElem? hy)
      have KW := hid_as P.out.hs.k
      have a0 : wr.cell? ⟨lb, lo + I * 6, none⟩ = some (.int .i64 y.what) := keep_cell KW.out (hcs 0 _ rfl)
      have a1 : wr.cell? ⟨lb, lo + I * 6 + 1, none⟩ = some (.int .i64 y.i) := keep_cell KW.out (hcs 1 _ rfl)
      have a2 : wr.cell? ⟨lb, lo + I * 6 + 2, none⟩ = some (.int .i64 y.n) := keep_cell KW.out (hcs 2 _ rfl)
      have a3 : wr.cell? ⟨lb, lo + I * 6 + 3, none⟩ = some (.int .i64 y.p) := keep_cell KW.out (hcs 3 _ rfl)
      have a4 : wr.cell? ⟨lb, lo + I * 6 + 4, none⟩ = some (.int .u8 (y.x : Int)) := keep_cell KW.out (hcs 4 _ rfl)
      have a5 : wr.cell? ⟨lb, lo + I * 6 + 5, none⟩ = some (.slice po y.b.length pc) := keep_cell KW.out (hcs 5 _ rfl)
      have SLW := hid_as (sl.below KW.out)
      have SLO : Hid (u8s y.b ≠ [] → ∀ a, po = some a → a.block < w.heap.size) := fun hv a ha => (Sl.old sl (Nat.le_refl _)) hv a y.b.length pc (by rw [ha])
      clear hst hcs sl hy
      go_upto_region 16 with fail
      have kX := hid_as (below_new (Below.refl _ wr) (.cells (y.cs po pc).toArray 37))
      have bX : Hid (Bx (wr.alloc (.cells (y.cs po pc).toArray 37)) wr.heap.size (y.cs po pc)) := heap_alloc_new wr _
      change Code.wp _ _ _ _ (wr.alloc (.cells (y.cs po pc).toArray 37))
      generalize wr.alloc (.cells (y.cs po pc).toArray 37) = X at kX bX ⊢
      clear a0 a1 a2 a3 a4 a5
      have PX := hid_as (P.out.below kX.out)
      have SL := hid_as (SLW.out.below kX.out)
      generalize wr.heap.size = bx at bX ⊢
      clear kX P SLW KW
      obtain ⟨what, yi, yn, yp, yx, bs⟩ := y
      simp only at hB hx8 hnm hy2 SL SLO
      have x0 : X.cell? ⟨bx, 0, none⟩ = some (.int .i64 what) := cell_row bX.out rfl
      have x1 : X.cell? ⟨bx, 1, none⟩ = some (.int .i64 yi) := cell_row bX.out rfl
      have x2 : X.cell? ⟨bx, 2, none⟩ = some (.int .i64 yn) := cell_row bX.out rfl
      have x3 : X.cell? ⟨bx, 3, none⟩ = some (.int .i64 yp) := cell_row bX.out rfl
      have x4 : X.cell? ⟨bx, 4, none⟩ = some (.int .u8 (yx : Int)) := cell_row bX.out rfl
      have x5 : X.cell? ⟨bx, 5, none⟩ = some (.slice po bs.length pc) := cell_row bX.out rfl
      have hn9s : s.n ≤ 1000000 := by omega
      go_upto_block 2 with fail
      go_cut [7, 8] from 61 to 142 (fun sv rv wx => PI w wx sz (I + 1) sv rv)
      case first =>
        by_cases hw : what = 0 ∨ what = 1 ∨ what = 2 ∨ what = 3
        case pos =>
          have D := hid_as (PX.out.hs.drawn (n := sz) SL.out hB (by omega))
          have MEM : Hid (∀ j ∈ [g, h, r, q], w.heap.size ≤ j ∧ j < X.heap.size) := by
            intro j hj
            have e1 := PX.out.hs.lt
            have e2 := PX.out.rf.lt
            have e3 := PX.out.rf.ltq
            have e4 := PX.out.r0
            have e5 := PX.out.q0
            have e6 := PX.out.hs.g0
            have e7 := PX.out.hs.h0
            simp only [List.mem_cons, List.not_mem_nil, or_false] at hj
            rcases hj with rfl | rfl | rfl | rfl <;> omega
          clear x0 x1 x2 x3 x4
          rcases hw with rfl | rfl | rfl | rfl
          all_goals as_aux_lemma =>
            have x0 : X.cell? ⟨bx, 0, none⟩ = some _ := cell_row bX.out rfl
            go_wp2_with fail
            refine D.out.mono ?_
            rintro e w3 ⟨d, rfl, o3, s3, k3⟩
            have P3 := hid_as (PX.out.below k3)
            have B3 := hid_as (bX.out.below k3)
            have SL3 := hid_as (SL.out.below k3)
            have O3 := hid_as o3
            have z2 : w3.cell? ⟨bx, 2, none⟩ = some (.int .i64 yn) := cell_row B3.out rfl
            have z5 : w3.cell? ⟨bx, 5, none⟩ = some (.slice po bs.length pc) := cell_row B3.out rfl
            clear x0 x5 D o3 s3 k3 PX bX SL
            go_upto_if 74 with fail
            go_cut [14] from 72 to 76 (fun b wx => (∃ (bo : Option Addr) (mm bc : Nat) (ms : List Nat), b = .slice bo mm bc ∧ mm = ms.length ∧ Sl w3 (.slice bo mm bc) (u8s ms) ∧ Bytes ms ∧ ms.length ≤ 20000 ∧ (u8s ms ≠ [] → ∀ a, bo = some a → a.block ∉ [g, h, r, q])) ∧ wx = w3)
            case first =>
              by_cases h7 : yn = 7
              · have R : Hid (u8s bs ≠ [] → ∀ a, po = some a → a.block ∉ [g, h, r, q]) := fun hv a ha hm => by
                  have e1 := SLO.out hv a ha
                  have e2 := (MEM.out _ hm).1
                  omega
                go_wp2
                go_meet
                case rel => exact ⟨⟨_, _, _, bs, rfl, rfl, SL3.out, hB, hy2, R.out⟩, rfl⟩
              · have d7 : (yn == 7) = false := by rw [beq_eq_false_iff_ne]; exact h7
                have OS : Hid (Sl w3 (.slice (some ⟨d, 0, none⟩) sz sz) (u8s (dr bs sz))) := own_sl O3.out
                have R : Hid (u8s (dr bs sz) ≠ [] → ∀ a, (some (⟨d, 0, none⟩ : Addr)) = some a → a.block ∉ [g, h, r, q]) := fun _ a ha hm => by
                  have e1 := (O3.out.lt d rfl).1
                  have e2 := (MEM.out _ hm).2
                  simp only [Option.some.injEq] at ha
                  subst ha
                  simp only at e2
                  omega
                go_wp2
                go_meet
                case rel => exact ⟨⟨_, _, _, dr bs sz, rfl, (dr_len _ _).symm, OS.out, dr_bytes _ _, by rw [dr_len]; omega, R.out⟩, rfl⟩
            case rest =>
              obtain ⟨⟨bo, mm, bc, ms, rfl, hmm, slb, hBm, hml, hout⟩, hw3⟩ := hcut
              subst hw3
              have CP := hid_as (copy_c slb (by omega))
              have SB := hid_as slb
              have HMM := hid_as hmm
              have HO := hid_as hout
              clear z2 z5 slb hmm hout SL3 O3
              go_wp2_with fail
              refine CP.out.mono ?_
              rintro e w4 ⟨v4, rfl, o4, k4⟩
              have B4 := hid_as (B3.out.below k4)
              have K4 := hid_as k4
              have z1 : w4.cell? ⟨bx, 1, none⟩ = some (.int .i64 yi) := cell_row B4.out rfl
              have O4 := hid_as o4
              have WS := hid_as ((P3.out.below k4).hs.wrt yi o4 P3.out.hs.lt.1 P3.out.hs.lt.2 hBm hn9s)
              have SP0 := hid_as (SIM.out.errW yi ms.length)
              obtain ⟨ee, hee⟩ : ∃ ee : Nat, ee = s.errW yi ms.length := ⟨_, rfl⟩
              rw [← hee] at WS SP0
              clear CP o4 k4 hee
              go_wp2_with fail
              refine WS.out.mono ?_
              rintro e w5 ⟨rfl, s5, o5⟩
              have O5 := hid_as o5
              have S5 := hid_as s5
              have SP := hid_as (spoil_c (own_only O4.out o5 (by simp; exact P3.out.hs.lt)) (Nat.le_trans K4.out.size o5.size) (by omega))
              clear WS s5 o5 z1
              go_wp2_with fail
              refine SP.out.mono ?_
              rintro e w6 ⟨rfl, k6⟩
              have P6 := hid_as (P3.out.wrote K4.out S5.out.st O5.out k6)
              have OO := hid_as (only_spoilt K4.out O5.out k6)
              have B6 := hid_as (B3.out.onlyS P3.out OO.out)
              have z1 : w6.cell? ⟨bx, 1, none⟩ = some (.int .i64 yi) := cell_row B6.out rfl
              have WR := hid_as (writer_c P6.out.rf P6.out.hs.lt.2 yi (SB.out.only OO.out (fun hv a ha hm => HO.out hv a ha (by simp only [List.mem_cons, List.not_mem_nil, or_false] at hm ⊢; omega))) HMM.out hBm (fun hv a ha hm => HO.out hv a ha (by simp only [List.mem_cons, List.not_mem_nil, or_false] at hm ⊢; omega)) (by rw [SIM.out.n]; exact hn9s))
              rw [SP0.out] at WR
              have d0 : ((ee : Int) == (ee : Int)) = true := by simp
              clear SP k6 OO B6 SB HO O5 S5 O4 K4 P3 B3 B4
              go_wp2_with fail
              refine WR.out.mono ?_
              rintro e w7 ⟨rfl, rf7, o7⟩
              have P7 := hid_as (P6.out.stepR rf7 o7)
              clear WR rf7 o7 z1
              go_wp2
              go_meet
              case rel => exact ⟨g, h, r, q, _, _, rfl, rfl, P7.out, SIM.out.wr yi ms, by rw [wr_sz]; exact HSZ.out, Nat.le_trans (wr_n2 ..) (by omega)⟩
        case neg =>
          have n0 : (what == 0) = false := by rw [beq_eq_false_iff_ne]; omega
          have n1 : (what == 1) = false := by rw [beq_eq_false_iff_ne]; omega
          have n2 : (what == 2) = false := by rw [beq_eq_false_iff_ne]; omega
          have n3 : (what == 3) = false := by rw [beq_eq_false_iff_ne]; omega
          clear hw
          by_cases h5 : what = 5
          · subst h5
            as_aux_lemma =>
              clear n0 n1 n2 n3
              have C := hid_as (PX.out.hs.cut yn yp hnm)
              go_wp2_with fail
              refine C.out.mono ?_
              rintro e w3 ⟨rfl, s3, o3⟩
              have P3 := hid_as (PX.out.stepS s3.st o3)
              have B3 := hid_as (bX.out.onlyS PX.out o3)
              have z2 : w3.cell? ⟨bx, 2, none⟩ = some (.int .i64 yn) := cell_row B3.out rfl
              have z3 : w3.cell? ⟨bx, 3, none⟩ = some (.int .i64 yp) := cell_row B3.out rfl
              have CR := hid_as (cutr_c P3.out.rf yn yp hnm)
              clear C s3 o3 x0 x1 x2 x3 x4 x5
              go_wp2_with fail
              refine CR.out.mono ?_
              rintro e w4 ⟨rfl, rf4, o4⟩
              have P4 := hid_as (P3.out.stepR rf4 o4)
              clear CR rf4 o4 z2 z3
              go_wp2
              go_meet
              case rel => exact ⟨g, h, r, q, _, _, rfl, rfl, P4.out, SIM.out.cutt yn yp, HSZ.out, Nat.le_succ_of_le hsn⟩
          have n5 : (what == 5) = false := by rw [beq_eq_false_iff_ne]; exact h5
          by_cases h6 : what = 6
          · subst h6
            as_aux_lemma =>
              clear n0 n1 n2 n3 n5
              have C := hid_as PX.out.hs.pwr2
              go_wp2_with fail
              refine C.out.mono ?_
              rintro e w3 ⟨rfl, s3, o3⟩
              have P3 := hid_as (PX.out.stepS s3.st o3)
              have CR := hid_as (powr_c P3.out.rf)
              clear C s3 o3 x0 x1 x2 x3 x4 x5
              go_wp2_with fail
              refine CR.out.mono ?_
              rintro e w4 ⟨rfl, rf4, o4⟩
              have P4 := hid_as (P3.out.stepR rf4 o4)
              clear CR rf4 o4
              go_wp2
              go_meet
              case rel => exact ⟨g, h, r, q, _, _, rfl, rfl, P4.out, SIM.out.pwr, HSZ.out, Nat.le_succ_of_le hsn⟩
          have n6 : (what == 6) = false := by rw [beq_eq_false_iff_ne]; exact h6
          by_cases h7 : what = 7
          · subst h7
            as_aux_lemma =>
              clear n0 n1 n2 n3 n5 n6
              have C := hid_as (PX.out.hs.spoil (x := yx) yi yp)
              go_wp2_with fail
              refine C.out.mono ?_
              rintro e w3 ⟨rfl, s3, o3⟩
              have P3 := hid_as (PX.out.stepS s3.st o3)
              have B3 := hid_as (bX.out.onlyS PX.out o3)
              have z1 : w3.cell? ⟨bx, 1, none⟩ = some (.int .i64 yi) := cell_row B3.out rfl
              have z3 : w3.cell? ⟨bx, 3, none⟩ = some (.int .i64 yp) := cell_row B3.out rfl
              have z4 : w3.cell? ⟨bx, 4, none⟩ = some (.int .u8 (yx : Int)) := cell_row B3.out rfl
              have CR := hid_as (spoilr_c (x := yx) P3.out.rf P3.out.hs.lt.2 yi yp)
              clear C s3 o3 x0 x1 x2 x3 x4 x5
              go_wp2_with fail
              refine CR.out.mono ?_
              rintro e w4 ⟨rfl, rf4, o4⟩
              have P4 := hid_as (P3.out.stepR rf4 o4)
              clear CR rf4 o4 z1 z3 z4
              go_wp2
              go_meet
              case rel => exact ⟨g, h, r, q, _, _, rfl, rfl, P4.out, SIM.out.spl yi yp yx, by rw [(spl_sz ..).1]; exact HSZ.out, by rw [(spl_sz ..).2]; omega⟩
          have n7 : (what == 7) = false := by rw [beq_eq_false_iff_ne]; exact h7
          by_cases h8 : what = 8
          · subst h8
            as_aux_lemma =>
              clear n0 n1 n2 n3 n5 n6 n7
              have C := hid_as PX.out.hs.cpy
              go_wp2_with fail
              refine C.out.mono ?_
              rintro e w3 ⟨g2, h2', rfl, s3, k3, l1, l2⟩
              have P3 := hid_as (PX.out.below k3)
              have RH := hid_as ((PX.out.rf.home l2).below k3)
              have C3 := hid_as s3
              have NG : Hid (g2 ∉ [g, h] ∧ h2' ∉ [g, h]) := by
                have e1 := PX.out.hs.lt
                show _ ∧ _
                simp
                omega
              have kL := hid_as (below_new (Below.refl _ w3) (.cells #[.int .u8 1, .int .u8 2, .int .u8 3] 5))
              have AB := hid_as (lit_bytes w3 [1, 2, 3] #[.int .u8 1, .int .u8 2, .int .u8 3] 3 rfl rfl)
              have D := hid_as ((P3.out.hs.below kL.out).drawn (n := sz) AB.out c123 (by omega))
              clear C s3 k3 l1 l2 x0 x1 x2 x3 x4 x5 PX bX SL
              go_wp2_with fail
              refine D.out.mono ?_
              rintro e w4 ⟨d, rfl, o4, -, k4⟩
              have K4 := hid_as (below_and kL.out k4)
              have P4 := hid_as (P3.out.below K4.out)
              have WS := hid_as (P4.out.hs.wrt 0 o4 (by rw [World.size_alloc]; have := P3.out.hs.lt; omega) (by rw [World.size_alloc]; have := P3.out.hs.lt; omega) (dr_bytes _ _) hn9s)
              clear D o4 k4 AB kL
              go_wp2_with fail
              refine WS.out.mono ?_
              rintro e w5 ⟨rfl, s5, o5⟩
              have C4 := C3.out.below K4.out
              have C5 : Hid (Hs w w5 g2 h2' s) := ⟨C4.st.only o5 NG.out.1 NG.out.2, s5.k, C4.g0, C4.h0⟩
              have RH5 := (RH.out.below K4.out).only2 P4.out.rf P4.out.hs.st o5
              have RC := hid_as (copyr_c RH5)
              clear WS s5 o5 C4 RH5 C3 RH P4 P3 K4
              go_wp2_with fail
              refine RC.out.mono ?_
              rintro e w6 ⟨r2, q2, rfl, rf6, k6, l3, l4⟩
              have P6 : Hid (PJ w w6 g2 h2' r2 q2 s t) := ⟨C5.out.below k6, rf6, Nat.le_trans C5.out.k.size l3, Nat.le_trans C5.out.k.size l4⟩
              clear RC rf6 k6 l3 l4
              go_wp2
              go_meet
              case rel => exact ⟨g2, h2', r2, q2, _, _, rfl, rfl, P6.out, SIM.out, HSZ.out, Nat.le_succ_of_le hsn⟩
          have n8 : (what == 8) = false := by rw [beq_eq_false_iff_ne]; exact h8
          as_aux_lemma =>
            clear x1 x2 x3 x4 x5
            go_wp2
            go_meet
            case rel => exact ⟨g, h, r, q, s, t, rfl, rfl, PX.out, SIM.out, HSZ.out, Nat.le_succ_of_le hsn⟩
      case rest =>
        obtain ⟨g, h, r, q, s, t, rfl, rfl, pj, sim, hsz, hsn⟩ := hcut
        have P := hid_as pj
        have SIM := hid_as sim
        have HSZ := hid_as hsz
        have AL := hid_as (alike_c pj.hs.st pj.rf sim)
        clear pj sim hsz x0 x1 x2 x3 x4 x5
        by_cases h4 : I % 4 = 3
        · have e1 : (I : Int) % 4 = 3 := by omega
          have e2 : (I : Int).tmod 4 = 3 := by rw [Int.tmod_eq_emod_of_nonneg (by omega)]; exact e1
          go_wp2_with fail
          refine AL.out.mono ?_
          rintro e w5 ⟨rfl, k5⟩
          have P5 := hid_as (P.out.below k5)
          clear AL k5 e1 e2
          go_wp2
          go_roundw
          case rel => exact ⟨I + 1, by go_num, by omega, g, h, r, q, s, t, rfl, rfl, P5.out, SIM.out, HSZ.out, hsn⟩
          case measure => simp [intOf]; omega
        · have e1 : ¬ (I : Int) % 4 = 3 := by omega
          have e2 : ¬ (I : Int).tmod 4 = 3 := by rw [Int.tmod_eq_emod_of_nonneg (by omega)]; exact e1
          clear AL
          go_wp2
          go_roundw
          case rel => exact ⟨I + 1, by go_num, by omega, g, h, r, q, s, t, rfl, rfl, P.out, SIM.out, HSZ.out, hsn⟩
          case measure => simp [intOf]; omega
end Go.Proofs.Ytkjbgjiddpkcpaa
