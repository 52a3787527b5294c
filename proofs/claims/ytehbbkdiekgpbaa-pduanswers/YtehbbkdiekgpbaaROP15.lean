/- The walk: the reference reads a reply: functions 15, 16. -/
import Derived.Test.YtehbbkdiekgpbaaROPB
namespace Go.Proofs.Ytehbbkdiekgpbaa
open Go.RowKit
open Pdu
set_option linter.unusedSimpArgs false in
set_option linter.unusedVariables false in
set_option maxRecDepth 100000 in
set_option maxHeartbeats 1600000 in
theorem rop15_n (m cap b off x0 x1 a1 a2 a3 nb nr ac rc : Nat) (a4 : List Bool) (a5 : List Nat) (ao ro : Option Addr) (bs : List Nat) (w : World) (hq : IsRq w (.agg #[.int .u8 15, .int .u16 a1, .int .u16 a2, .int .u16 a3, .slice ao nb ac, .slice ro nr rc]) ⟨15, a1, a2, a3, a4, a5⟩) (lb : a4.length ≤ 2500) (lr : a5.length ≤ 200) (hf : Rq.Fits ⟨15, a1, a2, a3, a4, a5⟩) (hS : Bs w b off m cap bs) (hm : 2 ≤ m) (h0 : x0 = bs.getD 0 0) (h1 : x1 = bs.getD 1 0) (hT : x0 = 15) (hU : ¬ bs = (reqBytes ⟨15, a1, a2, a3, a4, a5⟩).take 5) :
    Calls Try.prog 22 #[.agg #[.int .u8 15, .int .u16 a1, .int .u16 a2, .int .u16 a3, .slice ao nb ac, .slice ro nr rc], .slice (some ⟨b, off, none⟩) m cap] w fun e w' => AnsEnd ⟨15, a1, a2, a3, a4, a5⟩ bs w e w' := by
  have hor : bits .or .u8 (15 : Int) 128 = 143 := or_128 (x := 15) (by decide)
  have t1 : ((x0 : Int) == 143) = false := by rw [beq_eq_false_iff_ne]; omega
  have t2 : ((x0 : Int) != 15) = false := by rw [bne_eq_false_iff_eq]; omega
  have hI := ans_w3 (fn := 15) (addr := a1) (n := a2) (addr2 := a3) (bits := a4) (regs := a5) (bs := bs) (by decide) (h0.symm.trans hT) (by rw [← hS.len]; omega)
  have HI := hid_as hI
  have HT := hid_as hT
  have HU := hid_as hU
  have AB : Hid (Bytes ((reqBytes ⟨15, a1, a2, a3, a4, a5⟩).take 5)) := fun x hx => reqBytes_bytes hq.1 (by simp only; omega) (by simp only; omega) x (List.mem_of_mem_take hx)
  have hlen5 : 5 ≤ (reqBytes ⟨15, a1, a2, a3, a4, a5⟩).length := by simp [reqBytes, tail, wd]
  clear hT hU hI
  have hbx : b < w.heap.size := lt_of_cell (hS.at 0 (by omega))
  have k0 : w.cell? ⟨b, off, none⟩ = some (.int .u8 x0) := by rw [h0]; exact hS.at 0 (by omega)
  have k1 : w.cell? ⟨b, off + 1, none⟩ = some (.int .u8 x1) := by rw [h1]; exact hS.at 1 (by omega)
  have l0 : x0 < 256 := by rw [h0]; exact hS.bytes.at 0
  have l1 : x1 < 256 := by rw [h1]; exact hS.bytes.at 1
  have l2 : decide ((m : Int) < 2) = false := decide_eq_false (by omega)
  have i0 : (0 : Int) < (m : Int) := by omega
  have i1 : (1 : Int) < (m : Int) := by omega
  have i1' : 1 < m := by omega
  have H0 := hid_as h0
  have H1 := hid_as h1
  have HS := hid_as hS
  clear h0 h1 hS
  have HQ := hid_as hq
  have RQ := hid_as (fun (W : World) (h : Below w.heap.size w W) => ref_request (hq.below h) lb lr)
  have HF := hid_as hf
  clear hq hf
  go_enter Try.func22, Try.ntmps22
  go_wp2_with fail
  have TW := two_new w 15 a1 a2 a3 (.slice ao nb ac) (.slice ro nr rc)
  generalize ((w.alloc (.cells #[.int .u8 (15 : Nat), .int .u16 a1, .int .u16 a2, .int .u16 a3, .slice ao nb ac, .slice ro nr rc] 26)).alloc (.cells #[.int .u8 0, .int .u8 0, .int .u16 0, .int .u16 0, .slice none 0 0, .slice none 0 0] 44)) = W at TW ⊢
  refine (RQ.out _ TW.bel).mono ?_
  rintro e w1 ⟨hb1, hend⟩
  have q1 := (hb1.block _ TW.siz).trans TW.res
  have B1 := TW.box.below hb1 (Nat.lt_of_succ_lt TW.siz)
  have K1 : Hid (Below w.heap.size w w1) := below_and TW.bel hb1
  have z1 : w.heap.size + 1 < w1.heap.size := Nat.lt_of_lt_of_le TW.siz hb1.size
  clear hb1 TW RQ
  rcases hend with ⟨_, yv, rfl, owny⟩ | ⟨hno, _⟩
  case inr => exact absurd HF.out hno
  obtain ⟨c0, c1, c2, c3, c4, c5⟩ := B1
  obtain ⟨⟨r0, r1, r2, r3, r4, r5⟩, hfz⟩ := block6 q1
  have g0 := hfz 0
  have g1 := hfz 1
  have g2 := hfz 2
  have g3 := hfz 3
  have g4 := hfz 4
  have g5 := hfz 5
  clear hfz
  have k0' : w1.cell? ⟨b, off, none⟩ = some (.int .u8 x0) := (K1.out.cell (p := ⟨b, off, none⟩) hbx).trans k0
  have k1' : w1.cell? ⟨b, off + 1, none⟩ = some (.int .u8 x1) := (K1.out.cell (p := ⟨b, off + 1, none⟩) hbx).trans k1
  have OY0 := own_sl owny
  obtain ⟨yo, yc, hyv, hyc, SY⟩ := sl_take OY0 hlen5
  have OY := hid_as SY
  subst hyv
  obtain ⟨yl, hyl⟩ : ∃ l, l = (reqBytes ⟨15, a1, a2, a3, a4, a5⟩).length := ⟨_, rfl⟩
  rw [← hyl] at hyc hlen5 ⊢
  have n1 : (5 : Int) ≤ (yc : Int) := by omega
  have n2 : 5 ≤ yc := by omega
  clear owny OY0 SY hyl
  go_upto_region 4 with fail
  go_quiet (fail)
  go_upto_region 8 with fail
  have KY : Hid (Below w.heap.size w (w1.drewN nq)) := below_drewN K1.out _
  have BQ := (Box.mk c0 c1 c2 c3 c4 c5).drewN nq
  have y0 : (w1.drewN nq).heap[w.heap.size + 1]? = some (.cells #[.int .u8 0, .int .u8 0, .int .u16 0, .int .u16 0, .slice none 0 0, .slice none 0 0] 44 (0, 0)) := q1
  have v0 : (w1.drewN nq).cell? ⟨b, off, none⟩ = some (.int .u8 x0) := k0'
  have v1 : (w1.drewN nq).cell? ⟨b, off + 1, none⟩ = some (.int .u8 x1) := k1'
  have zY : w.heap.size + 1 < (w1.drewN nq).heap.size := z1
  have KK : Hid (Below w1.heap.size w1 (w1.drewN nq)) := below_drewN (Below.refl _ _) _
  clear c0 c1 c2 c3 c4 c5 r0 r1 r2 r3 r4 r5 g0 g1 g2 g3 g4 g5 k0' k1'
  generalize w1.drewN nq = Y at KY BQ y0 v0 v1 zY KK ⊢
  obtain ⟨c0, c1, c2, c3, c4, c5⟩ := BQ
  obtain ⟨⟨r0, r1, r2, r3, r4, r5⟩, hfz⟩ := block6 y0
  have g0 := hfz 0
  have g1 := hfz 1
  have g2 := hfz 2
  have g3 := hfz 3
  have g4 := hfz 4
  have g5 := hfz 5
  clear hfz
  go_quiet (fail)
  go_upto_region 10 with fail
  have KZ : Hid (Below w.heap.size w (Y.drewN nq)) := below_drewN KY.out _
  have BQ := (Box.mk c0 c1 c2 c3 c4 c5).drewN nq
  have yz : (Y.drewN nq).heap[w.heap.size + 1]? = some (.cells #[.int .u8 0, .int .u8 0, .int .u16 0, .int .u16 0, .slice none 0 0, .slice none 0 0] 44 (0, 0)) := y0
  have vz0 : (Y.drewN nq).cell? ⟨b, off, none⟩ = some (.int .u8 x0) := v0
  have vz1 : (Y.drewN nq).cell? ⟨b, off + 1, none⟩ = some (.int .u8 x1) := v1
  have zZ : w.heap.size + 1 < (Y.drewN nq).heap.size := zY
  have KKZ : Hid (Below w1.heap.size w1 (Y.drewN nq)) := below_drewN KK.out _
  clear c0 c1 c2 c3 c4 c5 r0 r1 r2 r3 r4 r5 g0 g1 g2 g3 g4 g5 y0 v0 v1 zY KY KK
  generalize Y.drewN nq = Y2 at KZ BQ yz vz0 vz1 zZ KKZ ⊢
  obtain ⟨c0, c1, c2, c3, c4, c5⟩ := BQ
  have a0' := fun (o : Obj) => ((Box.mk c0 c1 c2 c3 c4 c5).grow o).c0
  go_upto_region 12 with fail
  have TX := heap_alloc_new Y2 (.cells #[.int .u8 15, .int .u8 0, .int .u16 0, .int .u16 0, .slice none 0 0, .slice none 0 0] 44)
  have KX : Hid (Below w.heap.size w (Y2.alloc (.cells #[.int .u8 15, .int .u8 0, .int .u16 0, .int .u16 0, .slice none 0 0, .slice none 0 0] 44))) := below_new KZ.out _
  have KKX : Hid (Below w1.heap.size w1 (Y2.alloc (.cells #[.int .u8 15, .int .u8 0, .int .u16 0, .int .u16 0, .slice none 0 0, .slice none 0 0] 44))) := below_new KKZ.out _
  have BQ := (Box.mk c0 c1 c2 c3 c4 c5).grow (.cells #[.int .u8 15, .int .u8 0, .int .u16 0, .int .u16 0, .slice none 0 0, .slice none 0 0] 44)
  have yx := (Below.heap_alloc Y2 (.cells #[.int .u8 15, .int .u8 0, .int .u16 0, .int .u16 0, .slice none 0 0, .slice none 0 0] 44) _ zZ).trans yz
  have vx0 := ((below_new (Below.refl _ Y2) (.cells #[.int .u8 15, .int .u8 0, .int .u16 0, .int .u16 0, .slice none 0 0, .slice none 0 0] 44)).cell (p := ⟨b, off, none⟩) (lt_of_cell vz0)).trans vz0
  have vx1 := ((below_new (Below.refl _ Y2) (.cells #[.int .u8 15, .int .u8 0, .int .u16 0, .int .u16 0, .slice none 0 0, .slice none 0 0] 44)).cell (p := ⟨b, off + 1, none⟩) (lt_of_cell vz1)).trans vz1
  have zX : Y2.heap.size < (Y2.alloc (.cells #[.int .u8 15, .int .u8 0, .int .u16 0, .int .u16 0, .slice none 0 0, .slice none 0 0] 44)).heap.size := by rw [World.size_alloc]; omega
  clear c0 c1 c2 c3 c4 c5 yz vz0 vz1 KZ KKZ a0'
  generalize Y2.alloc (.cells #[.int .u8 15, .int .u8 0, .int .u16 0, .int .u16 0, .slice none 0 0, .slice none 0 0] 44) = X at TX KX KKX BQ yx vx0 vx1 zX ⊢
  obtain ⟨c0, c1, c2, c3, c4, c5⟩ := BQ
  obtain ⟨⟨r0, r1, r2, r3, r4, r5⟩, hfz⟩ := block6 yx
  obtain ⟨⟨d0, d1, d2, d3, d4, d5⟩, hfd⟩ := block6 TX
  have g0 := hfz 0
  have g1 := hfz 1
  have g2 := hfz 2
  have g3 := hfz 3
  have g4 := hfz 4
  have g5 := hfz 5
  have f0 := hfd 0
  have f1 := hfd 1
  have f2 := hfd 2
  have f3 := hfd 3
  have f4 := hfd 4
  have f5 := hfd 5
  clear hfz hfd
  have SM := hid_as (rsame_c (HS.out.below KX.out).sl (OY.out.below KKX.out) HS.out.bytes AB.out)
  go_wp2_with fail
  refine SM.out.mono ?_
  rintro e w3 ⟨rfl, hw⟩
  subst w3
  rw [decide_eq_false HU.out]
  go_wp2
  have BF := set_box (Box.mk r0 r1 r2 r3 r4 r5) (.int .u8 0) (.int .u8 0) (.int .u16 0) (.int .u16 0) (.slice none 0 0) (.slice none 0 0)
  obtain ⟨e0, e1, e2, e3, e4, e5⟩ := BF
  refine bodyPost_ret (v := .tuple #[.agg #[.int .u8 0, .int .u8 0, .int .u16 0, .int .u16 0, .slice none 0 0, .slice none 0 0], .int .i64 30]) (by simp [results, Try.results22, go_sem, e0, e1, e2, e3, e4, e5]) rfl ⟨below_six KX.out (Nat.le_succ _) _ _ _ _ _ _, Or.inr ⟨fun h => ?_, rfl⟩⟩
  have hne : ¬ (bs.getD 0 0 = 15 + 128) := by have := H0.out; have := HT.out; omega
  rcases h.2 with h2 | h2
  · exact hne h2.2.1
  · exact HU.out (HI.out.1 h2)
set_option linter.unusedSimpArgs false in
set_option linter.unusedVariables false in
set_option maxRecDepth 100000 in
set_option maxHeartbeats 1600000 in
theorem rop15_y (m cap b off x0 x1 a1 a2 a3 nb nr ac rc : Nat) (a4 : List Bool) (a5 : List Nat) (ao ro : Option Addr) (bs : List Nat) (w : World) (hq : IsRq w (.agg #[.int .u8 15, .int .u16 a1, .int .u16 a2, .int .u16 a3, .slice ao nb ac, .slice ro nr rc]) ⟨15, a1, a2, a3, a4, a5⟩) (lb : a4.length ≤ 2500) (lr : a5.length ≤ 200) (hf : Rq.Fits ⟨15, a1, a2, a3, a4, a5⟩) (hS : Bs w b off m cap bs) (hm : 2 ≤ m) (h0 : x0 = bs.getD 0 0) (h1 : x1 = bs.getD 1 0) (hT : x0 = 15) (hU : bs = (reqBytes ⟨15, a1, a2, a3, a4, a5⟩).take 5) :
    Calls Try.prog 22 #[.agg #[.int .u8 15, .int .u16 a1, .int .u16 a2, .int .u16 a3, .slice ao nb ac, .slice ro nr rc], .slice (some ⟨b, off, none⟩) m cap] w fun e w' => AnsEnd ⟨15, a1, a2, a3, a4, a5⟩ bs w e w' := by
  have hor : bits .or .u8 (15 : Int) 128 = 143 := or_128 (x := 15) (by decide)
  have t1 : ((x0 : Int) == 143) = false := by rw [beq_eq_false_iff_ne]; omega
  have t2 : ((x0 : Int) != 15) = false := by rw [bne_eq_false_iff_eq]; omega
  have hI := ans_w3 (fn := 15) (addr := a1) (n := a2) (addr2 := a3) (bits := a4) (regs := a5) (bs := bs) (by decide) (h0.symm.trans hT) (by rw [← hS.len]; omega)
  have HI := hid_as hI
  have HT := hid_as hT
  have HU := hid_as hU
  have AB : Hid (Bytes ((reqBytes ⟨15, a1, a2, a3, a4, a5⟩).take 5)) := fun x hx => reqBytes_bytes hq.1 (by simp only; omega) (by simp only; omega) x (List.mem_of_mem_take hx)
  have hlen5 : 5 ≤ (reqBytes ⟨15, a1, a2, a3, a4, a5⟩).length := by simp [reqBytes, tail, wd]
  clear hT hU hI
  have hbx : b < w.heap.size := lt_of_cell (hS.at 0 (by omega))
  have k0 : w.cell? ⟨b, off, none⟩ = some (.int .u8 x0) := by rw [h0]; exact hS.at 0 (by omega)
  have k1 : w.cell? ⟨b, off + 1, none⟩ = some (.int .u8 x1) := by rw [h1]; exact hS.at 1 (by omega)
  have l0 : x0 < 256 := by rw [h0]; exact hS.bytes.at 0
  have l1 : x1 < 256 := by rw [h1]; exact hS.bytes.at 1
  have l2 : decide ((m : Int) < 2) = false := decide_eq_false (by omega)
  have i0 : (0 : Int) < (m : Int) := by omega
  have i1 : (1 : Int) < (m : Int) := by omega
  have i1' : 1 < m := by omega
  have H0 := hid_as h0
  have H1 := hid_as h1
  have HS := hid_as hS
  clear h0 h1 hS
  have HQ := hid_as hq
  have RQ := hid_as (fun (W : World) (h : Below w.heap.size w W) => ref_request (hq.below h) lb lr)
  have HF := hid_as hf
  clear hq hf
  go_enter Try.func22, Try.ntmps22
  go_wp2_with fail
  have TW := two_new w 15 a1 a2 a3 (.slice ao nb ac) (.slice ro nr rc)
  generalize ((w.alloc (.cells #[.int .u8 (15 : Nat), .int .u16 a1, .int .u16 a2, .int .u16 a3, .slice ao nb ac, .slice ro nr rc] 26)).alloc (.cells #[.int .u8 0, .int .u8 0, .int .u16 0, .int .u16 0, .slice none 0 0, .slice none 0 0] 44)) = W at TW ⊢
  refine (RQ.out _ TW.bel).mono ?_
  rintro e w1 ⟨hb1, hend⟩
  have q1 := (hb1.block _ TW.siz).trans TW.res
  have B1 := TW.box.below hb1 (Nat.lt_of_succ_lt TW.siz)
  have K1 : Hid (Below w.heap.size w w1) := below_and TW.bel hb1
  have z1 : w.heap.size + 1 < w1.heap.size := Nat.lt_of_lt_of_le TW.siz hb1.size
  clear hb1 TW RQ
  rcases hend with ⟨_, yv, rfl, owny⟩ | ⟨hno, _⟩
  case inr => exact absurd HF.out hno
  obtain ⟨c0, c1, c2, c3, c4, c5⟩ := B1
  obtain ⟨⟨r0, r1, r2, r3, r4, r5⟩, hfz⟩ := block6 q1
  have g0 := hfz 0
  have g1 := hfz 1
  have g2 := hfz 2
  have g3 := hfz 3
  have g4 := hfz 4
  have g5 := hfz 5
  clear hfz
  have k0' : w1.cell? ⟨b, off, none⟩ = some (.int .u8 x0) := (K1.out.cell (p := ⟨b, off, none⟩) hbx).trans k0
  have k1' : w1.cell? ⟨b, off + 1, none⟩ = some (.int .u8 x1) := (K1.out.cell (p := ⟨b, off + 1, none⟩) hbx).trans k1
  have OY0 := own_sl owny
  obtain ⟨yo, yc, hyv, hyc, SY⟩ := sl_take OY0 hlen5
  have OY := hid_as SY
  subst hyv
  obtain ⟨yl, hyl⟩ : ∃ l, l = (reqBytes ⟨15, a1, a2, a3, a4, a5⟩).length := ⟨_, rfl⟩
  rw [← hyl] at hyc hlen5 ⊢
  have n1 : (5 : Int) ≤ (yc : Int) := by omega
  have n2 : 5 ≤ yc := by omega
  clear owny OY0 SY hyl
  go_upto_region 4 with fail
  go_quiet (fail)
  go_upto_region 8 with fail
  have KY : Hid (Below w.heap.size w (w1.drewN nq)) := below_drewN K1.out _
  have BQ := (Box.mk c0 c1 c2 c3 c4 c5).drewN nq
  have y0 : (w1.drewN nq).heap[w.heap.size + 1]? = some (.cells #[.int .u8 0, .int .u8 0, .int .u16 0, .int .u16 0, .slice none 0 0, .slice none 0 0] 44 (0, 0)) := q1
  have v0 : (w1.drewN nq).cell? ⟨b, off, none⟩ = some (.int .u8 x0) := k0'
  have v1 : (w1.drewN nq).cell? ⟨b, off + 1, none⟩ = some (.int .u8 x1) := k1'
  have zY : w.heap.size + 1 < (w1.drewN nq).heap.size := z1
  have KK : Hid (Below w1.heap.size w1 (w1.drewN nq)) := below_drewN (Below.refl _ _) _
  clear c0 c1 c2 c3 c4 c5 r0 r1 r2 r3 r4 r5 g0 g1 g2 g3 g4 g5 k0' k1'
  generalize w1.drewN nq = Y at KY BQ y0 v0 v1 zY KK ⊢
  obtain ⟨c0, c1, c2, c3, c4, c5⟩ := BQ
  obtain ⟨⟨r0, r1, r2, r3, r4, r5⟩, hfz⟩ := block6 y0
  have g0 := hfz 0
  have g1 := hfz 1
  have g2 := hfz 2
  have g3 := hfz 3
  have g4 := hfz 4
  have g5 := hfz 5
  clear hfz
  go_quiet (fail)
  go_upto_region 10 with fail
  have KZ : Hid (Below w.heap.size w (Y.drewN nq)) := below_drewN KY.out _
  have BQ := (Box.mk c0 c1 c2 c3 c4 c5).drewN nq
  have yz : (Y.drewN nq).heap[w.heap.size + 1]? = some (.cells #[.int .u8 0, .int .u8 0, .int .u16 0, .int .u16 0, .slice none 0 0, .slice none 0 0] 44 (0, 0)) := y0
  have vz0 : (Y.drewN nq).cell? ⟨b, off, none⟩ = some (.int .u8 x0) := v0
  have vz1 : (Y.drewN nq).cell? ⟨b, off + 1, none⟩ = some (.int .u8 x1) := v1
  have zZ : w.heap.size + 1 < (Y.drewN nq).heap.size := zY
  have KKZ : Hid (Below w1.heap.size w1 (Y.drewN nq)) := below_drewN KK.out _
  clear c0 c1 c2 c3 c4 c5 r0 r1 r2 r3 r4 r5 g0 g1 g2 g3 g4 g5 y0 v0 v1 zY KY KK
  generalize Y.drewN nq = Y2 at KZ BQ yz vz0 vz1 zZ KKZ ⊢
  obtain ⟨c0, c1, c2, c3, c4, c5⟩ := BQ
  have a0' := fun (o : Obj) => ((Box.mk c0 c1 c2 c3 c4 c5).grow o).c0
  go_upto_region 12 with fail
  have TX := heap_alloc_new Y2 (.cells #[.int .u8 15, .int .u8 0, .int .u16 0, .int .u16 0, .slice none 0 0, .slice none 0 0] 44)
  have KX : Hid (Below w.heap.size w (Y2.alloc (.cells #[.int .u8 15, .int .u8 0, .int .u16 0, .int .u16 0, .slice none 0 0, .slice none 0 0] 44))) := below_new KZ.out _
  have KKX : Hid (Below w1.heap.size w1 (Y2.alloc (.cells #[.int .u8 15, .int .u8 0, .int .u16 0, .int .u16 0, .slice none 0 0, .slice none 0 0] 44))) := below_new KKZ.out _
  have BQ := (Box.mk c0 c1 c2 c3 c4 c5).grow (.cells #[.int .u8 15, .int .u8 0, .int .u16 0, .int .u16 0, .slice none 0 0, .slice none 0 0] 44)
  have yx := (Below.heap_alloc Y2 (.cells #[.int .u8 15, .int .u8 0, .int .u16 0, .int .u16 0, .slice none 0 0, .slice none 0 0] 44) _ zZ).trans yz
  have vx0 := ((below_new (Below.refl _ Y2) (.cells #[.int .u8 15, .int .u8 0, .int .u16 0, .int .u16 0, .slice none 0 0, .slice none 0 0] 44)).cell (p := ⟨b, off, none⟩) (lt_of_cell vz0)).trans vz0
  have vx1 := ((below_new (Below.refl _ Y2) (.cells #[.int .u8 15, .int .u8 0, .int .u16 0, .int .u16 0, .slice none 0 0, .slice none 0 0] 44)).cell (p := ⟨b, off + 1, none⟩) (lt_of_cell vz1)).trans vz1
  have zX : Y2.heap.size < (Y2.alloc (.cells #[.int .u8 15, .int .u8 0, .int .u16 0, .int .u16 0, .slice none 0 0, .slice none 0 0] 44)).heap.size := by rw [World.size_alloc]; omega
  clear c0 c1 c2 c3 c4 c5 yz vz0 vz1 KZ KKZ a0'
  generalize Y2.alloc (.cells #[.int .u8 15, .int .u8 0, .int .u16 0, .int .u16 0, .slice none 0 0, .slice none 0 0] 44) = X at TX KX KKX BQ yx vx0 vx1 zX ⊢
  obtain ⟨c0, c1, c2, c3, c4, c5⟩ := BQ
  obtain ⟨⟨r0, r1, r2, r3, r4, r5⟩, hfz⟩ := block6 yx
  obtain ⟨⟨d0, d1, d2, d3, d4, d5⟩, hfd⟩ := block6 TX
  have g0 := hfz 0
  have g1 := hfz 1
  have g2 := hfz 2
  have g3 := hfz 3
  have g4 := hfz 4
  have g5 := hfz 5
  have f0 := hfd 0
  have f1 := hfd 1
  have f2 := hfd 2
  have f3 := hfd 3
  have f4 := hfd 4
  have f5 := hfd 5
  clear hfz hfd
  have SM := hid_as (rsame_c (HS.out.below KX.out).sl (OY.out.below KKX.out) HS.out.bytes AB.out)
  go_wp2_with fail
  refine SM.out.mono ?_
  rintro e w3 ⟨rfl, hw⟩
  subst w3
  rw [decide_eq_true HU.out]
  go_upto_region 14 with fail
  have hne8 : ¬ Y2.heap.size = w.heap.size := by omega
  have hne9 : ¬ Y2.heap.size = w.heap.size + 1 := by omega
  have hne9' : ¬ w.heap.size + 1 = Y2.heap.size := by omega
  have hm5 : m = 5 := by rw [HS.out.len, HU.out, List.length_take]; simp [reqBytes, tail, wd]
  have HM5 := hid_as hm5
  obtain ⟨N, hN⟩ : ∃ N, N = wordAt bs 3 := ⟨_, rfl⟩
  have hNl : N < 65536 := by rw [hN]; exact wordAt_lt HS.out.bytes 3
  have AT := fun (W : World) (h : Below w.heap.size w W) => at_c b off m cap 3 (bs.getD 3 0) (bs.getD (3 + 1) 0) W (by omega) (by omega) (HS.out.bytes.at 3) (HS.out.bytes.at (3 + 1)) ((HS.out.below h).at 3 (by omega)) ((HS.out.below h).at (3 + 1) (by omega))
  have AT2 : Hid (∀ W : World, Below w.heap.size w W → Calls Try.prog 41 #[.slice (some ⟨b, off, none⟩) m cap, .int .i64 3] W fun e w' => e = .returned (.int .u16 (N : Nat)) ∧ ∃ d, w' = W.drewN d) := fun W h => by rw [hN]; exact AT W h
  have HN := hid_as hN
  clear AT hN hm5
  go_region_held3 (fun w' => w'.cell? ⟨w.heap.size, 1, none⟩ = some (.int .u16 a1)) (first | (simp [World.cell?_setCell_far, hne8, c1]; done)) (first | (go_at_call 41; (with_reducible refine (AT2.out _ ?_).mono ?_); (first | exact KX.out | exact KX.out.drew); rintro e w' ⟨rfl, d5, hw⟩; subst w'))
  all_goals
    go_wp2
    have BF := set_box ((((Box.mk r0 r1 r2 r3 r4 r5).drewN (1 + d5)).far (p := ⟨Y2.heap.size, 2, none⟩) hne9 (.int .u16 a1)).far (p := ⟨Y2.heap.size, 3, none⟩) hne9 (.int .u16 N)) (.int .u8 15) (.int .u8 0) (.int .u16 a1) (.int .u16 N) (.slice none 0 0) (.slice none 0 0)
    obtain ⟨e0, e1, e2, e3, e4, e5⟩ := BF
    have hx : AnsIs ⟨15, a1, a2, a3, a4, a5⟩ bs := HI.out.2 HU.out
    refine bodyPost_ret (v := .tuple #[.agg #[.int .u8 15, .int .u8 0, .int .u16 a1, .int .u16 N, .slice none 0 0, .slice none 0 0], .int .i64 0]) (by simp [results, Try.results22, go_sem, e0, e1, e2, e3, e4, e5]) rfl ⟨below_six (Below.setCell (Below.setCell (below_drewN KX.out _) (by simp; omega) _) (by simp; omega) _) (Nat.le_succ _) _ _ _ _ _ _, Or.inl ⟨⟨HF.out, Or.inr hx⟩, _, rfl, ?_⟩⟩
    have eN : N = a4.length := by
      rw [HN.out, HU.out]
      simp [reqBytes, tail, wd, wordAt]
      omega
    have er : readAns ⟨15, a1, a2, a3, a4, a5⟩ bs = ⟨15, 0, a1, N, [], []⟩ := by
      unfold readAns ansOf echo
      rw [if_pos (H0.out.symm.trans HT.out), eN]
      simp
    rw [er]
    exact ⟨rp_ok (by decide) (by decide) HQ.out.1.addr hNl no_words, _, _, rfl, Sl.nil _, Sl.nil _⟩
set_option linter.unusedSimpArgs false in
set_option linter.unusedVariables false in
set_option maxRecDepth 100000 in
set_option maxHeartbeats 1600000 in
theorem rop16_n (m cap b off x0 x1 a1 a2 a3 nb nr ac rc : Nat) (a4 : List Bool) (a5 : List Nat) (ao ro : Option Addr) (bs : List Nat) (w : World) (hq : IsRq w (.agg #[.int .u8 16, .int .u16 a1, .int .u16 a2, .int .u16 a3, .slice ao nb ac, .slice ro nr rc]) ⟨16, a1, a2, a3, a4, a5⟩) (lb : a4.length ≤ 2500) (lr : a5.length ≤ 200) (hf : Rq.Fits ⟨16, a1, a2, a3, a4, a5⟩) (hS : Bs w b off m cap bs) (hm : 2 ≤ m) (h0 : x0 = bs.getD 0 0) (h1 : x1 = bs.getD 1 0) (hT : x0 = 16) (hU : ¬ bs = (reqBytes ⟨16, a1, a2, a3, a4, a5⟩).take 5) :
    Calls Try.prog 22 #[.agg #[.int .u8 16, .int .u16 a1, .int .u16 a2, .int .u16 a3, .slice ao nb ac, .slice ro nr rc], .slice (some ⟨b, off, none⟩) m cap] w fun e w' => AnsEnd ⟨16, a1, a2, a3, a4, a5⟩ bs w e w' := by
  have hor : bits .or .u8 (16 : Int) 128 = 144 := or_128 (x := 16) (by decide)
  have t1 : ((x0 : Int) == 144) = false := by rw [beq_eq_false_iff_ne]; omega
  have t2 : ((x0 : Int) != 16) = false := by rw [bne_eq_false_iff_eq]; omega
  have hI := ans_w3 (fn := 16) (addr := a1) (n := a2) (addr2 := a3) (bits := a4) (regs := a5) (bs := bs) (by decide) (h0.symm.trans hT) (by rw [← hS.len]; omega)
  have HI := hid_as hI
  have HT := hid_as hT
  have HU := hid_as hU
  have AB : Hid (Bytes ((reqBytes ⟨16, a1, a2, a3, a4, a5⟩).take 5)) := fun x hx => reqBytes_bytes hq.1 (by simp only; omega) (by simp only; omega) x (List.mem_of_mem_take hx)
  have hlen5 : 5 ≤ (reqBytes ⟨16, a1, a2, a3, a4, a5⟩).length := by simp [reqBytes, tail, wd]
  clear hT hU hI
  have hbx : b < w.heap.size := lt_of_cell (hS.at 0 (by omega))
  have k0 : w.cell? ⟨b, off, none⟩ = some (.int .u8 x0) := by rw [h0]; exact hS.at 0 (by omega)
  have k1 : w.cell? ⟨b, off + 1, none⟩ = some (.int .u8 x1) := by rw [h1]; exact hS.at 1 (by omega)
  have l0 : x0 < 256 := by rw [h0]; exact hS.bytes.at 0
  have l1 : x1 < 256 := by rw [h1]; exact hS.bytes.at 1
  have l2 : decide ((m : Int) < 2) = false := decide_eq_false (by omega)
  have i0 : (0 : Int) < (m : Int) := by omega
  have i1 : (1 : Int) < (m : Int) := by omega
  have i1' : 1 < m := by omega
  have H0 := hid_as h0
  have H1 := hid_as h1
  have HS := hid_as hS
  clear h0 h1 hS
  have HQ := hid_as hq
  have RQ := hid_as (fun (W : World) (h : Below w.heap.size w W) => ref_request (hq.below h) lb lr)
  have HF := hid_as hf
  clear hq hf
  go_enter Try.func22, Try.ntmps22
  go_wp2_with fail
  have TW := two_new w 16 a1 a2 a3 (.slice ao nb ac) (.slice ro nr rc)
  generalize ((w.alloc (.cells #[.int .u8 (16 : Nat), .int .u16 a1, .int .u16 a2, .int .u16 a3, .slice ao nb ac, .slice ro nr rc] 26)).alloc (.cells #[.int .u8 0, .int .u8 0, .int .u16 0, .int .u16 0, .slice none 0 0, .slice none 0 0] 44)) = W at TW ⊢
  refine (RQ.out _ TW.bel).mono ?_
  rintro e w1 ⟨hb1, hend⟩
  have q1 := (hb1.block _ TW.siz).trans TW.res
  have B1 := TW.box.below hb1 (Nat.lt_of_succ_lt TW.siz)
  have K1 : Hid (Below w.heap.size w w1) := below_and TW.bel hb1
  have z1 : w.heap.size + 1 < w1.heap.size := Nat.lt_of_lt_of_le TW.siz hb1.size
  clear hb1 TW RQ
  rcases hend with ⟨_, yv, rfl, owny⟩ | ⟨hno, _⟩
  case inr => exact absurd HF.out hno
  obtain ⟨c0, c1, c2, c3, c4, c5⟩ := B1
  obtain ⟨⟨r0, r1, r2, r3, r4, r5⟩, hfz⟩ := block6 q1
  have g0 := hfz 0
  have g1 := hfz 1
  have g2 := hfz 2
  have g3 := hfz 3
  have g4 := hfz 4
  have g5 := hfz 5
  clear hfz
  have k0' : w1.cell? ⟨b, off, none⟩ = some (.int .u8 x0) := (K1.out.cell (p := ⟨b, off, none⟩) hbx).trans k0
  have k1' : w1.cell? ⟨b, off + 1, none⟩ = some (.int .u8 x1) := (K1.out.cell (p := ⟨b, off + 1, none⟩) hbx).trans k1
  have OY0 := own_sl owny
  obtain ⟨yo, yc, hyv, hyc, SY⟩ := sl_take OY0 hlen5
  have OY := hid_as SY
  subst hyv
  obtain ⟨yl, hyl⟩ : ∃ l, l = (reqBytes ⟨16, a1, a2, a3, a4, a5⟩).length := ⟨_, rfl⟩
  rw [← hyl] at hyc hlen5 ⊢
  have n1 : (5 : Int) ≤ (yc : Int) := by omega
  have n2 : 5 ≤ yc := by omega
  clear owny OY0 SY hyl
  go_upto_region 4 with fail
  go_quiet (fail)
  go_upto_region 8 with fail
  have KY : Hid (Below w.heap.size w (w1.drewN nq)) := below_drewN K1.out _
  have BQ := (Box.mk c0 c1 c2 c3 c4 c5).drewN nq
  have y0 : (w1.drewN nq).heap[w.heap.size + 1]? = some (.cells #[.int .u8 0, .int .u8 0, .int .u16 0, .int .u16 0, .slice none 0 0, .slice none 0 0] 44 (0, 0)) := q1
  have v0 : (w1.drewN nq).cell? ⟨b, off, none⟩ = some (.int .u8 x0) := k0'
  have v1 : (w1.drewN nq).cell? ⟨b, off + 1, none⟩ = some (.int .u8 x1) := k1'
  have zY : w.heap.size + 1 < (w1.drewN nq).heap.size := z1
  have KK : Hid (Below w1.heap.size w1 (w1.drewN nq)) := below_drewN (Below.refl _ _) _
  clear c0 c1 c2 c3 c4 c5 r0 r1 r2 r3 r4 r5 g0 g1 g2 g3 g4 g5 k0' k1'
  generalize w1.drewN nq = Y at KY BQ y0 v0 v1 zY KK ⊢
  obtain ⟨c0, c1, c2, c3, c4, c5⟩ := BQ
  obtain ⟨⟨r0, r1, r2, r3, r4, r5⟩, hfz⟩ := block6 y0
  have g0 := hfz 0
  have g1 := hfz 1
  have g2 := hfz 2
  have g3 := hfz 3
  have g4 := hfz 4
  have g5 := hfz 5
  clear hfz
  go_quiet (fail)
  go_upto_region 10 with fail
  have KZ : Hid (Below w.heap.size w (Y.drewN nq)) := below_drewN KY.out _
  have BQ := (Box.mk c0 c1 c2 c3 c4 c5).drewN nq
  have yz : (Y.drewN nq).heap[w.heap.size + 1]? = some (.cells #[.int .u8 0, .int .u8 0, .int .u16 0, .int .u16 0, .slice none 0 0, .slice none 0 0] 44 (0, 0)) := y0
  have vz0 : (Y.drewN nq).cell? ⟨b, off, none⟩ = some (.int .u8 x0) := v0
  have vz1 : (Y.drewN nq).cell? ⟨b, off + 1, none⟩ = some (.int .u8 x1) := v1
  have zZ : w.heap.size + 1 < (Y.drewN nq).heap.size := zY
  have KKZ : Hid (Below w1.heap.size w1 (Y.drewN nq)) := below_drewN KK.out _
  clear c0 c1 c2 c3 c4 c5 r0 r1 r2 r3 r4 r5 g0 g1 g2 g3 g4 g5 y0 v0 v1 zY KY KK
  generalize Y.drewN nq = Y2 at KZ BQ yz vz0 vz1 zZ KKZ ⊢
  obtain ⟨c0, c1, c2, c3, c4, c5⟩ := BQ
  have a0' := fun (o : Obj) => ((Box.mk c0 c1 c2 c3 c4 c5).grow o).c0
  go_upto_region 12 with fail
  have TX := heap_alloc_new Y2 (.cells #[.int .u8 16, .int .u8 0, .int .u16 0, .int .u16 0, .slice none 0 0, .slice none 0 0] 44)
  have KX : Hid (Below w.heap.size w (Y2.alloc (.cells #[.int .u8 16, .int .u8 0, .int .u16 0, .int .u16 0, .slice none 0 0, .slice none 0 0] 44))) := below_new KZ.out _
  have KKX : Hid (Below w1.heap.size w1 (Y2.alloc (.cells #[.int .u8 16, .int .u8 0, .int .u16 0, .int .u16 0, .slice none 0 0, .slice none 0 0] 44))) := below_new KKZ.out _
  have BQ := (Box.mk c0 c1 c2 c3 c4 c5).grow (.cells #[.int .u8 16, .int .u8 0, .int .u16 0, .int .u16 0, .slice none 0 0, .slice none 0 0] 44)
  have yx := (Below.heap_alloc Y2 (.cells #[.int .u8 16, .int .u8 0, .int .u16 0, .int .u16 0, .slice none 0 0, .slice none 0 0] 44) _ zZ).trans yz
  have vx0 := ((below_new (Below.refl _ Y2) (.cells #[.int .u8 16, .int .u8 0, .int .u16 0, .int .u16 0, .slice none 0 0, .slice none 0 0] 44)).cell (p := ⟨b, off, none⟩) (lt_of_cell vz0)).trans vz0
  have vx1 := ((below_new (Below.refl _ Y2) (.cells #[.int .u8 16, .int .u8 0, .int .u16 0, .int .u16 0, .slice none 0 0, .slice none 0 0] 44)).cell (p := ⟨b, off + 1, none⟩) (lt_of_cell vz1)).trans vz1
  have zX : Y2.heap.size < (Y2.alloc (.cells #[.int .u8 16, .int .u8 0, .int .u16 0, .int .u16 0, .slice none 0 0, .slice none 0 0] 44)).heap.size := by rw [World.size_alloc]; omega
  clear c0 c1 c2 c3 c4 c5 yz vz0 vz1 KZ KKZ a0'
  generalize Y2.alloc (.cells #[.int .u8 16, .int .u8 0, .int .u16 0, .int .u16 0, .slice none 0 0, .slice none 0 0] 44) = X at TX KX KKX BQ yx vx0 vx1 zX ⊢
  obtain ⟨c0, c1, c2, c3, c4, c5⟩ := BQ
  obtain ⟨⟨r0, r1, r2, r3, r4, r5⟩, hfz⟩ := block6 yx
  obtain ⟨⟨d0, d1, d2, d3, d4, d5⟩, hfd⟩ := block6 TX
  have g0 := hfz 0
  have g1 := hfz 1
  have g2 := hfz 2
  have g3 := hfz 3
  have g4 := hfz 4
  have g5 := hfz 5
  have f0 := hfd 0
  have f1 := hfd 1
  have f2 := hfd 2
  have f3 := hfd 3
  have f4 := hfd 4
  have f5 := hfd 5
  clear hfz hfd
  have SM := hid_as (rsame_c (HS.out.below KX.out).sl (OY.out.below KKX.out) HS.out.bytes AB.out)
  go_wp2_with fail
  refine SM.out.mono ?_
  rintro e w3 ⟨rfl, hw⟩
  subst w3
  rw [decide_eq_false HU.out]
  go_wp2
  have BF := set_box (Box.mk r0 r1 r2 r3 r4 r5) (.int .u8 0) (.int .u8 0) (.int .u16 0) (.int .u16 0) (.slice none 0 0) (.slice none 0 0)
  obtain ⟨e0, e1, e2, e3, e4, e5⟩ := BF
  refine bodyPost_ret (v := .tuple #[.agg #[.int .u8 0, .int .u8 0, .int .u16 0, .int .u16 0, .slice none 0 0, .slice none 0 0], .int .i64 30]) (by simp [results, Try.results22, go_sem, e0, e1, e2, e3, e4, e5]) rfl ⟨below_six KX.out (Nat.le_succ _) _ _ _ _ _ _, Or.inr ⟨fun h => ?_, rfl⟩⟩
  have hne : ¬ (bs.getD 0 0 = 16 + 128) := by have := H0.out; have := HT.out; omega
  rcases h.2 with h2 | h2
  · exact hne h2.2.1
  · exact HU.out (HI.out.1 h2)
set_option linter.unusedSimpArgs false in
set_option linter.unusedVariables false in
set_option maxRecDepth 100000 in
set_option maxHeartbeats 1600000 in
theorem rop16_y (m cap b off x0 x1 a1 a2 a3 nb nr ac rc : Nat) (a4 : List Bool) (a5 : List Nat) (ao ro : Option Addr) (bs : List Nat) (w : World) (hq : IsRq w (.agg #[.int .u8 16, .int .u16 a1, .int .u16 a2, .int .u16 a3, .slice ao nb ac, .slice ro nr rc]) ⟨16, a1, a2, a3, a4, a5⟩) (lb : a4.length ≤ 2500) (lr : a5.length ≤ 200) (hf : Rq.Fits ⟨16, a1, a2, a3, a4, a5⟩) (hS : Bs w b off m cap bs) (hm : 2 ≤ m) (h0 : x0 = bs.getD 0 0) (h1 : x1 = bs.getD 1 0) (hT : x0 = 16) (hU : bs = (reqBytes ⟨16, a1, a2, a3, a4, a5⟩).take 5) :
    Calls Try.prog 22 #[.agg #[.int .u8 16, .int .u16 a1, .int .u16 a2, .int .u16 a3, .slice ao nb ac, .slice ro nr rc], .slice (some ⟨b, off, none⟩) m cap] w fun e w' => AnsEnd ⟨16, a1, a2, a3, a4, a5⟩ bs w e w' := by
  have hor : bits .or .u8 (16 : Int) 128 = 144 := or_128 (x := 16) (by decide)
  have t1 : ((x0 : Int) == 144) = false := by rw [beq_eq_false_iff_ne]; omega
  have t2 : ((x0 : Int) != 16) = false := by rw [bne_eq_false_iff_eq]; omega
  have hI := ans_w3 (fn := 16) (addr := a1) (n := a2) (addr2 := a3) (bits := a4) (regs := a5) (bs := bs) (by decide) (h0.symm.trans hT) (by rw [← hS.len]; omega)
  have HI := hid_as hI
  have HT := hid_as hT
  have HU := hid_as hU
  have AB : Hid (Bytes ((reqBytes ⟨16, a1, a2, a3, a4, a5⟩).take 5)) := fun x hx => reqBytes_bytes hq.1 (by simp only; omega) (by simp only; omega) x (List.mem_of_mem_take hx)
  have hlen5 : 5 ≤ (reqBytes ⟨16, a1, a2, a3, a4, a5⟩).length := by simp [reqBytes, tail, wd]
  clear hT hU hI
  have hbx : b < w.heap.size := lt_of_cell (hS.at 0 (by omega))
  have k0 : w.cell? ⟨b, off, none⟩ = some (.int .u8 x0) := by rw [h0]; exact hS.at 0 (by omega)
  have k1 : w.cell? ⟨b, off + 1, none⟩ = some (.int .u8 x1) := by rw [h1]; exact hS.at 1 (by omega)
  have l0 : x0 < 256 := by rw [h0]; exact hS.bytes.at 0
  have l1 : x1 < 256 := by rw [h1]; exact hS.bytes.at 1
  have l2 : decide ((m : Int) < 2) = false := decide_eq_false (by omega)
  have i0 : (0 : Int) < (m : Int) := by omega
  have i1 : (1 : Int) < (m : Int) := by omega
  have i1' : 1 < m := by omega
  have H0 := hid_as h0
  have H1 := hid_as h1
  have HS := hid_as hS
  clear h0 h1 hS
  have HQ := hid_as hq
  have RQ := hid_as (fun (W : World) (h : Below w.heap.size w W) => ref_request (hq.below h) lb lr)
  have HF := hid_as hf
  clear hq hf
  go_enter Try.func22, Try.ntmps22
  go_wp2_with fail
  have TW := two_new w 16 a1 a2 a3 (.slice ao nb ac) (.slice ro nr rc)
  generalize ((w.alloc (.cells #[.int .u8 (16 : Nat), .int .u16 a1, .int .u16 a2, .int .u16 a3, .slice ao nb ac, .slice ro nr rc] 26)).alloc (.cells #[.int .u8 0, .int .u8 0, .int .u16 0, .int .u16 0, .slice none 0 0, .slice none 0 0] 44)) = W at TW ⊢
  refine (RQ.out _ TW.bel).mono ?_
  rintro e w1 ⟨hb1, hend⟩
  have q1 := (hb1.block _ TW.siz).trans TW.res
  have B1 := TW.box.below hb1 (Nat.lt_of_succ_lt TW.siz)
  have K1 : Hid (Below w.heap.size w w1) := below_and TW.bel hb1
  have z1 : w.heap.size + 1 < w1.heap.size := Nat.lt_of_lt_of_le TW.siz hb1.size
  clear hb1 TW RQ
  rcases hend with ⟨_, yv, rfl, owny⟩ | ⟨hno, _⟩
  case inr => exact absurd HF.out hno
  obtain ⟨c0, c1, c2, c3, c4, c5⟩ := B1
  obtain ⟨⟨r0, r1, r2, r3, r4, r5⟩, hfz⟩ := block6 q1
  have g0 := hfz 0
  have g1 := hfz 1
  have g2 := hfz 2
  have g3 := hfz 3
  have g4 := hfz 4
  have g5 := hfz 5
  clear hfz
  have k0' : w1.cell? ⟨b, off, none⟩ = some (.int .u8 x0) := (K1.out.cell (p := ⟨b, off, none⟩) hbx).trans k0
  have k1' : w1.cell? ⟨b, off + 1, none⟩ = some (.int .u8 x1) := (K1.out.cell (p := ⟨b, off + 1, none⟩) hbx).trans k1
  have OY0 := own_sl owny
  obtain ⟨yo, yc, hyv, hyc, SY⟩ := sl_take OY0 hlen5
  have OY := hid_as SY
  subst hyv
  obtain ⟨yl, hyl⟩ : ∃ l, l = (reqBytes ⟨16, a1, a2, a3, a4, a5⟩).length := ⟨_, rfl⟩
  rw [← hyl] at hyc hlen5 ⊢
  have n1 : (5 : Int) ≤ (yc : Int) := by omega
  have n2 : 5 ≤ yc := by omega
  clear owny OY0 SY hyl
  go_upto_region 4 with fail
  go_quiet (fail)
  go_upto_region 8 with fail
  have KY : Hid (Below w.heap.size w (w1.drewN nq)) := below_drewN K1.out _
  have BQ := (Box.mk c0 c1 c2 c3 c4 c5).drewN nq
  have y0 : (w1.drewN nq).heap[w.heap.size + 1]? = some (.cells #[.int .u8 0, .int .u8 0, .int .u16 0, .int .u16 0, .slice none 0 0, .slice none 0 0] 44 (0, 0)) := q1
  have v0 : (w1.drewN nq).cell? ⟨b, off, none⟩ = some (.int .u8 x0) := k0'
  have v1 : (w1.drewN nq).cell? ⟨b, off + 1, none⟩ = some (.int .u8 x1) := k1'
  have zY : w.heap.size + 1 < (w1.drewN nq).heap.size := z1
  have KK : Hid (Below w1.heap.size w1 (w1.drewN nq)) := below_drewN (Below.refl _ _) _
  clear c0 c1 c2 c3 c4 c5 r0 r1 r2 r3 r4 r5 g0 g1 g2 g3 g4 g5 k0' k1'
  generalize w1.drewN nq = Y at KY BQ y0 v0 v1 zY KK ⊢
  obtain ⟨c0, c1, c2, c3, c4, c5⟩ := BQ
  obtain ⟨⟨r0, r1, r2, r3, r4, r5⟩, hfz⟩ := block6 y0
  have g0 := hfz 0
  have g1 := hfz 1
  have g2 := hfz 2
  have g3 := hfz 3
  have g4 := hfz 4
  have g5 := hfz 5
  clear hfz
  go_quiet (fail)
  go_upto_region 10 with fail
  have KZ : Hid (Below w.heap.size w (Y.drewN nq)) := below_drewN KY.out _
  have BQ := (Box.mk c0 c1 c2 c3 c4 c5).drewN nq
  have yz : (Y.drewN nq).heap[w.heap.size + 1]? = some (.cells #[.int .u8 0, .int .u8 0, .int .u16 0, .int .u16 0, .slice none 0 0, .slice none 0 0] 44 (0, 0)) := y0
  have vz0 : (Y.drewN nq).cell? ⟨b, off, none⟩ = some (.int .u8 x0) := v0
  have vz1 : (Y.drewN nq).cell? ⟨b, off + 1, none⟩ = some (.int .u8 x1) := v1
  have zZ : w.heap.size + 1 < (Y.drewN nq).heap.size := zY
  have KKZ : Hid (Below w1.heap.size w1 (Y.drewN nq)) := below_drewN KK.out _
  clear c0 c1 c2 c3 c4 c5 r0 r1 r2 r3 r4 r5 g0 g1 g2 g3 g4 g5 y0 v0 v1 zY KY KK
  generalize Y.drewN nq = Y2 at KZ BQ yz vz0 vz1 zZ KKZ ⊢
  obtain ⟨c0, c1, c2, c3, c4, c5⟩ := BQ
  have a0' := fun (o : Obj) => ((Box.mk c0 c1 c2 c3 c4 c5).grow o).c0
  go_upto_region 12 with fail
  have TX := heap_alloc_new Y2 (.cells #[.int .u8 16, .int .u8 0, .int .u16 0, .int .u16 0, .slice none 0 0, .slice none 0 0] 44)
  have KX : Hid (Below w.heap.size w (Y2.alloc (.cells #[.int .u8 16, .int .u8 0, .int .u16 0, .int .u16 0, .slice none 0 0, .slice none 0 0] 44))) := below_new KZ.out _
  have KKX : Hid (Below w1.heap.size w1 (Y2.alloc (.cells #[.int .u8 16, .int .u8 0, .int .u16 0, .int .u16 0, .slice none 0 0, .slice none 0 0] 44))) := below_new KKZ.out _
  have BQ := (Box.mk c0 c1 c2 c3 c4 c5).grow (.cells #[.int .u8 16, .int .u8 0, .int .u16 0, .int .u16 0, .slice none 0 0, .slice none 0 0] 44)
  have yx := (Below.heap_alloc Y2 (.cells #[.int .u8 16, .int .u8 0, .int .u16 0, .int .u16 0, .slice none 0 0, .slice none 0 0] 44) _ zZ).trans yz
  have vx0 := ((below_new (Below.refl _ Y2) (.cells #[.int .u8 16, .int .u8 0, .int .u16 0, .int .u16 0, .slice none 0 0, .slice none 0 0] 44)).cell (p := ⟨b, off, none⟩) (lt_of_cell vz0)).trans vz0
  have vx1 := ((below_new (Below.refl _ Y2) (.cells #[.int .u8 16, .int .u8 0, .int .u16 0, .int .u16 0, .slice none 0 0, .slice none 0 0] 44)).cell (p := ⟨b, off + 1, none⟩) (lt_of_cell vz1)).trans vz1
  have zX : Y2.heap.size < (Y2.alloc (.cells #[.int .u8 16, .int .u8 0, .int .u16 0, .int .u16 0, .slice none 0 0, .slice none 0 0] 44)).heap.size := by rw [World.size_alloc]; omega
  clear c0 c1 c2 c3 c4 c5 yz vz0 vz1 KZ KKZ a0'
  generalize Y2.alloc (.cells #[.int .u8 16, .int .u8 0, .int .u16 0, .int .u16 0, .slice none 0 0, .slice none 0 0] 44) = X at TX KX KKX BQ yx vx0 vx1 zX ⊢
  obtain ⟨c0, c1, c2, c3, c4, c5⟩ := BQ
  obtain ⟨⟨r0, r1, r2, r3, r4, r5⟩, hfz⟩ := block6 yx
  obtain ⟨⟨d0, d1, d2, d3, d4, d5⟩, hfd⟩ := block6 TX
  have g0 := hfz 0
  have g1 := hfz 1
  have g2 := hfz 2
  have g3 := hfz 3
  have g4 := hfz 4
  have g5 := hfz 5
  have f0 := hfd 0
  have f1 := hfd 1
  have f2 := hfd 2
  have f3 := hfd 3
  have f4 := hfd 4
  have f5 := hfd 5
  clear hfz hfd
  have SM := hid_as (rsame_c (HS.out.below KX.out).sl (OY.out.below KKX.out) HS.out.bytes AB.out)
  go_wp2_with fail
  refine SM.out.mono ?_
  rintro e w3 ⟨rfl, hw⟩
  subst w3
  rw [decide_eq_true HU.out]
  go_upto_region 14 with fail
  have hne8 : ¬ Y2.heap.size = w.heap.size := by omega
  have hne9 : ¬ Y2.heap.size = w.heap.size + 1 := by omega
  have hne9' : ¬ w.heap.size + 1 = Y2.heap.size := by omega
  have hm5 : m = 5 := by rw [HS.out.len, HU.out, List.length_take]; simp [reqBytes, tail, wd]
  have HM5 := hid_as hm5
  obtain ⟨N, hN⟩ : ∃ N, N = wordAt bs 3 := ⟨_, rfl⟩
  have hNl : N < 65536 := by rw [hN]; exact wordAt_lt HS.out.bytes 3
  have AT := fun (W : World) (h : Below w.heap.size w W) => at_c b off m cap 3 (bs.getD 3 0) (bs.getD (3 + 1) 0) W (by omega) (by omega) (HS.out.bytes.at 3) (HS.out.bytes.at (3 + 1)) ((HS.out.below h).at 3 (by omega)) ((HS.out.below h).at (3 + 1) (by omega))
  have AT2 : Hid (∀ W : World, Below w.heap.size w W → Calls Try.prog 41 #[.slice (some ⟨b, off, none⟩) m cap, .int .i64 3] W fun e w' => e = .returned (.int .u16 (N : Nat)) ∧ ∃ d, w' = W.drewN d) := fun W h => by rw [hN]; exact AT W h
  have HN := hid_as hN
  clear AT hN hm5
  go_region_held3 (fun w' => w'.cell? ⟨w.heap.size, 1, none⟩ = some (.int .u16 a1)) (first | (simp [World.cell?_setCell_far, hne8, c1]; done)) (first | (go_at_call 41; (with_reducible refine (AT2.out _ ?_).mono ?_); (first | exact KX.out | exact KX.out.drew); rintro e w' ⟨rfl, d5, hw⟩; subst w'))
  all_goals
    go_wp2
    have BF := set_box ((((Box.mk r0 r1 r2 r3 r4 r5).drewN (1 + d5)).far (p := ⟨Y2.heap.size, 2, none⟩) hne9 (.int .u16 a1)).far (p := ⟨Y2.heap.size, 3, none⟩) hne9 (.int .u16 N)) (.int .u8 16) (.int .u8 0) (.int .u16 a1) (.int .u16 N) (.slice none 0 0) (.slice none 0 0)
    obtain ⟨e0, e1, e2, e3, e4, e5⟩ := BF
    have hx : AnsIs ⟨16, a1, a2, a3, a4, a5⟩ bs := HI.out.2 HU.out
    refine bodyPost_ret (v := .tuple #[.agg #[.int .u8 16, .int .u8 0, .int .u16 a1, .int .u16 N, .slice none 0 0, .slice none 0 0], .int .i64 0]) (by simp [results, Try.results22, go_sem, e0, e1, e2, e3, e4, e5]) rfl ⟨below_six (Below.setCell (Below.setCell (below_drewN KX.out _) (by simp; omega) _) (by simp; omega) _) (Nat.le_succ _) _ _ _ _ _ _, Or.inl ⟨⟨HF.out, Or.inr hx⟩, _, rfl, ?_⟩⟩
    have eN : N = a5.length := by
      rw [HN.out, HU.out]
      simp [reqBytes, tail, wd, wordAt]
      omega
    have er : readAns ⟨16, a1, a2, a3, a4, a5⟩ bs = ⟨16, 0, a1, N, [], []⟩ := by
      unfold readAns ansOf echo
      rw [if_pos (H0.out.symm.trans HT.out), eN]
      simp
    rw [er]
    exact ⟨rp_ok (by decide) (by decide) HQ.out.1.addr hNl no_words, _, _, rfl, Sl.nil _, Sl.nil _⟩
end Go.Proofs.Ytehbbkdiekgpbaa
