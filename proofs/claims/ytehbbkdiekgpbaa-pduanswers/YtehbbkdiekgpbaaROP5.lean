/- The walk: the reference reads a reply: functions 5, 6, 22. -/
import Derived.Test.YtehbbkdiekgpbaaROPB
namespace Go.Proofs.Ytehbbkdiekgpbaa
open Go.RowKit
open Pdu
set_option linter.unusedSimpArgs false in
set_option linter.unusedVariables false in
set_option maxRecDepth 100000 in
set_option maxHeartbeats 1600000 in
theorem rop5_n (m cap b off x0 x1 a1 a2 a3 nb nr ac rc : Nat) (a4 : List Bool) (a5 : List Nat) (ao ro : Option Addr) (bs : List Nat) (w : World) (hq : IsRq w (.agg #[.int .u8 5, .int .u16 a1, .int .u16 a2, .int .u16 a3, .slice ao nb ac, .slice ro nr rc]) ⟨5, a1, a2, a3, a4, a5⟩) (lb : a4.length ≤ 2500) (lr : a5.length ≤ 200) (hf : Rq.Fits ⟨5, a1, a2, a3, a4, a5⟩) (hS : Bs w b off m cap bs) (hm : 2 ≤ m) (h0 : x0 = bs.getD 0 0) (h1 : x1 = bs.getD 1 0) (hT : x0 = 5) (hU : ¬ bs = reqBytes ⟨5, a1, a2, a3, a4, a5⟩) :
    Calls Try.prog 22 #[.agg #[.int .u8 5, .int .u16 a1, .int .u16 a2, .int .u16 a3, .slice ao nb ac, .slice ro nr rc], .slice (some ⟨b, off, none⟩) m cap] w fun e w' => AnsEnd ⟨5, a1, a2, a3, a4, a5⟩ bs w e w' := by
  have hor : bits .or .u8 (5 : Int) 128 = 133 := or_128 (x := 5) (by decide)
  have t1 : ((x0 : Int) == 133) = false := by rw [beq_eq_false_iff_ne]; omega
  have t2 : ((x0 : Int) != 5) = false := by rw [bne_eq_false_iff_eq]; omega
  have hI := ans_w2 (fn := 5) (addr := a1) (n := a2) (addr2 := a3) (bits := a4) (regs := a5) (bs := bs) (by decide) (h0.symm.trans hT) (by rw [← hS.len]; omega)
  have HI := hid_as hI
  have HT := hid_as hT
  have HU := hid_as hU
  have AB : Hid (Bytes (reqBytes ⟨5, a1, a2, a3, a4, a5⟩)) := reqBytes_bytes hq.1 (by simp only; omega) (by simp only; omega)
  clear hT hU hI
  have hbx : b < w.heap.size := lt_of_cell (hS.at 0 (by omega))
  have k0 : w.cell? ⟨b, off, none⟩ = some (.int .u8 x0) := by rw [h0]; exact hS.at 0 (by omega)
  have k1 : w.cell? ⟨b, off + 1, none⟩ = some (.int .u8 x1) := by rw [h1]; exact hS.at 1 (by omega)
  have l0 : x0 < 256 := by rw [h0]; exact hS.bytes.at 0
  have l1 : x1 < 256 := by rw [h1]; exact hS.bytes.at 1
  have l2 : decide ((m : Int) < 2) = false := decide_eq_false (by omega)
  have i0 : (0 : Int) < (m : Int) := by omega
  have i1 : (1 : Int) < (m : Int) := by omega
  have i1' : 1 < m := by omega
  have H0 := hid_as h0
  have H1 := hid_as h1
  have HS := hid_as hS
  clear h0 h1 hS
  have HQ := hid_as hq
  have RQ := hid_as (fun (W : World) (h : Below w.heap.size w W) => ref_request (hq.below h) lb lr)
  have HF := hid_as hf
  clear hq hf
  go_enter Try.func22, Try.ntmps22
  go_wp2_with fail
  have TW := two_new w 5 a1 a2 a3 (.slice ao nb ac) (.slice ro nr rc)
  generalize ((w.alloc (.cells #[.int .u8 (5 : Nat), .int .u16 a1, .int .u16 a2, .int .u16 a3, .slice ao nb ac, .slice ro nr rc] 26)).alloc (.cells #[.int .u8 0, .int .u8 0, .int .u16 0, .int .u16 0, .slice none 0 0, .slice none 0 0] 44)) = W at TW ⊢
  refine (RQ.out _ TW.bel).mono ?_
  rintro e w1 ⟨hb1, hend⟩
  have q1 := (hb1.block _ TW.siz).trans TW.res
  have B1 := TW.box.below hb1 (Nat.lt_of_succ_lt TW.siz)
  have K1 : Hid (Below w.heap.size w w1) := below_and TW.bel hb1
  have z1 : w.heap.size + 1 < w1.heap.size := Nat.lt_of_lt_of_le TW.siz hb1.size
  clear hb1 TW RQ
  rcases hend with ⟨_, yv, rfl, owny⟩ | ⟨hno, _⟩
  case inr => exact absurd HF.out hno
  obtain ⟨c0, c1, c2, c3, c4, c5⟩ := B1
  obtain ⟨⟨r0, r1, r2, r3, r4, r5⟩, hfz⟩ := block6 q1
  have g0 := hfz 0
  have g1 := hfz 1
  have g2 := hfz 2
  have g3 := hfz 3
  have g4 := hfz 4
  have g5 := hfz 5
  clear hfz
  have k0' : w1.cell? ⟨b, off, none⟩ = some (.int .u8 x0) := (K1.out.cell (p := ⟨b, off, none⟩) hbx).trans k0
  have k1' : w1.cell? ⟨b, off + 1, none⟩ = some (.int .u8 x1) := (K1.out.cell (p := ⟨b, off + 1, none⟩) hbx).trans k1
  have OY := hid_as (own_sl owny)
  clear owny
  go_upto_region 4 with fail
  go_quiet (fail)
  go_upto_region 8 with fail
  have KY : Hid (Below w.heap.size w (w1.drewN nq)) := below_drewN K1.out _
  have BQ := (Box.mk c0 c1 c2 c3 c4 c5).drewN nq
  have y0 : (w1.drewN nq).heap[w.heap.size + 1]? = some (.cells #[.int .u8 0, .int .u8 0, .int .u16 0, .int .u16 0, .slice none 0 0, .slice none 0 0] 44 (0, 0)) := q1
  have v0 : (w1.drewN nq).cell? ⟨b, off, none⟩ = some (.int .u8 x0) := k0'
  have v1 : (w1.drewN nq).cell? ⟨b, off + 1, none⟩ = some (.int .u8 x1) := k1'
  have zY : w.heap.size + 1 < (w1.drewN nq).heap.size := z1
  have KK : Hid (Below w1.heap.size w1 (w1.drewN nq)) := below_drewN (Below.refl _ _) _
  clear c0 c1 c2 c3 c4 c5 r0 r1 r2 r3 r4 r5 g0 g1 g2 g3 g4 g5 k0' k1'
  generalize w1.drewN nq = Y at KY BQ y0 v0 v1 zY KK ⊢
  obtain ⟨c0, c1, c2, c3, c4, c5⟩ := BQ
  obtain ⟨⟨r0, r1, r2, r3, r4, r5⟩, hfz⟩ := block6 y0
  have g0 := hfz 0
  have g1 := hfz 1
  have g2 := hfz 2
  have g3 := hfz 3
  have g4 := hfz 4
  have g5 := hfz 5
  clear hfz
  go_quiet (fail)
  go_upto_region 10 with fail
  have KZ : Hid (Below w.heap.size w (Y.drewN nq)) := below_drewN KY.out _
  have BQ := (Box.mk c0 c1 c2 c3 c4 c5).drewN nq
  have yz : (Y.drewN nq).heap[w.heap.size + 1]? = some (.cells #[.int .u8 0, .int .u8 0, .int .u16 0, .int .u16 0, .slice none 0 0, .slice none 0 0] 44 (0, 0)) := y0
  have vz0 : (Y.drewN nq).cell? ⟨b, off, none⟩ = some (.int .u8 x0) := v0
  have vz1 : (Y.drewN nq).cell? ⟨b, off + 1, none⟩ = some (.int .u8 x1) := v1
  have zZ : w.heap.size + 1 < (Y.drewN nq).heap.size := zY
  have KKZ : Hid (Below w1.heap.size w1 (Y.drewN nq)) := below_drewN KK.out _
  clear c0 c1 c2 c3 c4 c5 r0 r1 r2 r3 r4 r5 g0 g1 g2 g3 g4 g5 y0 v0 v1 zY KY KK
  generalize Y.drewN nq = Y2 at KZ BQ yz vz0 vz1 zZ KKZ ⊢
  obtain ⟨c0, c1, c2, c3, c4, c5⟩ := BQ
  have a0' := fun (o : Obj) => ((Box.mk c0 c1 c2 c3 c4 c5).grow o).c0
  go_upto_region 29 with fail
  have TX := heap_alloc_new Y2 (.cells #[.int .u8 5, .int .u8 0, .int .u16 0, .int .u16 0, .slice none 0 0, .slice none 0 0] 44)
  have KX : Hid (Below w.heap.size w (Y2.alloc (.cells #[.int .u8 5, .int .u8 0, .int .u16 0, .int .u16 0, .slice none 0 0, .slice none 0 0] 44))) := below_new KZ.out _
  have KKX : Hid (Below w1.heap.size w1 (Y2.alloc (.cells #[.int .u8 5, .int .u8 0, .int .u16 0, .int .u16 0, .slice none 0 0, .slice none 0 0] 44))) := below_new KKZ.out _
  have BQ := (Box.mk c0 c1 c2 c3 c4 c5).grow (.cells #[.int .u8 5, .int .u8 0, .int .u16 0, .int .u16 0, .slice none 0 0, .slice none 0 0] 44)
  have yx := (Below.heap_alloc Y2 (.cells #[.int .u8 5, .int .u8 0, .int .u16 0, .int .u16 0, .slice none 0 0, .slice none 0 0] 44) _ zZ).trans yz
  have vx0 := ((below_new (Below.refl _ Y2) (.cells #[.int .u8 5, .int .u8 0, .int .u16 0, .int .u16 0, .slice none 0 0, .slice none 0 0] 44)).cell (p := ⟨b, off, none⟩) (lt_of_cell vz0)).trans vz0
  have vx1 := ((below_new (Below.refl _ Y2) (.cells #[.int .u8 5, .int .u8 0, .int .u16 0, .int .u16 0, .slice none 0 0, .slice none 0 0] 44)).cell (p := ⟨b, off + 1, none⟩) (lt_of_cell vz1)).trans vz1
  have zX : Y2.heap.size < (Y2.alloc (.cells #[.int .u8 5, .int .u8 0, .int .u16 0, .int .u16 0, .slice none 0 0, .slice none 0 0] 44)).heap.size := by rw [World.size_alloc]; omega
  clear c0 c1 c2 c3 c4 c5 yz vz0 vz1 KZ KKZ a0'
  generalize Y2.alloc (.cells #[.int .u8 5, .int .u8 0, .int .u16 0, .int .u16 0, .slice none 0 0, .slice none 0 0] 44) = X at TX KX KKX BQ yx vx0 vx1 zX ⊢
  obtain ⟨c0, c1, c2, c3, c4, c5⟩ := BQ
  obtain ⟨⟨r0, r1, r2, r3, r4, r5⟩, hfz⟩ := block6 yx
  obtain ⟨⟨d0, d1, d2, d3, d4, d5⟩, hfd⟩ := block6 TX
  have g0 := hfz 0
  have g1 := hfz 1
  have g2 := hfz 2
  have g3 := hfz 3
  have g4 := hfz 4
  have g5 := hfz 5
  have f0 := hfd 0
  have f1 := hfd 1
  have f2 := hfd 2
  have f3 := hfd 3
  have f4 := hfd 4
  have f5 := hfd 5
  clear hfz hfd
  have SM := hid_as (rsame_c (HS.out.below KX.out).sl (OY.out.below KKX.out) HS.out.bytes AB.out)
  go_wp2_with fail
  refine SM.out.mono ?_
  rintro e w3 ⟨rfl, hw⟩
  subst w3
  rw [decide_eq_false HU.out]
  go_wp2
  have BF := set_box (Box.mk r0 r1 r2 r3 r4 r5) (.int .u8 0) (.int .u8 0) (.int .u16 0) (.int .u16 0) (.slice none 0 0) (.slice none 0 0)
  obtain ⟨e0, e1, e2, e3, e4, e5⟩ := BF
  refine bodyPost_ret (v := .tuple #[.agg #[.int .u8 0, .int .u8 0, .int .u16 0, .int .u16 0, .slice none 0 0, .slice none 0 0], .int .i64 30]) (by simp [results, Try.results22, go_sem, e0, e1, e2, e3, e4, e5]) rfl ⟨below_six KX.out (Nat.le_succ _) _ _ _ _ _ _, Or.inr ⟨fun h => ?_, rfl⟩⟩
  have hne : ¬ (bs.getD 0 0 = 5 + 128) := by have := H0.out; have := HT.out; omega
  rcases h.2 with h2 | h2
  · exact hne h2.2.1
  · exact HU.out (HI.out.1 h2)
set_option linter.unusedSimpArgs false in
set_option linter.unusedVariables false in
set_option maxRecDepth 100000 in
set_option maxHeartbeats 1600000 in
theorem rop5_y (m cap b off x0 x1 a1 a2 a3 nb nr ac rc : Nat) (a4 : List Bool) (a5 : List Nat) (ao ro : Option Addr) (bs : List Nat) (w : World) (hq : IsRq w (.agg #[.int .u8 5, .int .u16 a1, .int .u16 a2, .int .u16 a3, .slice ao nb ac, .slice ro nr rc]) ⟨5, a1, a2, a3, a4, a5⟩) (lb : a4.length ≤ 2500) (lr : a5.length ≤ 200) (hf : Rq.Fits ⟨5, a1, a2, a3, a4, a5⟩) (hS : Bs w b off m cap bs) (hm : 2 ≤ m) (h0 : x0 = bs.getD 0 0) (h1 : x1 = bs.getD 1 0) (hT : x0 = 5) (hU : bs = reqBytes ⟨5, a1, a2, a3, a4, a5⟩) :
    Calls Try.prog 22 #[.agg #[.int .u8 5, .int .u16 a1, .int .u16 a2, .int .u16 a3, .slice ao nb ac, .slice ro nr rc], .slice (some ⟨b, off, none⟩) m cap] w fun e w' => AnsEnd ⟨5, a1, a2, a3, a4, a5⟩ bs w e w' := by
  have hor : bits .or .u8 (5 : Int) 128 = 133 := or_128 (x := 5) (by decide)
  have t1 : ((x0 : Int) == 133) = false := by rw [beq_eq_false_iff_ne]; omega
  have t2 : ((x0 : Int) != 5) = false := by rw [bne_eq_false_iff_eq]; omega
  have hI := ans_w2 (fn := 5) (addr := a1) (n := a2) (addr2 := a3) (bits := a4) (regs := a5) (bs := bs) (by decide) (h0.symm.trans hT) (by rw [← hS.len]; omega)
  have HI := hid_as hI
  have HT := hid_as hT
  have HU := hid_as hU
  have AB : Hid (Bytes (reqBytes ⟨5, a1, a2, a3, a4, a5⟩)) := reqBytes_bytes hq.1 (by simp only; omega) (by simp only; omega)
  clear hT hU hI
  have hbx : b < w.heap.size := lt_of_cell (hS.at 0 (by omega))
  have k0 : w.cell? ⟨b, off, none⟩ = some (.int .u8 x0) := by rw [h0]; exact hS.at 0 (by omega)
  have k1 : w.cell? ⟨b, off + 1, none⟩ = some (.int .u8 x1) := by rw [h1]; exact hS.at 1 (by omega)
  have l0 : x0 < 256 := by rw [h0]; exact hS.bytes.at 0
  have l1 : x1 < 256 := by rw [h1]; exact hS.bytes.at 1
  have l2 : decide ((m : Int) < 2) = false := decide_eq_false (by omega)
  have i0 : (0 : Int) < (m : Int) := by omega
  have i1 : (1 : Int) < (m : Int) := by omega
  have i1' : 1 < m := by omega
  have H0 := hid_as h0
  have H1 := hid_as h1
  have HS := hid_as hS
  clear h0 h1 hS
  have HQ := hid_as hq
  have RQ := hid_as (fun (W : World) (h : Below w.heap.size w W) => ref_request (hq.below h) lb lr)
  have HF := hid_as hf
  clear hq hf
  go_enter Try.func22, Try.ntmps22
  go_wp2_with fail
  have TW := two_new w 5 a1 a2 a3 (.slice ao nb ac) (.slice ro nr rc)
  generalize ((w.alloc (.cells #[.int .u8 (5 : Nat), .int .u16 a1, .int .u16 a2, .int .u16 a3, .slice ao nb ac, .slice ro nr rc] 26)).alloc (.cells #[.int .u8 0, .int .u8 0, .int .u16 0, .int .u16 0, .slice none 0 0, .slice none 0 0] 44)) = W at TW ⊢
  refine (RQ.out _ TW.bel).mono ?_
  rintro e w1 ⟨hb1, hend⟩
  have q1 := (hb1.block _ TW.siz).trans TW.res
  have B1 := TW.box.below hb1 (Nat.lt_of_succ_lt TW.siz)
  have K1 : Hid (Below w.heap.size w w1) := below_and TW.bel hb1
  have z1 : w.heap.size + 1 < w1.heap.size := Nat.lt_of_lt_of_le TW.siz hb1.size
  clear hb1 TW RQ
  rcases hend with ⟨_, yv, rfl, owny⟩ | ⟨hno, _⟩
  case inr => exact absurd HF.out hno
  obtain ⟨c0, c1, c2, c3, c4, c5⟩ := B1
  obtain ⟨⟨r0, r1, r2, r3, r4, r5⟩, hfz⟩ := block6 q1
  have g0 := hfz 0
  have g1 := hfz 1
  have g2 := hfz 2
  have g3 := hfz 3
  have g4 := hfz 4
  have g5 := hfz 5
  clear hfz
  have k0' : w1.cell? ⟨b, off, none⟩ = some (.int .u8 x0) := (K1.out.cell (p := ⟨b, off, none⟩) hbx).trans k0
  have k1' : w1.cell? ⟨b, off + 1, none⟩ = some (.int .u8 x1) := (K1.out.cell (p := ⟨b, off + 1, none⟩) hbx).trans k1
  have OY := hid_as (own_sl owny)
  clear owny
  go_upto_region 4 with fail
  go_quiet (fail)
  go_upto_region 8 with fail
  have KY : Hid (Below w.heap.size w (w1.drewN nq)) := below_drewN K1.out _
  have BQ := (Box.mk c0 c1 c2 c3 c4 c5).drewN nq
  have y0 : (w1.drewN nq).heap[w.heap.size + 1]? = some (.cells #[.int .u8 0, .int .u8 0, .int .u16 0, .int .u16 0, .slice none 0 0, .slice none 0 0] 44 (0, 0)) := q1
  have v0 : (w1.drewN nq).cell? ⟨b, off, none⟩ = some (.int .u8 x0) := k0'
  have v1 : (w1.drewN nq).cell? ⟨b, off + 1, none⟩ = some (.int .u8 x1) := k1'
  have zY : w.heap.size + 1 < (w1.drewN nq).heap.size := z1
  have KK : Hid (Below w1.heap.size w1 (w1.drewN nq)) := below_drewN (Below.refl _ _) _
  clear c0 c1 c2 c3 c4 c5 r0 r1 r2 r3 r4 r5 g0 g1 g2 g3 g4 g5 k0' k1'
  generalize w1.drewN nq = Y at KY BQ y0 v0 v1 zY KK ⊢
  obtain ⟨c0, c1, c2, c3, c4, c5⟩ := BQ
  obtain ⟨⟨r0, r1, r2, r3, r4, r5⟩, hfz⟩ := block6 y0
  have g0 := hfz 0
  have g1 := hfz 1
  have g2 := hfz 2
  have g3 := hfz 3
  have g4 := hfz 4
  have g5 := hfz 5
  clear hfz
  go_quiet (fail)
  go_upto_region 10 with fail
  have KZ : Hid (Below w.heap.size w (Y.drewN nq)) := below_drewN KY.out _
  have BQ := (Box.mk c0 c1 c2 c3 c4 c5).drewN nq
  have yz : (Y.drewN nq).heap[w.heap.size + 1]? = some (.cells #[.int .u8 0, .int .u8 0, .int .u16 0, .int .u16 0, .slice none 0 0, .slice none 0 0] 44 (0, 0)) := y0
  have vz0 : (Y.drewN nq).cell? ⟨b, off, none⟩ = some (.int .u8 x0) := v0
  have vz1 : (Y.drewN nq).cell? ⟨b, off + 1, none⟩ = some (.int .u8 x1) := v1
  have zZ : w.heap.size + 1 < (Y.drewN nq).heap.size := zY
  have KKZ : Hid (Below w1.heap.size w1 (Y.drewN nq)) := below_drewN KK.out _
  clear c0 c1 c2 c3 c4 c5 r0 r1 r2 r3 r4 r5 g0 g1 g2 g3 g4 g5 y0 v0 v1 zY KY KK
  generalize Y.drewN nq = Y2 at KZ BQ yz vz0 vz1 zZ KKZ ⊢
  obtain ⟨c0, c1, c2, c3, c4, c5⟩ := BQ
  have a0' := fun (o : Obj) => ((Box.mk c0 c1 c2 c3 c4 c5).grow o).c0
  go_upto_region 29 with fail
  have TX := heap_alloc_new Y2 (.cells #[.int .u8 5, .int .u8 0, .int .u16 0, .int .u16 0, .slice none 0 0, .slice none 0 0] 44)
  have KX : Hid (Below w.heap.size w (Y2.alloc (.cells #[.int .u8 5, .int .u8 0, .int .u16 0, .int .u16 0, .slice none 0 0, .slice none 0 0] 44))) := below_new KZ.out _
  have KKX : Hid (Below w1.heap.size w1 (Y2.alloc (.cells #[.int .u8 5, .int .u8 0, .int .u16 0, .int .u16 0, .slice none 0 0, .slice none 0 0] 44))) := below_new KKZ.out _
  have BQ := (Box.mk c0 c1 c2 c3 c4 c5).grow (.cells #[.int .u8 5, .int .u8 0, .int .u16 0, .int .u16 0, .slice none 0 0, .slice none 0 0] 44)
  have yx := (Below.heap_alloc Y2 (.cells #[.int .u8 5, .int .u8 0, .int .u16 0, .int .u16 0, .slice none 0 0, .slice none 0 0] 44) _ zZ).trans yz
  have vx0 := ((below_new (Below.refl _ Y2) (.cells #[.int .u8 5, .int .u8 0, .int .u16 0, .int .u16 0, .slice none 0 0, .slice none 0 0] 44)).cell (p := ⟨b, off, none⟩) (lt_of_cell vz0)).trans vz0
  have vx1 := ((below_new (Below.refl _ Y2) (.cells #[.int .u8 5, .int .u8 0, .int .u16 0, .int .u16 0, .slice none 0 0, .slice none 0 0] 44)).cell (p := ⟨b, off + 1, none⟩) (lt_of_cell vz1)).trans vz1
  have zX : Y2.heap.size < (Y2.alloc (.cells #[.int .u8 5, .int .u8 0, .int .u16 0, .int .u16 0, .slice none 0 0, .slice none 0 0] 44)).heap.size := by rw [World.size_alloc]; omega
  clear c0 c1 c2 c3 c4 c5 yz vz0 vz1 KZ KKZ a0'
  generalize Y2.alloc (.cells #[.int .u8 5, .int .u8 0, .int .u16 0, .int .u16 0, .slice none 0 0, .slice none 0 0] 44) = X at TX KX KKX BQ yx vx0 vx1 zX ⊢
  obtain ⟨c0, c1, c2, c3, c4, c5⟩ := BQ
  obtain ⟨⟨r0, r1, r2, r3, r4, r5⟩, hfz⟩ := block6 yx
  obtain ⟨⟨d0, d1, d2, d3, d4, d5⟩, hfd⟩ := block6 TX
  have g0 := hfz 0
  have g1 := hfz 1
  have g2 := hfz 2
  have g3 := hfz 3
  have g4 := hfz 4
  have g5 := hfz 5
  have f0 := hfd 0
  have f1 := hfd 1
  have f2 := hfd 2
  have f3 := hfd 3
  have f4 := hfd 4
  have f5 := hfd 5
  clear hfz hfd
  have SM := hid_as (rsame_c (HS.out.below KX.out).sl (OY.out.below KKX.out) HS.out.bytes AB.out)
  go_wp2_with fail
  refine SM.out.mono ?_
  rintro e w3 ⟨rfl, hw⟩
  subst w3
  rw [decide_eq_true HU.out]
  go_upto_region 31 with fail
  have hne8 : ¬ Y2.heap.size = w.heap.size := by omega
  have hne9 : ¬ Y2.heap.size = w.heap.size + 1 := by omega
  have hne9' : ¬ w.heap.size + 1 = Y2.heap.size := by omega
  go_region_held3 (fun w' => w'.cell? ⟨w.heap.size, 1, none⟩ = some (.int .u16 a1) ∧ w'.cell? ⟨w.heap.size, 4, none⟩ = some (.slice ao nb ac) ∧ w'.cell? ⟨w.heap.size, 5, none⟩ = some (.slice ro nr rc)) (first | (simp [World.cell?_setCell_far, hne8, c1, c4, c5]; done)) (fail)
  all_goals
    go_wp2
    have BF := set_box ((((Box.mk r0 r1 r2 r3 r4 r5).far (p := ⟨Y2.heap.size, 2, none⟩) hne9 (.int .u16 a1)).far (p := ⟨Y2.heap.size, 4, none⟩) hne9 (.slice ao nb ac)).far (p := ⟨Y2.heap.size, 5, none⟩) hne9 (.slice ro nr rc)) (.int .u8 5) (.int .u8 0) (.int .u16 a1) (.int .u16 0) (.slice ao nb ac) (.slice ro nr rc)
    obtain ⟨e0, e1, e2, e3, e4, e5⟩ := BF
    have hx : AnsIs ⟨5, a1, a2, a3, a4, a5⟩ bs := HI.out.2 HU.out
    have KF := (below_six (Below.setCell (Below.setCell (Below.setCell KX.out (p := ⟨Y2.heap.size, 2, none⟩) (by simp; omega) (.int .u16 a1)) (p := ⟨Y2.heap.size, 4, none⟩) (by simp; omega) (.slice ao nb ac)) (p := ⟨Y2.heap.size, 5, none⟩) (by simp; omega) (.slice ro nr rc)) (Nat.le_succ _) (.int .u8 5) (.int .u8 0) (.int .u16 a1) (.int .u16 0) (.slice ao nb ac) (.slice ro nr rc)).drew
    refine bodyPost_ret (v := .tuple #[.agg #[.int .u8 5, .int .u8 0, .int .u16 a1, .int .u16 0, .slice ao nb ac, .slice ro nr rc], .int .i64 0]) (by simp [results, Try.results22, go_sem, e0, e1, e2, e3, e4, e5]) rfl ⟨KF, Or.inl ⟨⟨HF.out, Or.inr hx⟩, _, rfl, ?_⟩⟩
    have hem : a5 = [] := by
      have hfit := HF.out
      unfold Rq.Fits FitsN at hfit
      simp only at hfit
      exact List.length_eq_zero_iff.1 (by omega)
    have er : readAns ⟨5, a1, a2, a3, a4, a5⟩ bs = ⟨5, 0, a1, 0, a4, a5⟩ := by
      unfold readAns ansOf echo
      rw [if_pos (H0.out.symm.trans HT.out)]
      simp [hem]
    rw [er]
    obtain ⟨ok, bvv, rvv, heq, s1, s2⟩ := HQ.out
    unfold rqV at heq
    simp at heq
    obtain ⟨rfl, rfl⟩ := heq
    exact ⟨rp_ok (by decide) (by decide) ok.addr (by decide) ok.regs, _, _, rfl, s1.below KF, s2.below KF⟩
set_option linter.unusedSimpArgs false in
set_option linter.unusedVariables false in
set_option maxRecDepth 100000 in
set_option maxHeartbeats 1600000 in
theorem rop6_n (m cap b off x0 x1 a1 a2 a3 nb nr ac rc : Nat) (a4 : List Bool) (a5 : List Nat) (ao ro : Option Addr) (bs : List Nat) (w : World) (hq : IsRq w (.agg #[.int .u8 6, .int .u16 a1, .int .u16 a2, .int .u16 a3, .slice ao nb ac, .slice ro nr rc]) ⟨6, a1, a2, a3, a4, a5⟩) (lb : a4.length ≤ 2500) (lr : a5.length ≤ 200) (hf : Rq.Fits ⟨6, a1, a2, a3, a4, a5⟩) (hS : Bs w b off m cap bs) (hm : 2 ≤ m) (h0 : x0 = bs.getD 0 0) (h1 : x1 = bs.getD 1 0) (hT : x0 = 6) (hU : ¬ bs = reqBytes ⟨6, a1, a2, a3, a4, a5⟩) :
    Calls Try.prog 22 #[.agg #[.int .u8 6, .int .u16 a1, .int .u16 a2, .int .u16 a3, .slice ao nb ac, .slice ro nr rc], .slice (some ⟨b, off, none⟩) m cap] w fun e w' => AnsEnd ⟨6, a1, a2, a3, a4, a5⟩ bs w e w' := by
  have hor : bits .or .u8 (6 : Int) 128 = 134 := or_128 (x := 6) (by decide)
  have t1 : ((x0 : Int) == 134) = false := by rw [beq_eq_false_iff_ne]; omega
  have t2 : ((x0 : Int) != 6) = false := by rw [bne_eq_false_iff_eq]; omega
  have hI := ans_w2 (fn := 6) (addr := a1) (n := a2) (addr2 := a3) (bits := a4) (regs := a5) (bs := bs) (by decide) (h0.symm.trans hT) (by rw [← hS.len]; omega)
  have HI := hid_as hI
  have HT := hid_as hT
  have HU := hid_as hU
  have AB : Hid (Bytes (reqBytes ⟨6, a1, a2, a3, a4, a5⟩)) := reqBytes_bytes hq.1 (by simp only; omega) (by simp only; omega)
  clear hT hU hI
  have hbx : b < w.heap.size := lt_of_cell (hS.at 0 (by omega))
  have k0 : w.cell? ⟨b, off, none⟩ = some (.int .u8 x0) := by rw [h0]; exact hS.at 0 (by omega)
  have k1 : w.cell? ⟨b, off + 1, none⟩ = some (.int .u8 x1) := by rw [h1]; exact hS.at 1 (by omega)
  have l0 : x0 < 256 := by rw [h0]; exact hS.bytes.at 0
  have l1 : x1 < 256 := by rw [h1]; exact hS.bytes.at 1
  have l2 : decide ((m : Int) < 2) = false := decide_eq_false (by omega)
  have i0 : (0 : Int) < (m : Int) := by omega
  have i1 : (1 : Int) < (m : Int) := by omega
  have i1' : 1 < m := by omega
  have H0 := hid_as h0
  have H1 := hid_as h1
  have HS := hid_as hS
  clear h0 h1 hS
  have HQ := hid_as hq
  have RQ := hid_as (fun (W : World) (h : Below w.heap.size w W) => ref_request (hq.below h) lb lr)
  have HF := hid_as hf
  clear hq hf
  go_enter Try.func22, Try.ntmps22
  go_wp2_with fail
  have TW := two_new w 6 a1 a2 a3 (.slice ao nb ac) (.slice ro nr rc)
  generalize ((w.alloc (.cells #[.int .u8 (6 : Nat), .int .u16 a1, .int .u16 a2, .int .u16 a3, .slice ao nb ac, .slice ro nr rc] 26)).alloc (.cells #[.int .u8 0, .int .u8 0, .int .u16 0, .int .u16 0, .slice none 0 0, .slice none 0 0] 44)) = W at TW ⊢
  refine (RQ.out _ TW.bel).mono ?_
  rintro e w1 ⟨hb1, hend⟩
  have q1 := (hb1.block _ TW.siz).trans TW.res
  have B1 := TW.box.below hb1 (Nat.lt_of_succ_lt TW.siz)
  have K1 : Hid (Below w.heap.size w w1) := below_and TW.bel hb1
  have z1 : w.heap.size + 1 < w1.heap.size := Nat.lt_of_lt_of_le TW.siz hb1.size
  clear hb1 TW RQ
  rcases hend with ⟨_, yv, rfl, owny⟩ | ⟨hno, _⟩
  case inr => exact absurd HF.out hno
  obtain ⟨c0, c1, c2, c3, c4, c5⟩ := B1
  obtain ⟨⟨r0, r1, r2, r3, r4, r5⟩, hfz⟩ := block6 q1
  have g0 := hfz 0
  have g1 := hfz 1
  have g2 := hfz 2
  have g3 := hfz 3
  have g4 := hfz 4
  have g5 := hfz 5
  clear hfz
  have k0' : w1.cell? ⟨b, off, none⟩ = some (.int .u8 x0) := (K1.out.cell (p := ⟨b, off, none⟩) hbx).trans k0
  have k1' : w1.cell? ⟨b, off + 1, none⟩ = some (.int .u8 x1) := (K1.out.cell (p := ⟨b, off + 1, none⟩) hbx).trans k1
  have OY := hid_as (own_sl owny)
  clear owny
  go_upto_region 4 with fail
  go_quiet (fail)
  go_upto_region 8 with fail
  have KY : Hid (Below w.heap.size w (w1.drewN nq)) := below_drewN K1.out _
  have BQ := (Box.mk c0 c1 c2 c3 c4 c5).drewN nq
  have y0 : (w1.drewN nq).heap[w.heap.size + 1]? = some (.cells #[.int .u8 0, .int .u8 0, .int .u16 0, .int .u16 0, .slice none 0 0, .slice none 0 0] 44 (0, 0)) := q1
  have v0 : (w1.drewN nq).cell? ⟨b, off, none⟩ = some (.int .u8 x0) := k0'
  have v1 : (w1.drewN nq).cell? ⟨b, off + 1, none⟩ = some (.int .u8 x1) := k1'
  have zY : w.heap.size + 1 < (w1.drewN nq).heap.size := z1
  have KK : Hid (Below w1.heap.size w1 (w1.drewN nq)) := below_drewN (Below.refl _ _) _
  clear c0 c1 c2 c3 c4 c5 r0 r1 r2 r3 r4 r5 g0 g1 g2 g3 g4 g5 k0' k1'
  generalize w1.drewN nq = Y at KY BQ y0 v0 v1 zY KK ⊢
  obtain ⟨c0, c1, c2, c3, c4, c5⟩ := BQ
  obtain ⟨⟨r0, r1, r2, r3, r4, r5⟩, hfz⟩ := block6 y0
  have g0 := hfz 0
  have g1 := hfz 1
  have g2 := hfz 2
  have g3 := hfz 3
  have g4 := hfz 4
  have g5 := hfz 5
  clear hfz
  go_quiet (fail)
  go_upto_region 10 with fail
  have KZ : Hid (Below w.heap.size w (Y.drewN nq)) := below_drewN KY.out _
  have BQ := (Box.mk c0 c1 c2 c3 c4 c5).drewN nq
  have yz : (Y.drewN nq).heap[w.heap.size + 1]? = some (.cells #[.int .u8 0, .int .u8 0, .int .u16 0, .int .u16 0, .slice none 0 0, .slice none 0 0] 44 (0, 0)) := y0
  have vz0 : (Y.drewN nq).cell? ⟨b, off, none⟩ = some (.int .u8 x0) := v0
  have vz1 : (Y.drewN nq).cell? ⟨b, off + 1, none⟩ = some (.int .u8 x1) := v1
  have zZ : w.heap.size + 1 < (Y.drewN nq).heap.size := zY
  have KKZ : Hid (Below w1.heap.size w1 (Y.drewN nq)) := below_drewN KK.out _
  clear c0 c1 c2 c3 c4 c5 r0 r1 r2 r3 r4 r5 g0 g1 g2 g3 g4 g5 y0 v0 v1 zY KY KK
  generalize Y.drewN nq = Y2 at KZ BQ yz vz0 vz1 zZ KKZ ⊢
  obtain ⟨c0, c1, c2, c3, c4, c5⟩ := BQ
  have a0' := fun (o : Obj) => ((Box.mk c0 c1 c2 c3 c4 c5).grow o).c0
  go_upto_region 29 with fail
  have TX := heap_alloc_new Y2 (.cells #[.int .u8 6, .int .u8 0, .int .u16 0, .int .u16 0, .slice none 0 0, .slice none 0 0] 44)
  have KX : Hid (Below w.heap.size w (Y2.alloc (.cells #[.int .u8 6, .int .u8 0, .int .u16 0, .int .u16 0, .slice none 0 0, .slice none 0 0] 44))) := below_new KZ.out _
  have KKX : Hid (Below w1.heap.size w1 (Y2.alloc (.cells #[.int .u8 6, .int .u8 0, .int .u16 0, .int .u16 0, .slice none 0 0, .slice none 0 0] 44))) := below_new KKZ.out _
  have BQ := (Box.mk c0 c1 c2 c3 c4 c5).grow (.cells #[.int .u8 6, .int .u8 0, .int .u16 0, .int .u16 0, .slice none 0 0, .slice none 0 0] 44)
  have yx := (Below.heap_alloc Y2 (.cells #[.int .u8 6, .int .u8 0, .int .u16 0, .int .u16 0, .slice none 0 0, .slice none 0 0] 44) _ zZ).trans yz
  have vx0 := ((below_new (Below.refl _ Y2) (.cells #[.int .u8 6, .int .u8 0, .int .u16 0, .int .u16 0, .slice none 0 0, .slice none 0 0] 44)).cell (p := ⟨b, off, none⟩) (lt_of_cell vz0)).trans vz0
  have vx1 := ((below_new (Below.refl _ Y2) (.cells #[.int .u8 6, .int .u8 0, .int .u16 0, .int .u16 0, .slice none 0 0, .slice none 0 0] 44)).cell (p := ⟨b, off + 1, none⟩) (lt_of_cell vz1)).trans vz1
  have zX : Y2.heap.size < (Y2.alloc (.cells #[.int .u8 6, .int .u8 0, .int .u16 0, .int .u16 0, .slice none 0 0, .slice none 0 0] 44)).heap.size := by rw [World.size_alloc]; omega
  clear c0 c1 c2 c3 c4 c5 yz vz0 vz1 KZ KKZ a0'
  generalize Y2.alloc (.cells #[.int .u8 6, .int .u8 0, .int .u16 0, .int .u16 0, .slice none 0 0, .slice none 0 0] 44) = X at TX KX KKX BQ yx vx0 vx1 zX ⊢
  obtain ⟨c0, c1, c2, c3, c4, c5⟩ := BQ
  obtain ⟨⟨r0, r1, r2, r3, r4, r5⟩, hfz⟩ := block6 yx
  obtain ⟨⟨d0, d1, d2, d3, d4, d5⟩, hfd⟩ := block6 TX
  have g0 := hfz 0
  have g1 := hfz 1
  have g2 := hfz 2
  have g3 := hfz 3
  have g4 := hfz 4
  have g5 := hfz 5
  have f0 := hfd 0
  have f1 := hfd 1
  have f2 := hfd 2
  have f3 := hfd 3
  have f4 := hfd 4
  have f5 := hfd 5
  clear hfz hfd
  have SM := hid_as (rsame_c (HS.out.below KX.out).sl (OY.out.below KKX.out) HS.out.bytes AB.out)
  go_wp2_with fail
  refine SM.out.mono ?_
  rintro e w3 ⟨rfl, hw⟩
  subst w3
  rw [decide_eq_false HU.out]
  go_wp2
  have BF := set_box (Box.mk r0 r1 r2 r3 r4 r5) (.int .u8 0) (.int .u8 0) (.int .u16 0) (.int .u16 0) (.slice none 0 0) (.slice none 0 0)
  obtain ⟨e0, e1, e2, e3, e4, e5⟩ := BF
  refine bodyPost_ret (v := .tuple #[.agg #[.int .u8 0, .int .u8 0, .int .u16 0, .int .u16 0, .slice none 0 0, .slice none 0 0], .int .i64 30]) (by simp [results, Try.results22, go_sem, e0, e1, e2, e3, e4, e5]) rfl ⟨below_six KX.out (Nat.le_succ _) _ _ _ _ _ _, Or.inr ⟨fun h => ?_, rfl⟩⟩
  have hne : ¬ (bs.getD 0 0 = 6 + 128) := by have := H0.out; have := HT.out; omega
  rcases h.2 with h2 | h2
  · exact hne h2.2.1
  · exact HU.out (HI.out.1 h2)
set_option linter.unusedSimpArgs false in
set_option linter.unusedVariables false in
set_option maxRecDepth 100000 in
set_option maxHeartbeats 1600000 in
theorem rop6_y (m cap b off x0 x1 a1 a2 a3 nb nr ac rc : Nat) (a4 : List Bool) (a5 : List Nat) (ao ro : Option Addr) (bs : List Nat) (w : World) (hq : IsRq w (.agg #[.int .u8 6, .int .u16 a1, .int .u16 a2, .int .u16 a3, .slice ao nb ac, .slice ro nr rc]) ⟨6, a1, a2, a3, a4, a5⟩) (lb : a4.length ≤ 2500) (lr : a5.length ≤ 200) (hf : Rq.Fits ⟨6, a1, a2, a3, a4, a5⟩) (hS : Bs w b off m cap bs) (hm : 2 ≤ m) (h0 : x0 = bs.getD 0 0) (h1 : x1 = bs.getD 1 0) (hT : x0 = 6) (hU : bs = reqBytes ⟨6, a1, a2, a3, a4, a5⟩) :
    Calls Try.prog 22 #[.agg #[.int .u8 6, .int .u16 a1, .int .u16 a2, .int .u16 a3, .slice ao nb ac, .slice ro nr rc], .slice (some ⟨b, off, none⟩) m cap] w fun e w' => AnsEnd ⟨6, a1, a2, a3, a4, a5⟩ bs w e w' := by
  have hor : bits .or .u8 (6 : Int) 128 = 134 := or_128 (x := 6) (by decide)
  have t1 : ((x0 : Int) == 134) = false := by rw [beq_eq_false_iff_ne]; omega
  have t2 : ((x0 : Int) != 6) = false := by rw [bne_eq_false_iff_eq]; omega
  have hI := ans_w2 (fn := 6) (addr := a1) (n := a2) (addr2 := a3) (bits := a4) (regs := a5) (bs := bs) (by decide) (h0.symm.trans hT) (by rw [← hS.len]; omega)
  have HI := hid_as hI
  have HT := hid_as hT
  have HU := hid_as hU
  have AB : Hid (Bytes (reqBytes ⟨6, a1, a2, a3, a4, a5⟩)) := reqBytes_bytes hq.1 (by simp only; omega) (by simp only; omega)
  clear hT hU hI
  have hbx : b < w.heap.size := lt_of_cell (hS.at 0 (by omega))
  have k0 : w.cell? ⟨b, off, none⟩ = some (.int .u8 x0) := by rw [h0]; exact hS.at 0 (by omega)
  have k1 : w.cell? ⟨b, off + 1, none⟩ = some (.int .u8 x1) := by rw [h1]; exact hS.at 1 (by omega)
  have l0 : x0 < 256 := by rw [h0]; exact hS.bytes.at 0
  have l1 : x1 < 256 := by rw [h1]; exact hS.bytes.at 1
  have l2 : decide ((m : Int) < 2) = false := decide_eq_false (by omega)
  have i0 : (0 : Int) < (m : Int) := by omega
  have i1 : (1 : Int) < (m : Int) := by omega
  have i1' : 1 < m := by omega
  have H0 := hid_as h0
  have H1 := hid_as h1
  have HS := hid_as hS
  clear h0 h1 hS
  have HQ := hid_as hq
  have RQ := hid_as (fun (W : World) (h : Below w.heap.size w W) => ref_request (hq.below h) lb lr)
  have HF := hid_as hf
  clear hq hf
  go_enter Try.func22, Try.ntmps22
  go_wp2_with fail
  have TW := two_new w 6 a1 a2 a3 (.slice ao nb ac) (.slice ro nr rc)
  generalize ((w.alloc (.cells #[.int .u8 (6 : Nat), .int .u16 a1, .int .u16 a2, .int .u16 a3, .slice ao nb ac, .slice ro nr rc] 26)).alloc (.cells #[.int .u8 0, .int .u8 0, .int .u16 0, .int .u16 0, .slice none 0 0, .slice none 0 0] 44)) = W at TW ⊢
  refine (RQ.out _ TW.bel).mono ?_
  rintro e w1 ⟨hb1, hend⟩
  have q1 := (hb1.block _ TW.siz).trans TW.res
  have B1 := TW.box.below hb1 (Nat.lt_of_succ_lt TW.siz)
  have K1 : Hid (Below w.heap.size w w1) := below_and TW.bel hb1
  have z1 : w.heap.size + 1 < w1.heap.size := Nat.lt_of_lt_of_le TW.siz hb1.size
  clear hb1 TW RQ
  rcases hend with ⟨_, yv, rfl, owny⟩ | ⟨hno, _⟩
  case inr => exact absurd HF.out hno
  obtain ⟨c0, c1, c2, c3, c4, c5⟩ := B1
  obtain ⟨⟨r0, r1, r2, r3, r4, r5⟩, hfz⟩ := block6 q1
  have g0 := hfz 0
  have g1 := hfz 1
  have g2 := hfz 2
  have g3 := hfz 3
  have g4 := hfz 4
  have g5 := hfz 5
  clear hfz
  have k0' : w1.cell? ⟨b, off, none⟩ = some (.int .u8 x0) := (K1.out.cell (p := ⟨b, off, none⟩) hbx).trans k0
  have k1' : w1.cell? ⟨b, off + 1, none⟩ = some (.int .u8 x1) := (K1.out.cell (p := ⟨b, off + 1, none⟩) hbx).trans k1
  have OY := hid_as (own_sl owny)
  clear owny
  go_upto_region 4 with fail
  go_quiet (fail)
  go_upto_region 8 with fail
  have KY : Hid (Below w.heap.size w (w1.drewN nq)) := below_drewN K1.out _
  have BQ := (Box.mk c0 c1 c2 c3 c4 c5).drewN nq
  have y0 : (w1.drewN nq).heap[w.heap.size + 1]? = some (.cells #[.int .u8 0, .int .u8 0, .int .u16 0, .int .u16 0, .slice none 0 0, .slice none 0 0] 44 (0, 0)) := q1
  have v0 : (w1.drewN nq).cell? ⟨b, off, none⟩ = some (.int .u8 x0) := k0'
  have v1 : (w1.drewN nq).cell? ⟨b, off + 1, none⟩ = some (.int .u8 x1) := k1'
  have zY : w.heap.size + 1 < (w1.drewN nq).heap.size := z1
  have KK : Hid (Below w1.heap.size w1 (w1.drewN nq)) := below_drewN (Below.refl _ _) _
  clear c0 c1 c2 c3 c4 c5 r0 r1 r2 r3 r4 r5 g0 g1 g2 g3 g4 g5 k0' k1'
  generalize w1.drewN nq = Y at KY BQ y0 v0 v1 zY KK ⊢
  obtain ⟨c0, c1, c2, c3, c4, c5⟩ := BQ
  obtain ⟨⟨r0, r1, r2, r3, r4, r5⟩, hfz⟩ := block6 y0
  have g0 := hfz 0
  have g1 := hfz 1
  have g2 := hfz 2
  have g3 := hfz 3
  have g4 := hfz 4
  have g5 := hfz 5
  clear hfz
  go_quiet (fail)
  go_upto_region 10 with fail
  have KZ : Hid (Below w.heap.size w (Y.drewN nq)) := below_drewN KY.out _
  have BQ := (Box.mk c0 c1 c2 c3 c4 c5).drewN nq
  have yz : (Y.drewN nq).heap[w.heap.size + 1]? = some (.cells #[.int .u8 0, .int .u8 0, .int .u16 0, .int .u16 0, .slice none 0 0, .slice none 0 0] 44 (0, 0)) := y0
  have vz0 : (Y.drewN nq).cell? ⟨b, off, none⟩ = some (.int .u8 x0) := v0
  have vz1 : (Y.drewN nq).cell? ⟨b, off + 1, none⟩ = some (.int .u8 x1) := v1
  have zZ : w.heap.size + 1 < (Y.drewN nq).heap.size := zY
  have KKZ : Hid (Below w1.heap.size w1 (Y.drewN nq)) := below_drewN KK.out _
  clear c0 c1 c2 c3 c4 c5 r0 r1 r2 r3 r4 r5 g0 g1 g2 g3 g4 g5 y0 v0 v1 zY KY KK
  generalize Y.drewN nq = Y2 at KZ BQ yz vz0 vz1 zZ KKZ ⊢
  obtain ⟨c0, c1, c2, c3, c4, c5⟩ := BQ
  have a0' := fun (o : Obj) => ((Box.mk c0 c1 c2 c3 c4 c5).grow o).c0
  go_upto_region 29 with fail
  have TX := heap_alloc_new Y2 (.cells #[.int .u8 6, .int .u8 0, .int .u16 0, .int .u16 0, .slice none 0 0, .slice none 0 0] 44)
  have KX : Hid (Below w.heap.size w (Y2.alloc (.cells #[.int .u8 6, .int .u8 0, .int .u16 0, .int .u16 0, .slice none 0 0, .slice none 0 0] 44))) := below_new KZ.out _
  have KKX : Hid (Below w1.heap.size w1 (Y2.alloc (.cells #[.int .u8 6, .int .u8 0, .int .u16 0, .int .u16 0, .slice none 0 0, .slice none 0 0] 44))) := below_new KKZ.out _
  have BQ := (Box.mk c0 c1 c2 c3 c4 c5).grow (.cells #[.int .u8 6, .int .u8 0, .int .u16 0, .int .u16 0, .slice none 0 0, .slice none 0 0] 44)
  have yx := (Below.heap_alloc Y2 (.cells #[.int .u8 6, .int .u8 0, .int .u16 0, .int .u16 0, .slice none 0 0, .slice none 0 0] 44) _ zZ).trans yz
  have vx0 := ((below_new (Below.refl _ Y2) (.cells #[.int .u8 6, .int .u8 0, .int .u16 0, .int .u16 0, .slice none 0 0, .slice none 0 0] 44)).cell (p := ⟨b, off, none⟩) (lt_of_cell vz0)).trans vz0
  have vx1 := ((below_new (Below.refl _ Y2) (.cells #[.int .u8 6, .int .u8 0, .int .u16 0, .int .u16 0, .slice none 0 0, .slice none 0 0] 44)).cell (p := ⟨b, off + 1, none⟩) (lt_of_cell vz1)).trans vz1
  have zX : Y2.heap.size < (Y2.alloc (.cells #[.int .u8 6, .int .u8 0, .int .u16 0, .int .u16 0, .slice none 0 0, .slice none 0 0] 44)).heap.size := by rw [World.size_alloc]; omega
  clear c0 c1 c2 c3 c4 c5 yz vz0 vz1 KZ KKZ a0'
  generalize Y2.alloc (.cells #[.int .u8 6, .int .u8 0, .int .u16 0, .int .u16 0, .slice none 0 0, .slice none 0 0] 44) = X at TX KX KKX BQ yx vx0 vx1 zX ⊢
  obtain ⟨c0, c1, c2, c3, c4, c5⟩ := BQ
  obtain ⟨⟨r0, r1, r2, r3, r4, r5⟩, hfz⟩ := block6 yx
  obtain ⟨⟨d0, d1, d2, d3, d4, d5⟩, hfd⟩ := block6 TX
  have g0 := hfz 0
  have g1 := hfz 1
  have g2 := hfz 2
  have g3 := hfz 3
  have g4 := hfz 4
  have g5 := hfz 5
  have f0 := hfd 0
  have f1 := hfd 1
  have f2 := hfd 2
  have f3 := hfd 3
  have f4 := hfd 4
  have f5 := hfd 5
  clear hfz hfd
  have SM := hid_as (rsame_c (HS.out.below KX.out).sl (OY.out.below KKX.out) HS.out.bytes AB.out)
  go_wp2_with fail
  refine SM.out.mono ?_
  rintro e w3 ⟨rfl, hw⟩
  subst w3
  rw [decide_eq_true HU.out]
  go_upto_region 31 with fail
  have hne8 : ¬ Y2.heap.size = w.heap.size := by omega
  have hne9 : ¬ Y2.heap.size = w.heap.size + 1 := by omega
  have hne9' : ¬ w.heap.size + 1 = Y2.heap.size := by omega
  go_region_held3 (fun w' => w'.cell? ⟨w.heap.size, 1, none⟩ = some (.int .u16 a1) ∧ w'.cell? ⟨w.heap.size, 4, none⟩ = some (.slice ao nb ac) ∧ w'.cell? ⟨w.heap.size, 5, none⟩ = some (.slice ro nr rc)) (first | (simp [World.cell?_setCell_far, hne8, c1, c4, c5]; done)) (fail)
  all_goals
    go_wp2
    have BF := set_box ((((Box.mk r0 r1 r2 r3 r4 r5).far (p := ⟨Y2.heap.size, 2, none⟩) hne9 (.int .u16 a1)).far (p := ⟨Y2.heap.size, 4, none⟩) hne9 (.slice ao nb ac)).far (p := ⟨Y2.heap.size, 5, none⟩) hne9 (.slice ro nr rc)) (.int .u8 6) (.int .u8 0) (.int .u16 a1) (.int .u16 0) (.slice ao nb ac) (.slice ro nr rc)
    obtain ⟨e0, e1, e2, e3, e4, e5⟩ := BF
    have hx : AnsIs ⟨6, a1, a2, a3, a4, a5⟩ bs := HI.out.2 HU.out
    have KF := (below_six (Below.setCell (Below.setCell (Below.setCell KX.out (p := ⟨Y2.heap.size, 2, none⟩) (by simp; omega) (.int .u16 a1)) (p := ⟨Y2.heap.size, 4, none⟩) (by simp; omega) (.slice ao nb ac)) (p := ⟨Y2.heap.size, 5, none⟩) (by simp; omega) (.slice ro nr rc)) (Nat.le_succ _) (.int .u8 6) (.int .u8 0) (.int .u16 a1) (.int .u16 0) (.slice ao nb ac) (.slice ro nr rc)).drew
    refine bodyPost_ret (v := .tuple #[.agg #[.int .u8 6, .int .u8 0, .int .u16 a1, .int .u16 0, .slice ao nb ac, .slice ro nr rc], .int .i64 0]) (by simp [results, Try.results22, go_sem, e0, e1, e2, e3, e4, e5]) rfl ⟨KF, Or.inl ⟨⟨HF.out, Or.inr hx⟩, _, rfl, ?_⟩⟩
    have hem : a4 = [] := by
      have hfit := HF.out
      unfold Rq.Fits FitsN at hfit
      simp only at hfit
      exact List.length_eq_zero_iff.1 (by omega)
    have er : readAns ⟨6, a1, a2, a3, a4, a5⟩ bs = ⟨6, 0, a1, 0, a4, a5⟩ := by
      unfold readAns ansOf echo
      rw [if_pos (H0.out.symm.trans HT.out)]
      simp [hem]
    rw [er]
    obtain ⟨ok, bvv, rvv, heq, s1, s2⟩ := HQ.out
    unfold rqV at heq
    simp at heq
    obtain ⟨rfl, rfl⟩ := heq
    exact ⟨rp_ok (by decide) (by decide) ok.addr (by decide) ok.regs, _, _, rfl, s1.below KF, s2.below KF⟩
set_option linter.unusedSimpArgs false in
set_option linter.unusedVariables false in
set_option maxRecDepth 100000 in
set_option maxHeartbeats 1600000 in
theorem rop22_n (m cap b off x0 x1 a1 a2 a3 nb nr ac rc : Nat) (a4 : List Bool) (a5 : List Nat) (ao ro : Option Addr) (bs : List Nat) (w : World) (hq : IsRq w (.agg #[.int .u8 22, .int .u16 a1, .int .u16 a2, .int .u16 a3, .slice ao nb ac, .slice ro nr rc]) ⟨22, a1, a2, a3, a4, a5⟩) (lb : a4.length ≤ 2500) (lr : a5.length ≤ 200) (hf : Rq.Fits ⟨22, a1, a2, a3, a4, a5⟩) (hS : Bs w b off m cap bs) (hm : 2 ≤ m) (h0 : x0 = bs.getD 0 0) (h1 : x1 = bs.getD 1 0) (hT : x0 = 22) (hU : ¬ bs = reqBytes ⟨22, a1, a2, a3, a4, a5⟩) :
    Calls Try.prog 22 #[.agg #[.int .u8 22, .int .u16 a1, .int .u16 a2, .int .u16 a3, .slice ao nb ac, .slice ro nr rc], .slice (some ⟨b, off, none⟩) m cap] w fun e w' => AnsEnd ⟨22, a1, a2, a3, a4, a5⟩ bs w e w' := by
  have hor : bits .or .u8 (22 : Int) 128 = 150 := or_128 (x := 22) (by decide)
  have t1 : ((x0 : Int) == 150) = false := by rw [beq_eq_false_iff_ne]; omega
  have t2 : ((x0 : Int) != 22) = false := by rw [bne_eq_false_iff_eq]; omega
  have hI := ans_w2 (fn := 22) (addr := a1) (n := a2) (addr2 := a3) (bits := a4) (regs := a5) (bs := bs) (by decide) (h0.symm.trans hT) (by rw [← hS.len]; omega)
  have HI := hid_as hI
  have HT := hid_as hT
  have HU := hid_as hU
  have AB : Hid (Bytes (reqBytes ⟨22, a1, a2, a3, a4, a5⟩)) := reqBytes_bytes hq.1 (by simp only; omega) (by simp only; omega)
  clear hT hU hI
  have hbx : b < w.heap.size := lt_of_cell (hS.at 0 (by omega))
  have k0 : w.cell? ⟨b, off, none⟩ = some (.int .u8 x0) := by rw [h0]; exact hS.at 0 (by omega)
  have k1 : w.cell? ⟨b, off + 1, none⟩ = some (.int .u8 x1) := by rw [h1]; exact hS.at 1 (by omega)
  have l0 : x0 < 256 := by rw [h0]; exact hS.bytes.at 0
  have l1 : x1 < 256 := by rw [h1]; exact hS.bytes.at 1
  have l2 : decide ((m : Int) < 2) = false := decide_eq_false (by omega)
  have i0 : (0 : Int) < (m : Int) := by omega
  have i1 : (1 : Int) < (m : Int) := by omega
  have i1' : 1 < m := by omega
  have H0 := hid_as h0
  have H1 := hid_as h1
  have HS := hid_as hS
  clear h0 h1 hS
  have HQ := hid_as hq
  have RQ := hid_as (fun (W : World) (h : Below w.heap.size w W) => ref_request (hq.below h) lb lr)
  have HF := hid_as hf
  clear hq hf
  go_enter Try.func22, Try.ntmps22
  go_wp2_with fail
  have TW := two_new w 22 a1 a2 a3 (.slice ao nb ac) (.slice ro nr rc)
  generalize ((w.alloc (.cells #[.int .u8 (22 : Nat), .int .u16 a1, .int .u16 a2, .int .u16 a3, .slice ao nb ac, .slice ro nr rc] 26)).alloc (.cells #[.int .u8 0, .int .u8 0, .int .u16 0, .int .u16 0, .slice none 0 0, .slice none 0 0] 44)) = W at TW ⊢
  refine (RQ.out _ TW.bel).mono ?_
  rintro e w1 ⟨hb1, hend⟩
  have q1 := (hb1.block _ TW.siz).trans TW.res
  have B1 := TW.box.below hb1 (Nat.lt_of_succ_lt TW.siz)
  have K1 : Hid (Below w.heap.size w w1) := below_and TW.bel hb1
  have z1 : w.heap.size + 1 < w1.heap.size := Nat.lt_of_lt_of_le TW.siz hb1.size
  clear hb1 TW RQ
  rcases hend with ⟨_, yv, rfl, owny⟩ | ⟨hno, _⟩
  case inr => exact absurd HF.out hno
  obtain ⟨c0, c1, c2, c3, c4, c5⟩ := B1
  obtain ⟨⟨r0, r1, r2, r3, r4, r5⟩, hfz⟩ := block6 q1
  have g0 := hfz 0
  have g1 := hfz 1
  have g2 := hfz 2
  have g3 := hfz 3
  have g4 := hfz 4
  have g5 := hfz 5
  clear hfz
  have k0' : w1.cell? ⟨b, off, none⟩ = some (.int .u8 x0) := (K1.out.cell (p := ⟨b, off, none⟩) hbx).trans k0
  have k1' : w1.cell? ⟨b, off + 1, none⟩ = some (.int .u8 x1) := (K1.out.cell (p := ⟨b, off + 1, none⟩) hbx).trans k1
  have OY := hid_as (own_sl owny)
  clear owny
  go_upto_region 4 with fail
  go_quiet (fail)
  go_upto_region 8 with fail
  have KY : Hid (Below w.heap.size w (w1.drewN nq)) := below_drewN K1.out _
  have BQ := (Box.mk c0 c1 c2 c3 c4 c5).drewN nq
  have y0 : (w1.drewN nq).heap[w.heap.size + 1]? = some (.cells #[.int .u8 0, .int .u8 0, .int .u16 0, .int .u16 0, .slice none 0 0, .slice none 0 0] 44 (0, 0)) := q1
  have v0 : (w1.drewN nq).cell? ⟨b, off, none⟩ = some (.int .u8 x0) := k0'
  have v1 : (w1.drewN nq).cell? ⟨b, off + 1, none⟩ = some (.int .u8 x1) := k1'
  have zY : w.heap.size + 1 < (w1.drewN nq).heap.size := z1
  have KK : Hid (Below w1.heap.size w1 (w1.drewN nq)) := below_drewN (Below.refl _ _) _
  clear c0 c1 c2 c3 c4 c5 r0 r1 r2 r3 r4 r5 g0 g1 g2 g3 g4 g5 k0' k1'
  generalize w1.drewN nq = Y at KY BQ y0 v0 v1 zY KK ⊢
  obtain ⟨c0, c1, c2, c3, c4, c5⟩ := BQ
  obtain ⟨⟨r0, r1, r2, r3, r4, r5⟩, hfz⟩ := block6 y0
  have g0 := hfz 0
  have g1 := hfz 1
  have g2 := hfz 2
  have g3 := hfz 3
  have g4 := hfz 4
  have g5 := hfz 5
  clear hfz
  go_quiet (fail)
  go_upto_region 10 with fail
  have KZ : Hid (Below w.heap.size w (Y.drewN nq)) := below_drewN KY.out _
  have BQ := (Box.mk c0 c1 c2 c3 c4 c5).drewN nq
  have yz : (Y.drewN nq).heap[w.heap.size + 1]? = some (.cells #[.int .u8 0, .int .u8 0, .int .u16 0, .int .u16 0, .slice none 0 0, .slice none 0 0] 44 (0, 0)) := y0
  have vz0 : (Y.drewN nq).cell? ⟨b, off, none⟩ = some (.int .u8 x0) := v0
  have vz1 : (Y.drewN nq).cell? ⟨b, off + 1, none⟩ = some (.int .u8 x1) := v1
  have zZ : w.heap.size + 1 < (Y.drewN nq).heap.size := zY
  have KKZ : Hid (Below w1.heap.size w1 (Y.drewN nq)) := below_drewN KK.out _
  clear c0 c1 c2 c3 c4 c5 r0 r1 r2 r3 r4 r5 g0 g1 g2 g3 g4 g5 y0 v0 v1 zY KY KK
  generalize Y.drewN nq = Y2 at KZ BQ yz vz0 vz1 zZ KKZ ⊢
  obtain ⟨c0, c1, c2, c3, c4, c5⟩ := BQ
  have a0' := fun (o : Obj) => ((Box.mk c0 c1 c2 c3 c4 c5).grow o).c0
  go_upto_region 29 with fail
  have TX := heap_alloc_new Y2 (.cells #[.int .u8 22, .int .u8 0, .int .u16 0, .int .u16 0, .slice none 0 0, .slice none 0 0] 44)
  have KX : Hid (Below w.heap.size w (Y2.alloc (.cells #[.int .u8 22, .int .u8 0, .int .u16 0, .int .u16 0, .slice none 0 0, .slice none 0 0] 44))) := below_new KZ.out _
  have KKX : Hid (Below w1.heap.size w1 (Y2.alloc (.cells #[.int .u8 22, .int .u8 0, .int .u16 0, .int .u16 0, .slice none 0 0, .slice none 0 0] 44))) := below_new KKZ.out _
  have BQ := (Box.mk c0 c1 c2 c3 c4 c5).grow (.cells #[.int .u8 22, .int .u8 0, .int .u16 0, .int .u16 0, .slice none 0 0, .slice none 0 0] 44)
  have yx := (Below.heap_alloc Y2 (.cells #[.int .u8 22, .int .u8 0, .int .u16 0, .int .u16 0, .slice none 0 0, .slice none 0 0] 44) _ zZ).trans yz
  have vx0 := ((below_new (Below.refl _ Y2) (.cells #[.int .u8 22, .int .u8 0, .int .u16 0, .int .u16 0, .slice none 0 0, .slice none 0 0] 44)).cell (p := ⟨b, off, none⟩) (lt_of_cell vz0)).trans vz0
  have vx1 := ((below_new (Below.refl _ Y2) (.cells #[.int .u8 22, .int .u8 0, .int .u16 0, .int .u16 0, .slice none 0 0, .slice none 0 0] 44)).cell (p := ⟨b, off + 1, none⟩) (lt_of_cell vz1)).trans vz1
  have zX : Y2.heap.size < (Y2.alloc (.cells #[.int .u8 22, .int .u8 0, .int .u16 0, .int .u16 0, .slice none 0 0, .slice none 0 0] 44)).heap.size := by rw [World.size_alloc]; omega
  clear c0 c1 c2 c3 c4 c5 yz vz0 vz1 KZ KKZ a0'
  generalize Y2.alloc (.cells #[.int .u8 22, .int .u8 0, .int .u16 0, .int .u16 0, .slice none 0 0, .slice none 0 0] 44) = X at TX KX KKX BQ yx vx0 vx1 zX ⊢
  obtain ⟨c0, c1, c2, c3, c4, c5⟩ := BQ
  obtain ⟨⟨r0, r1, r2, r3, r4, r5⟩, hfz⟩ := block6 yx
  obtain ⟨⟨d0, d1, d2, d3, d4, d5⟩, hfd⟩ := block6 TX
  have g0 := hfz 0
  have g1 := hfz 1
  have g2 := hfz 2
  have g3 := hfz 3
  have g4 := hfz 4
  have g5 := hfz 5
  have f0 := hfd 0
  have f1 := hfd 1
  have f2 := hfd 2
  have f3 := hfd 3
  have f4 := hfd 4
  have f5 := hfd 5
  clear hfz hfd
  have SM := hid_as (rsame_c (HS.out.below KX.out).sl (OY.out.below KKX.out) HS.out.bytes AB.out)
  go_wp2_with fail
  refine SM.out.mono ?_
  rintro e w3 ⟨rfl, hw⟩
  subst w3
  rw [decide_eq_false HU.out]
  go_wp2
  have BF := set_box (Box.mk r0 r1 r2 r3 r4 r5) (.int .u8 0) (.int .u8 0) (.int .u16 0) (.int .u16 0) (.slice none 0 0) (.slice none 0 0)
  obtain ⟨e0, e1, e2, e3, e4, e5⟩ := BF
  refine bodyPost_ret (v := .tuple #[.agg #[.int .u8 0, .int .u8 0, .int .u16 0, .int .u16 0, .slice none 0 0, .slice none 0 0], .int .i64 30]) (by simp [results, Try.results22, go_sem, e0, e1, e2, e3, e4, e5]) rfl ⟨below_six KX.out (Nat.le_succ _) _ _ _ _ _ _, Or.inr ⟨fun h => ?_, rfl⟩⟩
  have hne : ¬ (bs.getD 0 0 = 22 + 128) := by have := H0.out; have := HT.out; omega
  rcases h.2 with h2 | h2
  · exact hne h2.2.1
  · exact HU.out (HI.out.1 h2)
set_option linter.unusedSimpArgs false in
set_option linter.unusedVariables false in
set_option maxRecDepth 100000 in
set_option maxHeartbeats 1600000 in
theorem rop22_y (m cap b off x0 x1 a1 a2 a3 nb nr ac rc : Nat) (a4 : List Bool) (a5 : List Nat) (ao ro : Option Addr) (bs : List Nat) (w : World) (hq : IsRq w (.agg #[.int .u8 22, .int .u16 a1, .int .u16 a2, .int .u16 a3, .slice ao nb ac, .slice ro nr rc]) ⟨22, a1, a2, a3, a4, a5⟩) (lb : a4.length ≤ 2500) (lr : a5.length ≤ 200) (hf : Rq.Fits ⟨22, a1, a2, a3, a4, a5⟩) (hS : Bs w b off m cap bs) (hm : 2 ≤ m) (h0 : x0 = bs.getD 0 0) (h1 : x1 = bs.getD 1 0) (hT : x0 = 22) (hU : bs = reqBytes ⟨22, a1, a2, a3, a4, a5⟩) :
    Calls Try.prog 22 #[.agg #[.int .u8 22, .int .u16 a1, .int .u16 a2, .int .u16 a3, .slice ao nb ac, .slice ro nr rc], .slice (some ⟨b, off, none⟩) m cap] w fun e w' => AnsEnd ⟨22, a1, a2, a3, a4, a5⟩ bs w e w' := by
  have hor : bits .or .u8 (22 : Int) 128 = 150 := or_128 (x := 22) (by decide)
  have t1 : ((x0 : Int) == 150) = false := by rw [beq_eq_false_iff_ne]; omega
  have t2 : ((x0 : Int) != 22) = false := by rw [bne_eq_false_iff_eq]; omega
  have hI := ans_w2 (fn := 22) (addr := a1) (n := a2) (addr2 := a3) (bits := a4) (regs := a5) (bs := bs) (by decide) (h0.symm.trans hT) (by rw [← hS.len]; omega)
  have HI := hid_as hI
  have HT := hid_as hT
  have HU := hid_as hU
  have AB : Hid (Bytes (reqBytes ⟨22, a1, a2, a3, a4, a5⟩)) := reqBytes_bytes hq.1 (by simp only; omega) (by simp only; omega)
  clear hT hU hI
  have hbx : b < w.heap.size := lt_of_cell (hS.at 0 (by omega))
  have k0 : w.cell? ⟨b, off, none⟩ = some (.int .u8 x0) := by rw [h0]; exact hS.at 0 (by omega)
  have k1 : w.cell? ⟨b, off + 1, none⟩ = some (.int .u8 x1) := by rw [h1]; exact hS.at 1 (by omega)
  have l0 : x0 < 256 := by rw [h0]; exact hS.bytes.at 0
  have l1 : x1 < 256 := by rw [h1]; exact hS.bytes.at 1
  have l2 : decide ((m : Int) < 2) = false := decide_eq_false (by omega)
  have i0 : (0 : Int) < (m : Int) := by omega
  have i1 : (1 : Int) < (m : Int) := by omega
  have i1' : 1 < m := by omega
  have H0 := hid_as h0
  have H1 := hid_as h1
  have HS := hid_as hS
  clear h0 h1 hS
  have HQ := hid_as hq
  have RQ := hid_as (fun (W : World) (h : Below w.heap.size w W) => ref_request (hq.below h) lb lr)
  have HF := hid_as hf
  clear hq hf
  go_enter Try.func22, Try.ntmps22
  go_wp2_with fail
  have TW := two_new w 22 a1 a2 a3 (.slice ao nb ac) (.slice ro nr rc)
  generalize ((w.alloc (.cells #[.int .u8 (22 : Nat), .int .u16 a1, .int .u16 a2, .int .u16 a3, .slice ao nb ac, .slice ro nr rc] 26)).alloc (.cells #[.int .u8 0, .int .u8 0, .int .u16 0, .int .u16 0, .slice none 0 0, .slice none 0 0] 44)) = W at TW ⊢
  refine (RQ.out _ TW.bel).mono ?_
  rintro e w1 ⟨hb1, hend⟩
  have q1 := (hb1.block _ TW.siz).trans TW.res
  have B1 := TW.box.below hb1 (Nat.lt_of_succ_lt TW.siz)
  have K1 : Hid (Below w.heap.size w w1) := below_and TW.bel hb1
  have z1 : w.heap.size + 1 < w1.heap.size := Nat.lt_of_lt_of_le TW.siz hb1.size
  clear hb1 TW RQ
  rcases hend with ⟨_, yv, rfl, owny⟩ | ⟨hno, _⟩
  case inr => exact absurd HF.out hno
  obtain ⟨c0, c1, c2, c3, c4, c5⟩ := B1
  obtain ⟨⟨r0, r1, r2, r3, r4, r5⟩, hfz⟩ := block6 q1
  have g0 := hfz 0
  have g1 := hfz 1
  have g2 := hfz 2
  have g3 := hfz 3
  have g4 := hfz 4
  have g5 := hfz 5
  clear hfz
  have k0' : w1.cell? ⟨b, off, none⟩ = some (.int .u8 x0) := (K1.out.cell (p := ⟨b, off, none⟩) hbx).trans k0
  have k1' : w1.cell? ⟨b, off + 1, none⟩ = some (.int .u8 x1) := (K1.out.cell (p := ⟨b, off + 1, none⟩) hbx).trans k1
  have OY := hid_as (own_sl owny)
  clear owny
  go_upto_region 4 with fail
  go_quiet (fail)
  go_upto_region 8 with fail
  have KY : Hid (Below w.heap.size w (w1.drewN nq)) := below_drewN K1.out _
  have BQ := (Box.mk c0 c1 c2 c3 c4 c5).drewN nq
  have y0 : (w1.drewN nq).heap[w.heap.size + 1]? = some (.cells #[.int .u8 0, .int .u8 0, .int .u16 0, .int .u16 0, .slice none 0 0, .slice none 0 0] 44 (0, 0)) := q1
  have v0 : (w1.drewN nq).cell? ⟨b, off, none⟩ = some (.int .u8 x0) := k0'
  have v1 : (w1.drewN nq).cell? ⟨b, off + 1, none⟩ = some (.int .u8 x1) := k1'
  have zY : w.heap.size + 1 < (w1.drewN nq).heap.size := z1
  have KK : Hid (Below w1.heap.size w1 (w1.drewN nq)) := below_drewN (Below.refl _ _) _
  clear c0 c1 c2 c3 c4 c5 r0 r1 r2 r3 r4 r5 g0 g1 g2 g3 g4 g5 k0' k1'
  generalize w1.drewN nq = Y at KY BQ y0 v0 v1 zY KK ⊢
  obtain ⟨c0, c1, c2, c3, c4, c5⟩ := BQ
  obtain ⟨⟨r0, r1, r2, r3, r4, r5⟩, hfz⟩ := block6 y0
  have g0 := hfz 0
  have g1 := hfz 1
  have g2 := hfz 2
  have g3 := hfz 3
  have g4 := hfz 4
  have g5 := hfz 5
  clear hfz
  go_quiet (fail)
  go_upto_region 10 with fail
  have KZ : Hid (Below w.heap.size w (Y.drewN nq)) := below_drewN KY.out _
  have BQ := (Box.mk c0 c1 c2 c3 c4 c5).drewN nq
  have yz : (Y.drewN nq).heap[w.heap.size + 1]? = some (.cells #[.int .u8 0, .int .u8 0, .int .u16 0, .int .u16 0, .slice none 0 0, .slice none 0 0] 44 (0, 0)) := y0
  have vz0 : (Y.drewN nq).cell? ⟨b, off, none⟩ = some (.int .u8 x0) := v0
  have vz1 : (Y.drewN nq).cell? ⟨b, off + 1, none⟩ = some (.int .u8 x1) := v1
  have zZ : w.heap.size + 1 < (Y.drewN nq).heap.size := zY
  have KKZ : Hid (Below w1.heap.size w1 (Y.drewN nq)) := below_drewN KK.out _
  clear c0 c1 c2 c3 c4 c5 r0 r1 r2 r3 r4 r5 g0 g1 g2 g3 g4 g5 y0 v0 v1 zY KY KK
  generalize Y.drewN nq = Y2 at KZ BQ yz vz0 vz1 zZ KKZ ⊢
  obtain ⟨c0, c1, c2, c3, c4, c5⟩ := BQ
  have a0' := fun (o : Obj) => ((Box.mk c0 c1 c2 c3 c4 c5).grow o).c0
  go_upto_region 29 with fail
  have TX := heap_alloc_new Y2 (.cells #[.int .u8 22, .int .u8 0, .int .u16 0, .int .u16 0, .slice none 0 0, .slice none 0 0] 44)
  have KX : Hid (Below w.heap.size w (Y2.alloc (.cells #[.int .u8 22, .int .u8 0, .int .u16 0, .int .u16 0, .slice none 0 0, .slice none 0 0] 44))) := below_new KZ.out _
  have KKX : Hid (Below w1.heap.size w1 (Y2.alloc (.cells #[.int .u8 22, .int .u8 0, .int .u16 0, .int .u16 0, .slice none 0 0, .slice none 0 0] 44))) := below_new KKZ.out _
  have BQ := (Box.mk c0 c1 c2 c3 c4 c5).grow (.cells #[.int .u8 22, .int .u8 0, .int .u16 0, .int .u16 0, .slice none 0 0, .slice none 0 0] 44)
  have yx := (Below.heap_alloc Y2 (.cells #[.int .u8 22, .int .u8 0, .int .u16 0, .int .u16 0, .slice none 0 0, .slice none 0 0] 44) _ zZ).trans yz
  have vx0 := ((below_new (Below.refl _ Y2) (.cells #[.int .u8 22, .int .u8 0, .int .u16 0, .int .u16 0, .slice none 0 0, .slice none 0 0] 44)).cell (p := ⟨b, off, none⟩) (lt_of_cell vz0)).trans vz0
  have vx1 := ((below_new (Below.refl _ Y2) (.cells #[.int .u8 22, .int .u8 0, .int .u16 0, .int .u16 0, .slice none 0 0, .slice none 0 0] 44)).cell (p := ⟨b, off + 1, none⟩) (lt_of_cell vz1)).trans vz1
  have zX : Y2.heap.size < (Y2.alloc (.cells #[.int .u8 22, .int .u8 0, .int .u16 0, .int .u16 0, .slice none 0 0, .slice none 0 0] 44)).heap.size := by rw [World.size_alloc]; omega
  clear c0 c1 c2 c3 c4 c5 yz vz0 vz1 KZ KKZ a0'
  generalize Y2.alloc (.cells #[.int .u8 22, .int .u8 0, .int .u16 0, .int .u16 0, .slice none 0 0, .slice none 0 0] 44) = X at TX KX KKX BQ yx vx0 vx1 zX ⊢
  obtain ⟨c0, c1, c2, c3, c4, c5⟩ := BQ
  obtain ⟨⟨r0, r1, r2, r3, r4, r5⟩, hfz⟩ := block6 yx
  obtain ⟨⟨d0, d1, d2, d3, d4, d5⟩, hfd⟩ := block6 TX
  have g0 := hfz 0
  have g1 := hfz 1
  have g2 := hfz 2
  have g3 := hfz 3
  have g4 := hfz 4
  have g5 := hfz 5
  have f0 := hfd 0
  have f1 := hfd 1
  have f2 := hfd 2
  have f3 := hfd 3
  have f4 := hfd 4
  have f5 := hfd 5
  clear hfz hfd
  have SM := hid_as (rsame_c (HS.out.below KX.out).sl (OY.out.below KKX.out) HS.out.bytes AB.out)
  go_wp2_with fail
  refine SM.out.mono ?_
  rintro e w3 ⟨rfl, hw⟩
  subst w3
  rw [decide_eq_true HU.out]
  go_upto_region 31 with fail
  have hne8 : ¬ Y2.heap.size = w.heap.size := by omega
  have hne9 : ¬ Y2.heap.size = w.heap.size + 1 := by omega
  have hne9' : ¬ w.heap.size + 1 = Y2.heap.size := by omega
  go_region_held3 (fun w' => w'.cell? ⟨w.heap.size, 1, none⟩ = some (.int .u16 a1) ∧ w'.cell? ⟨w.heap.size, 4, none⟩ = some (.slice ao nb ac) ∧ w'.cell? ⟨w.heap.size, 5, none⟩ = some (.slice ro nr rc)) (first | (simp [World.cell?_setCell_far, hne8, c1, c4, c5]; done)) (fail)
  all_goals
    go_wp2
    have BF := set_box ((((Box.mk r0 r1 r2 r3 r4 r5).far (p := ⟨Y2.heap.size, 2, none⟩) hne9 (.int .u16 a1)).far (p := ⟨Y2.heap.size, 4, none⟩) hne9 (.slice ao nb ac)).far (p := ⟨Y2.heap.size, 5, none⟩) hne9 (.slice ro nr rc)) (.int .u8 22) (.int .u8 0) (.int .u16 a1) (.int .u16 0) (.slice ao nb ac) (.slice ro nr rc)
    obtain ⟨e0, e1, e2, e3, e4, e5⟩ := BF
    have hx : AnsIs ⟨22, a1, a2, a3, a4, a5⟩ bs := HI.out.2 HU.out
    have KF := (below_six (Below.setCell (Below.setCell (Below.setCell KX.out (p := ⟨Y2.heap.size, 2, none⟩) (by simp; omega) (.int .u16 a1)) (p := ⟨Y2.heap.size, 4, none⟩) (by simp; omega) (.slice ao nb ac)) (p := ⟨Y2.heap.size, 5, none⟩) (by simp; omega) (.slice ro nr rc)) (Nat.le_succ _) (.int .u8 22) (.int .u8 0) (.int .u16 a1) (.int .u16 0) (.slice ao nb ac) (.slice ro nr rc)).drew
    refine bodyPost_ret (v := .tuple #[.agg #[.int .u8 22, .int .u8 0, .int .u16 a1, .int .u16 0, .slice ao nb ac, .slice ro nr rc], .int .i64 0]) (by simp [results, Try.results22, go_sem, e0, e1, e2, e3, e4, e5]) rfl ⟨KF, Or.inl ⟨⟨HF.out, Or.inr hx⟩, _, rfl, ?_⟩⟩
    have hem : a4 = [] := by
      have hfit := HF.out
      unfold Rq.Fits FitsN at hfit
      simp only at hfit
      exact List.length_eq_zero_iff.1 (by omega)
    have er : readAns ⟨22, a1, a2, a3, a4, a5⟩ bs = ⟨22, 0, a1, 0, a4, a5⟩ := by
      unfold readAns ansOf echo
      rw [if_pos (H0.out.symm.trans HT.out)]
      simp [hem]
    rw [er]
    obtain ⟨ok, bvv, rvv, heq, s1, s2⟩ := HQ.out
    unfold rqV at heq
    simp at heq
    obtain ⟨rfl, rfl⟩ := heq
    exact ⟨rp_ok (by decide) (by decide) ok.addr (by decide) ok.regs, _, _, rfl, s1.below KF, s2.below KF⟩
end Go.Proofs.Ytehbbkdiekgpbaa
