/- The walk: the reference reads a reply: function 23. -/
import Derived.Test.YtehbbkdiekgpbaaROPB
namespace Go.Proofs.Ytehbbkdiekgpbaa
open Go.RowKit
open Pdu
set_option linter.unusedSimpArgs false in
set_option linter.unusedVariables false in
set_option maxRecDepth 100000 in
set_option maxHeartbeats 1600000 in
theorem rop23_a (m cap b off x0 x1 a1 a2 a3 nb nr ac rc : Nat) (a4 : List Bool) (a5 : List Nat) (ao ro : Option Addr) (bs : List Nat) (w : World) (hq : IsRq w (.agg #[.int .u8 23, .int .u16 a1, .int .u16 a2, .int .u16 a3, .slice ao nb ac, .slice ro nr rc]) ⟨23, a1, a2, a3, a4, a5⟩) (lb : a4.length ≤ 2500) (lr : a5.length ≤ 200) (hf : Rq.Fits ⟨23, a1, a2, a3, a4, a5⟩) (hS : Bs w b off m cap bs) (hm : 2 ≤ m) (h0 : x0 = bs.getD 0 0) (h1 : x1 = bs.getD 1 0) (hT : x0 = 23) (hU : x1 ≠ 2 * a2) :
    Calls Try.prog 22 #[.agg #[.int .u8 23, .int .u16 a1, .int .u16 a2, .int .u16 a3, .slice ao nb ac, .slice ro nr rc], .slice (some ⟨b, off, none⟩) m cap] w fun e w' => AnsEnd ⟨23, a1, a2, a3, a4, a5⟩ bs w e w' := by
  have hor : bits .or .u8 (23 : Int) 128 = 151 := or_128 (x := 23) (by decide)
  have t1 : ((x0 : Int) == 151) = false := by rw [beq_eq_false_iff_ne]; omega
  have t2 : ((x0 : Int) != 23) = false := by rw [bne_eq_false_iff_eq]; omega
  have ha2 : a2 ≤ 2000 ∧ 1 ≤ a2 := by have hf := hf; unfold Rq.Fits FitsN at hf; simp only at hf; omega
  have hI := ans_r (fn := 23) (addr := a1) (n := a2) (addr2 := a3) (m := m) (bits := a4) (regs := a5) (bs := bs) (by decide) (h0.symm.trans hT) hS.len (by omega)
  have HI := hid_as hI
  have e1 : IntKind.i64.wrap (a2 : Int) = (a2 : Int) := by rw [IntKind.wrap_i64]; omega
  have x1l : x1 < 256 := by rw [h1]; exact hS.bytes.at 1
  have e2 : IntKind.i64.wrap (2 + (x1 : Int)) = 2 + (x1 : Int) := by rw [IntKind.wrap_i64]; omega
  have e1x : IntKind.i64.wrap (x1 : Int) = (x1 : Int) := by rw [IntKind.wrap_i64]; omega
  have e3 : IntKind.i64.wrap (2 * (a2 : Int)) = 2 * (a2 : Int) := by rw [IntKind.wrap_i64]; omega
  have t4 : ((x1 : Int) != 2 * (a2 : Int)) = true := by rw [bne_iff_ne]; omega
  have HT := hid_as hT
  have HU := hid_as hU
  clear hT hU hI
  have hbx : b < w.heap.size := lt_of_cell (hS.at 0 (by omega))
  have k0 : w.cell? ⟨b, off, none⟩ = some (.int .u8 x0) := by rw [h0]; exact hS.at 0 (by omega)
  have k1 : w.cell? ⟨b, off + 1, none⟩ = some (.int .u8 x1) := by rw [h1]; exact hS.at 1 (by omega)
  have l0 : x0 < 256 := by rw [h0]; exact hS.bytes.at 0
  have l1 : x1 < 256 := by rw [h1]; exact hS.bytes.at 1
  have l2 : decide ((m : Int) < 2) = false := decide_eq_false (by omega)
  have i0 : (0 : Int) < (m : Int) := by omega
  have i1 : (1 : Int) < (m : Int) := by omega
  have i1' : 1 < m := by omega
  have H0 := hid_as h0
  have H1 := hid_as h1
  have HS := hid_as hS
  clear h0 h1 hS
  have HQ := hid_as hq
  have RQ := hid_as (fun (W : World) (h : Below w.heap.size w W) => ref_request (hq.below h) lb lr)
  have HF := hid_as hf
  clear hq hf
  go_enter Try.func22, Try.ntmps22
  go_wp2_with fail
  have TW := two_new w 23 a1 a2 a3 (.slice ao nb ac) (.slice ro nr rc)
  generalize ((w.alloc (.cells #[.int .u8 (23 : Nat), .int .u16 a1, .int .u16 a2, .int .u16 a3, .slice ao nb ac, .slice ro nr rc] 26)).alloc (.cells #[.int .u8 0, .int .u8 0, .int .u16 0, .int .u16 0, .slice none 0 0, .slice none 0 0] 44)) = W at TW ⊢
  refine (RQ.out _ TW.bel).mono ?_
  rintro e w1 ⟨hb1, hend⟩
  have q1 := (hb1.block _ TW.siz).trans TW.res
  have B1 := TW.box.below hb1 (Nat.lt_of_succ_lt TW.siz)
  have K1 : Hid (Below w.heap.size w w1) := below_and TW.bel hb1
  have z1 : w.heap.size + 1 < w1.heap.size := Nat.lt_of_lt_of_le TW.siz hb1.size
  clear hb1 TW RQ
  rcases hend with ⟨_, yv, rfl, owny⟩ | ⟨hno, _⟩
  case inr => exact absurd HF.out hno
  obtain ⟨c0, c1, c2, c3, c4, c5⟩ := B1
  obtain ⟨⟨r0, r1, r2, r3, r4, r5⟩, hfz⟩ := block6 q1
  have g0 := hfz 0
  have g1 := hfz 1
  have g2 := hfz 2
  have g3 := hfz 3
  have g4 := hfz 4
  have g5 := hfz 5
  clear hfz
  have k0' : w1.cell? ⟨b, off, none⟩ = some (.int .u8 x0) := (K1.out.cell (p := ⟨b, off, none⟩) hbx).trans k0
  have k1' : w1.cell? ⟨b, off + 1, none⟩ = some (.int .u8 x1) := (K1.out.cell (p := ⟨b, off + 1, none⟩) hbx).trans k1
  go_upto_region 4 with fail
  go_quiet (fail)
  go_upto_region 8 with fail
  have KY : Hid (Below w.heap.size w (w1.drewN nq)) := below_drewN K1.out _
  have BQ := (Box.mk c0 c1 c2 c3 c4 c5).drewN nq
  have y0 : (w1.drewN nq).heap[w.heap.size + 1]? = some (.cells #[.int .u8 0, .int .u8 0, .int .u16 0, .int .u16 0, .slice none 0 0, .slice none 0 0] 44 (0, 0)) := q1
  have v0 : (w1.drewN nq).cell? ⟨b, off, none⟩ = some (.int .u8 x0) := k0'
  have v1 : (w1.drewN nq).cell? ⟨b, off + 1, none⟩ = some (.int .u8 x1) := k1'
  have zY : w.heap.size + 1 < (w1.drewN nq).heap.size := z1
  have KK : Hid (Below w1.heap.size w1 (w1.drewN nq)) := below_drewN (Below.refl _ _) _
  clear c0 c1 c2 c3 c4 c5 r0 r1 r2 r3 r4 r5 g0 g1 g2 g3 g4 g5 k0' k1'
  generalize w1.drewN nq = Y at KY BQ y0 v0 v1 zY KK ⊢
  obtain ⟨c0, c1, c2, c3, c4, c5⟩ := BQ
  obtain ⟨⟨r0, r1, r2, r3, r4, r5⟩, hfz⟩ := block6 y0
  have g0 := hfz 0
  have g1 := hfz 1
  have g2 := hfz 2
  have g3 := hfz 3
  have g4 := hfz 4
  have g5 := hfz 5
  clear hfz
  go_quiet (fail)
  go_upto_region 10 with fail
  have KZ : Hid (Below w.heap.size w (Y.drewN nq)) := below_drewN KY.out _
  have BQ := (Box.mk c0 c1 c2 c3 c4 c5).drewN nq
  have yz : (Y.drewN nq).heap[w.heap.size + 1]? = some (.cells #[.int .u8 0, .int .u8 0, .int .u16 0, .int .u16 0, .slice none 0 0, .slice none 0 0] 44 (0, 0)) := y0
  have vz0 : (Y.drewN nq).cell? ⟨b, off, none⟩ = some (.int .u8 x0) := v0
  have vz1 : (Y.drewN nq).cell? ⟨b, off + 1, none⟩ = some (.int .u8 x1) := v1
  have zZ : w.heap.size + 1 < (Y.drewN nq).heap.size := zY
  have KKZ : Hid (Below w1.heap.size w1 (Y.drewN nq)) := below_drewN KK.out _
  clear c0 c1 c2 c3 c4 c5 r0 r1 r2 r3 r4 r5 g0 g1 g2 g3 g4 g5 y0 v0 v1 zY KY KK
  generalize Y.drewN nq = Y2 at KZ BQ yz vz0 vz1 zZ KKZ ⊢
  obtain ⟨c0, c1, c2, c3, c4, c5⟩ := BQ
  have a0' := fun (o : Obj) => ((Box.mk c0 c1 c2 c3 c4 c5).grow o).c0
  go_upto_region 23 with fail
  have TX := heap_alloc_new Y2 (.cells #[.int .u8 23, .int .u8 0, .int .u16 0, .int .u16 0, .slice none 0 0, .slice none 0 0] 44)
  have KX : Hid (Below w.heap.size w (Y2.alloc (.cells #[.int .u8 23, .int .u8 0, .int .u16 0, .int .u16 0, .slice none 0 0, .slice none 0 0] 44))) := below_new KZ.out _
  have KKX : Hid (Below w1.heap.size w1 (Y2.alloc (.cells #[.int .u8 23, .int .u8 0, .int .u16 0, .int .u16 0, .slice none 0 0, .slice none 0 0] 44))) := below_new KKZ.out _
  have BQ := (Box.mk c0 c1 c2 c3 c4 c5).grow (.cells #[.int .u8 23, .int .u8 0, .int .u16 0, .int .u16 0, .slice none 0 0, .slice none 0 0] 44)
  have yx := (Below.heap_alloc Y2 (.cells #[.int .u8 23, .int .u8 0, .int .u16 0, .int .u16 0, .slice none 0 0, .slice none 0 0] 44) _ zZ).trans yz
  have vx0 := ((below_new (Below.refl _ Y2) (.cells #[.int .u8 23, .int .u8 0, .int .u16 0, .int .u16 0, .slice none 0 0, .slice none 0 0] 44)).cell (p := ⟨b, off, none⟩) (lt_of_cell vz0)).trans vz0
  have vx1 := ((below_new (Below.refl _ Y2) (.cells #[.int .u8 23, .int .u8 0, .int .u16 0, .int .u16 0, .slice none 0 0, .slice none 0 0] 44)).cell (p := ⟨b, off + 1, none⟩) (lt_of_cell vz1)).trans vz1
  have zX : Y2.heap.size < (Y2.alloc (.cells #[.int .u8 23, .int .u8 0, .int .u16 0, .int .u16 0, .slice none 0 0, .slice none 0 0] 44)).heap.size := by rw [World.size_alloc]; omega
  clear c0 c1 c2 c3 c4 c5 yz vz0 vz1 KZ KKZ a0'
  generalize Y2.alloc (.cells #[.int .u8 23, .int .u8 0, .int .u16 0, .int .u16 0, .slice none 0 0, .slice none 0 0] 44) = X at TX KX KKX BQ yx vx0 vx1 zX ⊢
  obtain ⟨c0, c1, c2, c3, c4, c5⟩ := BQ
  obtain ⟨⟨r0, r1, r2, r3, r4, r5⟩, hfz⟩ := block6 yx
  obtain ⟨⟨d0, d1, d2, d3, d4, d5⟩, hfd⟩ := block6 TX
  have g0 := hfz 0
  have g1 := hfz 1
  have g2 := hfz 2
  have g3 := hfz 3
  have g4 := hfz 4
  have g5 := hfz 5
  have f0 := hfd 0
  have f1 := hfd 1
  have f2 := hfd 2
  have f3 := hfd 3
  have f4 := hfd 4
  have f5 := hfd 5
  clear hfz hfd
  go_quiet (fail)
  go_wp2
  have BF := set_box ((Box.mk r0 r1 r2 r3 r4 r5).drewN nq) (.int .u8 0) (.int .u8 0) (.int .u16 0) (.int .u16 0) (.slice none 0 0) (.slice none 0 0)
  obtain ⟨e0, e1, e2, e3, e4, e5⟩ := BF
  refine bodyPost_ret (v := .tuple #[.agg #[.int .u8 0, .int .u8 0, .int .u16 0, .int .u16 0, .slice none 0 0, .slice none 0 0], .int .i64 30]) (by simp [results, Try.results22, go_sem, e0, e1, e2, e3, e4, e5]) rfl ⟨below_six (below_drewN KX.out _) (Nat.le_succ _) _ _ _ _ _ _, Or.inr ⟨fun h => ?_, rfl⟩⟩
  have hne : ¬ (bs.getD 0 0 = 23 + 128) := by have := H0.out; have := HT.out; omega
  rcases h.2 with h2 | h2
  · exact hne h2.2.1
  · have h3 := HI.out.1 h2
    have := H1.out
    have := HU.out
    omega
set_option linter.unusedSimpArgs false in
set_option linter.unusedVariables false in
set_option maxRecDepth 100000 in
set_option maxHeartbeats 1600000 in
theorem rop23_b (m cap b off x0 x1 a1 a2 a3 nb nr ac rc : Nat) (a4 : List Bool) (a5 : List Nat) (ao ro : Option Addr) (bs : List Nat) (w : World) (hq : IsRq w (.agg #[.int .u8 23, .int .u16 a1, .int .u16 a2, .int .u16 a3, .slice ao nb ac, .slice ro nr rc]) ⟨23, a1, a2, a3, a4, a5⟩) (lb : a4.length ≤ 2500) (lr : a5.length ≤ 200) (hf : Rq.Fits ⟨23, a1, a2, a3, a4, a5⟩) (hS : Bs w b off m cap bs) (hm : 2 ≤ m) (h0 : x0 = bs.getD 0 0) (h1 : x1 = bs.getD 1 0) (hT : x0 = 23) (hU : x1 = 2 * a2) (hV : m ≠ 2 + x1) :
    Calls Try.prog 22 #[.agg #[.int .u8 23, .int .u16 a1, .int .u16 a2, .int .u16 a3, .slice ao nb ac, .slice ro nr rc], .slice (some ⟨b, off, none⟩) m cap] w fun e w' => AnsEnd ⟨23, a1, a2, a3, a4, a5⟩ bs w e w' := by
  have hor : bits .or .u8 (23 : Int) 128 = 151 := or_128 (x := 23) (by decide)
  have t1 : ((x0 : Int) == 151) = false := by rw [beq_eq_false_iff_ne]; omega
  have t2 : ((x0 : Int) != 23) = false := by rw [bne_eq_false_iff_eq]; omega
  have ha2 : a2 ≤ 2000 ∧ 1 ≤ a2 := by have hf := hf; unfold Rq.Fits FitsN at hf; simp only at hf; omega
  have hI := ans_r (fn := 23) (addr := a1) (n := a2) (addr2 := a3) (m := m) (bits := a4) (regs := a5) (bs := bs) (by decide) (h0.symm.trans hT) hS.len (by omega)
  have HI := hid_as hI
  have e1 : IntKind.i64.wrap (a2 : Int) = (a2 : Int) := by rw [IntKind.wrap_i64]; omega
  have x1l : x1 < 256 := by rw [h1]; exact hS.bytes.at 1
  have e2 : IntKind.i64.wrap (2 + (x1 : Int)) = 2 + (x1 : Int) := by rw [IntKind.wrap_i64]; omega
  have e1x : IntKind.i64.wrap (x1 : Int) = (x1 : Int) := by rw [IntKind.wrap_i64]; omega
  have e3 : IntKind.i64.wrap (2 * (a2 : Int)) = 2 * (a2 : Int) := by rw [IntKind.wrap_i64]; omega
  have t4 : ((x1 : Int) != 2 * (a2 : Int)) = false := by rw [bne_eq_false_iff_eq]; omega
  have t5 : ((m : Int) != 2 + (x1 : Int)) = true := by rw [bne_iff_ne]; omega
  have HT := hid_as hT
  have HU := hid_as hU
  have HV := hid_as hV
  clear hV
  clear hT hU hI
  have hbx : b < w.heap.size := lt_of_cell (hS.at 0 (by omega))
  have k0 : w.cell? ⟨b, off, none⟩ = some (.int .u8 x0) := by rw [h0]; exact hS.at 0 (by omega)
  have k1 : w.cell? ⟨b, off + 1, none⟩ = some (.int .u8 x1) := by rw [h1]; exact hS.at 1 (by omega)
  have l0 : x0 < 256 := by rw [h0]; exact hS.bytes.at 0
  have l1 : x1 < 256 := by rw [h1]; exact hS.bytes.at 1
  have l2 : decide ((m : Int) < 2) = false := decide_eq_false (by omega)
  have i0 : (0 : Int) < (m : Int) := by omega
  have i1 : (1 : Int) < (m : Int) := by omega
  have i1' : 1 < m := by omega
  have H0 := hid_as h0
  have H1 := hid_as h1
  have HS := hid_as hS
  clear h0 h1 hS
  have HQ := hid_as hq
  have RQ := hid_as (fun (W : World) (h : Below w.heap.size w W) => ref_request (hq.below h) lb lr)
  have HF := hid_as hf
  clear hq hf
  go_enter Try.func22, Try.ntmps22
  go_wp2_with fail
  have TW := two_new w 23 a1 a2 a3 (.slice ao nb ac) (.slice ro nr rc)
  generalize ((w.alloc (.cells #[.int .u8 (23 : Nat), .int .u16 a1, .int .u16 a2, .int .u16 a3, .slice ao nb ac, .slice ro nr rc] 26)).alloc (.cells #[.int .u8 0, .int .u8 0, .int .u16 0, .int .u16 0, .slice none 0 0, .slice none 0 0] 44)) = W at TW ⊢
  refine (RQ.out _ TW.bel).mono ?_
  rintro e w1 ⟨hb1, hend⟩
  have q1 := (hb1.block _ TW.siz).trans TW.res
  have B1 := TW.box.below hb1 (Nat.lt_of_succ_lt TW.siz)
  have K1 : Hid (Below w.heap.size w w1) := below_and TW.bel hb1
  have z1 : w.heap.size + 1 < w1.heap.size := Nat.lt_of_lt_of_le TW.siz hb1.size
  clear hb1 TW RQ
  rcases hend with ⟨_, yv, rfl, owny⟩ | ⟨hno, _⟩
  case inr => exact absurd HF.out hno
  obtain ⟨c0, c1, c2, c3, c4, c5⟩ := B1
  obtain ⟨⟨r0, r1, r2, r3, r4, r5⟩, hfz⟩ := block6 q1
  have g0 := hfz 0
  have g1 := hfz 1
  have g2 := hfz 2
  have g3 := hfz 3
  have g4 := hfz 4
  have g5 := hfz 5
  clear hfz
  have k0' : w1.cell? ⟨b, off, none⟩ = some (.int .u8 x0) := (K1.out.cell (p := ⟨b, off, none⟩) hbx).trans k0
  have k1' : w1.cell? ⟨b, off + 1, none⟩ = some (.int .u8 x1) := (K1.out.cell (p := ⟨b, off + 1, none⟩) hbx).trans k1
  go_upto_region 4 with fail
  go_quiet (fail)
  go_upto_region 8 with fail
  have KY : Hid (Below w.heap.size w (w1.drewN nq)) := below_drewN K1.out _
  have BQ := (Box.mk c0 c1 c2 c3 c4 c5).drewN nq
  have y0 : (w1.drewN nq).heap[w.heap.size + 1]? = some (.cells #[.int .u8 0, .int .u8 0, .int .u16 0, .int .u16 0, .slice none 0 0, .slice none 0 0] 44 (0, 0)) := q1
  have v0 : (w1.drewN nq).cell? ⟨b, off, none⟩ = some (.int .u8 x0) := k0'
  have v1 : (w1.drewN nq).cell? ⟨b, off + 1, none⟩ = some (.int .u8 x1) := k1'
  have zY : w.heap.size + 1 < (w1.drewN nq).heap.size := z1
  have KK : Hid (Below w1.heap.size w1 (w1.drewN nq)) := below_drewN (Below.refl _ _) _
  clear c0 c1 c2 c3 c4 c5 r0 r1 r2 r3 r4 r5 g0 g1 g2 g3 g4 g5 k0' k1'
  generalize w1.drewN nq = Y at KY BQ y0 v0 v1 zY KK ⊢
  obtain ⟨c0, c1, c2, c3, c4, c5⟩ := BQ
  obtain ⟨⟨r0, r1, r2, r3, r4, r5⟩, hfz⟩ := block6 y0
  have g0 := hfz 0
  have g1 := hfz 1
  have g2 := hfz 2
  have g3 := hfz 3
  have g4 := hfz 4
  have g5 := hfz 5
  clear hfz
  go_quiet (fail)
  go_upto_region 10 with fail
  have KZ : Hid (Below w.heap.size w (Y.drewN nq)) := below_drewN KY.out _
  have BQ := (Box.mk c0 c1 c2 c3 c4 c5).drewN nq
  have yz : (Y.drewN nq).heap[w.heap.size + 1]? = some (.cells #[.int .u8 0, .int .u8 0, .int .u16 0, .int .u16 0, .slice none 0 0, .slice none 0 0] 44 (0, 0)) := y0
  have vz0 : (Y.drewN nq).cell? ⟨b, off, none⟩ = some (.int .u8 x0) := v0
  have vz1 : (Y.drewN nq).cell? ⟨b, off + 1, none⟩ = some (.int .u8 x1) := v1
  have zZ : w.heap.size + 1 < (Y.drewN nq).heap.size := zY
  have KKZ : Hid (Below w1.heap.size w1 (Y.drewN nq)) := below_drewN KK.out _
  clear c0 c1 c2 c3 c4 c5 r0 r1 r2 r3 r4 r5 g0 g1 g2 g3 g4 g5 y0 v0 v1 zY KY KK
  generalize Y.drewN nq = Y2 at KZ BQ yz vz0 vz1 zZ KKZ ⊢
  obtain ⟨c0, c1, c2, c3, c4, c5⟩ := BQ
  have a0' := fun (o : Obj) => ((Box.mk c0 c1 c2 c3 c4 c5).grow o).c0
  go_upto_region 23 with fail
  have TX := heap_alloc_new Y2 (.cells #[.int .u8 23, .int .u8 0, .int .u16 0, .int .u16 0, .slice none 0 0, .slice none 0 0] 44)
  have KX : Hid (Below w.heap.size w (Y2.alloc (.cells #[.int .u8 23, .int .u8 0, .int .u16 0, .int .u16 0, .slice none 0 0, .slice none 0 0] 44))) := below_new KZ.out _
  have KKX : Hid (Below w1.heap.size w1 (Y2.alloc (.cells #[.int .u8 23, .int .u8 0, .int .u16 0, .int .u16 0, .slice none 0 0, .slice none 0 0] 44))) := below_new KKZ.out _
  have BQ := (Box.mk c0 c1 c2 c3 c4 c5).grow (.cells #[.int .u8 23, .int .u8 0, .int .u16 0, .int .u16 0, .slice none 0 0, .slice none 0 0] 44)
  have yx := (Below.heap_alloc Y2 (.cells #[.int .u8 23, .int .u8 0, .int .u16 0, .int .u16 0, .slice none 0 0, .slice none 0 0] 44) _ zZ).trans yz
  have vx0 := ((below_new (Below.refl _ Y2) (.cells #[.int .u8 23, .int .u8 0, .int .u16 0, .int .u16 0, .slice none 0 0, .slice none 0 0] 44)).cell (p := ⟨b, off, none⟩) (lt_of_cell vz0)).trans vz0
  have vx1 := ((below_new (Below.refl _ Y2) (.cells #[.int .u8 23, .int .u8 0, .int .u16 0, .int .u16 0, .slice none 0 0, .slice none 0 0] 44)).cell (p := ⟨b, off + 1, none⟩) (lt_of_cell vz1)).trans vz1
  have zX : Y2.heap.size < (Y2.alloc (.cells #[.int .u8 23, .int .u8 0, .int .u16 0, .int .u16 0, .slice none 0 0, .slice none 0 0] 44)).heap.size := by rw [World.size_alloc]; omega
  clear c0 c1 c2 c3 c4 c5 yz vz0 vz1 KZ KKZ a0'
  generalize Y2.alloc (.cells #[.int .u8 23, .int .u8 0, .int .u16 0, .int .u16 0, .slice none 0 0, .slice none 0 0] 44) = X at TX KX KKX BQ yx vx0 vx1 zX ⊢
  obtain ⟨c0, c1, c2, c3, c4, c5⟩ := BQ
  obtain ⟨⟨r0, r1, r2, r3, r4, r5⟩, hfz⟩ := block6 yx
  obtain ⟨⟨d0, d1, d2, d3, d4, d5⟩, hfd⟩ := block6 TX
  have g0 := hfz 0
  have g1 := hfz 1
  have g2 := hfz 2
  have g3 := hfz 3
  have g4 := hfz 4
  have g5 := hfz 5
  have f0 := hfd 0
  have f1 := hfd 1
  have f2 := hfd 2
  have f3 := hfd 3
  have f4 := hfd 4
  have f5 := hfd 5
  clear hfz hfd
  go_quiet (fail)
  go_wp2
  have BF := set_box ((Box.mk r0 r1 r2 r3 r4 r5).drewN nq) (.int .u8 0) (.int .u8 0) (.int .u16 0) (.int .u16 0) (.slice none 0 0) (.slice none 0 0)
  obtain ⟨e0, e1, e2, e3, e4, e5⟩ := BF
  refine bodyPost_ret (v := .tuple #[.agg #[.int .u8 0, .int .u8 0, .int .u16 0, .int .u16 0, .slice none 0 0, .slice none 0 0], .int .i64 30]) (by simp [results, Try.results22, go_sem, e0, e1, e2, e3, e4, e5]) rfl ⟨below_six (below_drewN KX.out _) (Nat.le_succ _) _ _ _ _ _ _, Or.inr ⟨fun h => ?_, rfl⟩⟩
  have hne : ¬ (bs.getD 0 0 = 23 + 128) := by have := H0.out; have := HT.out; omega
  rcases h.2 with h2 | h2
  · exact hne h2.2.1
  · have h3 := HI.out.1 h2
    have := H1.out
    have := HU.out
    have := HV.out
    omega
set_option linter.unusedSimpArgs false in
set_option linter.unusedVariables false in
set_option maxRecDepth 100000 in
set_option maxHeartbeats 1600000 in
theorem rop23_y (m cap b off x0 x1 a1 a2 a3 nb nr ac rc : Nat) (a4 : List Bool) (a5 : List Nat) (ao ro : Option Addr) (bs : List Nat) (w : World) (hq : IsRq w (.agg #[.int .u8 23, .int .u16 a1, .int .u16 a2, .int .u16 a3, .slice ao nb ac, .slice ro nr rc]) ⟨23, a1, a2, a3, a4, a5⟩) (lb : a4.length ≤ 2500) (lr : a5.length ≤ 200) (hf : Rq.Fits ⟨23, a1, a2, a3, a4, a5⟩) (hS : Bs w b off m cap bs) (hm : 2 ≤ m) (h0 : x0 = bs.getD 0 0) (h1 : x1 = bs.getD 1 0) (hT : x0 = 23) (hU : x1 = 2 * a2) (hV : m = 2 + x1) :
    Calls Try.prog 22 #[.agg #[.int .u8 23, .int .u16 a1, .int .u16 a2, .int .u16 a3, .slice ao nb ac, .slice ro nr rc], .slice (some ⟨b, off, none⟩) m cap] w fun e w' => AnsEnd ⟨23, a1, a2, a3, a4, a5⟩ bs w e w' := by
  have hor : bits .or .u8 (23 : Int) 128 = 151 := or_128 (x := 23) (by decide)
  have t1 : ((x0 : Int) == 151) = false := by rw [beq_eq_false_iff_ne]; omega
  have t2 : ((x0 : Int) != 23) = false := by rw [bne_eq_false_iff_eq]; omega
  have ha2 : a2 ≤ 2000 ∧ 1 ≤ a2 := by have hf := hf; unfold Rq.Fits FitsN at hf; simp only at hf; omega
  have hI := ans_r (fn := 23) (addr := a1) (n := a2) (addr2 := a3) (m := m) (bits := a4) (regs := a5) (bs := bs) (by decide) (h0.symm.trans hT) hS.len (by omega)
  have HI := hid_as hI
  have e1 : IntKind.i64.wrap (a2 : Int) = (a2 : Int) := by rw [IntKind.wrap_i64]; omega
  have x1l : x1 < 256 := by rw [h1]; exact hS.bytes.at 1
  have e2 : IntKind.i64.wrap (2 + (x1 : Int)) = 2 + (x1 : Int) := by rw [IntKind.wrap_i64]; omega
  have e1x : IntKind.i64.wrap (x1 : Int) = (x1 : Int) := by rw [IntKind.wrap_i64]; omega
  have e3 : IntKind.i64.wrap (2 * (a2 : Int)) = 2 * (a2 : Int) := by rw [IntKind.wrap_i64]; omega
  have t4 : ((x1 : Int) != 2 * (a2 : Int)) = false := by rw [bne_eq_false_iff_eq]; omega
  have t5 : ((m : Int) != 2 + (x1 : Int)) = false := by rw [bne_eq_false_iff_eq]; omega
  have HT := hid_as hT
  have HU := hid_as hU
  have HV := hid_as hV
  clear hV
  clear hT hU hI
  have hbx : b < w.heap.size := lt_of_cell (hS.at 0 (by omega))
  have k0 : w.cell? ⟨b, off, none⟩ = some (.int .u8 x0) := by rw [h0]; exact hS.at 0 (by omega)
  have k1 : w.cell? ⟨b, off + 1, none⟩ = some (.int .u8 x1) := by rw [h1]; exact hS.at 1 (by omega)
  have l0 : x0 < 256 := by rw [h0]; exact hS.bytes.at 0
  have l1 : x1 < 256 := by rw [h1]; exact hS.bytes.at 1
  have l2 : decide ((m : Int) < 2) = false := decide_eq_false (by omega)
  have i0 : (0 : Int) < (m : Int) := by omega
  have i1 : (1 : Int) < (m : Int) := by omega
  have i1' : 1 < m := by omega
  have H0 := hid_as h0
  have H1 := hid_as h1
  have HS := hid_as hS
  clear h0 h1 hS
  have HQ := hid_as hq
  have RQ := hid_as (fun (W : World) (h : Below w.heap.size w W) => ref_request (hq.below h) lb lr)
  have HF := hid_as hf
  clear hq hf
  go_enter Try.func22, Try.ntmps22
  go_wp2_with fail
  have TW := two_new w 23 a1 a2 a3 (.slice ao nb ac) (.slice ro nr rc)
  generalize ((w.alloc (.cells #[.int .u8 (23 : Nat), .int .u16 a1, .int .u16 a2, .int .u16 a3, .slice ao nb ac, .slice ro nr rc] 26)).alloc (.cells #[.int .u8 0, .int .u8 0, .int .u16 0, .int .u16 0, .slice none 0 0, .slice none 0 0] 44)) = W at TW ⊢
  refine (RQ.out _ TW.bel).mono ?_
  rintro e w1 ⟨hb1, hend⟩
  have q1 := (hb1.block _ TW.siz).trans TW.res
  have B1 := TW.box.below hb1 (Nat.lt_of_succ_lt TW.siz)
  have K1 : Hid (Below w.heap.size w w1) := below_and TW.bel hb1
  have z1 : w.heap.size + 1 < w1.heap.size := Nat.lt_of_lt_of_le TW.siz hb1.size
  clear hb1 TW RQ
  rcases hend with ⟨_, yv, rfl, owny⟩ | ⟨hno, _⟩
  case inr => exact absurd HF.out hno
  obtain ⟨c0, c1, c2, c3, c4, c5⟩ := B1
  obtain ⟨⟨r0, r1, r2, r3, r4, r5⟩, hfz⟩ := block6 q1
  have g0 := hfz 0
  have g1 := hfz 1
  have g2 := hfz 2
  have g3 := hfz 3
  have g4 := hfz 4
  have g5 := hfz 5
  clear hfz
  have k0' : w1.cell? ⟨b, off, none⟩ = some (.int .u8 x0) := (K1.out.cell (p := ⟨b, off, none⟩) hbx).trans k0
  have k1' : w1.cell? ⟨b, off + 1, none⟩ = some (.int .u8 x1) := (K1.out.cell (p := ⟨b, off + 1, none⟩) hbx).trans k1
  go_upto_region 4 with fail
  go_quiet (fail)
  go_upto_region 8 with fail
  have KY : Hid (Below w.heap.size w (w1.drewN nq)) := below_drewN K1.out _
  have BQ := (Box.mk c0 c1 c2 c3 c4 c5).drewN nq
  have y0 : (w1.drewN nq).heap[w.heap.size + 1]? = some (.cells #[.int .u8 0, .int .u8 0, .int .u16 0, .int .u16 0, .slice none 0 0, .slice none 0 0] 44 (0, 0)) := q1
  have v0 : (w1.drewN nq).cell? ⟨b, off, none⟩ = some (.int .u8 x0) := k0'
  have v1 : (w1.drewN nq).cell? ⟨b, off + 1, none⟩ = some (.int .u8 x1) := k1'
  have zY : w.heap.size + 1 < (w1.drewN nq).heap.size := z1
  have KK : Hid (Below w1.heap.size w1 (w1.drewN nq)) := below_drewN (Below.refl _ _) _
  clear c0 c1 c2 c3 c4 c5 r0 r1 r2 r3 r4 r5 g0 g1 g2 g3 g4 g5 k0' k1'
  generalize w1.drewN nq = Y at KY BQ y0 v0 v1 zY KK ⊢
  obtain ⟨c0, c1, c2, c3, c4, c5⟩ := BQ
  obtain ⟨⟨r0, r1, r2, r3, r4, r5⟩, hfz⟩ := block6 y0
  have g0 := hfz 0
  have g1 := hfz 1
  have g2 := hfz 2
  have g3 := hfz 3
  have g4 := hfz 4
  have g5 := hfz 5
  clear hfz
  go_quiet (fail)
  go_upto_region 10 with fail
  have KZ : Hid (Below w.heap.size w (Y.drewN nq)) := below_drewN KY.out _
  have BQ := (Box.mk c0 c1 c2 c3 c4 c5).drewN nq
  have yz : (Y.drewN nq).heap[w.heap.size + 1]? = some (.cells #[.int .u8 0, .int .u8 0, .int .u16 0, .int .u16 0, .slice none 0 0, .slice none 0 0] 44 (0, 0)) := y0
  have vz0 : (Y.drewN nq).cell? ⟨b, off, none⟩ = some (.int .u8 x0) := v0
  have vz1 : (Y.drewN nq).cell? ⟨b, off + 1, none⟩ = some (.int .u8 x1) := v1
  have zZ : w.heap.size + 1 < (Y.drewN nq).heap.size := zY
  have KKZ : Hid (Below w1.heap.size w1 (Y.drewN nq)) := below_drewN KK.out _
  clear c0 c1 c2 c3 c4 c5 r0 r1 r2 r3 r4 r5 g0 g1 g2 g3 g4 g5 y0 v0 v1 zY KY KK
  generalize Y.drewN nq = Y2 at KZ BQ yz vz0 vz1 zZ KKZ ⊢
  obtain ⟨c0, c1, c2, c3, c4, c5⟩ := BQ
  have a0' := fun (o : Obj) => ((Box.mk c0 c1 c2 c3 c4 c5).grow o).c0
  go_upto_region 23 with fail
  have TX := heap_alloc_new Y2 (.cells #[.int .u8 23, .int .u8 0, .int .u16 0, .int .u16 0, .slice none 0 0, .slice none 0 0] 44)
  have KX : Hid (Below w.heap.size w (Y2.alloc (.cells #[.int .u8 23, .int .u8 0, .int .u16 0, .int .u16 0, .slice none 0 0, .slice none 0 0] 44))) := below_new KZ.out _
  have KKX : Hid (Below w1.heap.size w1 (Y2.alloc (.cells #[.int .u8 23, .int .u8 0, .int .u16 0, .int .u16 0, .slice none 0 0, .slice none 0 0] 44))) := below_new KKZ.out _
  have BQ := (Box.mk c0 c1 c2 c3 c4 c5).grow (.cells #[.int .u8 23, .int .u8 0, .int .u16 0, .int .u16 0, .slice none 0 0, .slice none 0 0] 44)
  have yx := (Below.heap_alloc Y2 (.cells #[.int .u8 23, .int .u8 0, .int .u16 0, .int .u16 0, .slice none 0 0, .slice none 0 0] 44) _ zZ).trans yz
  have vx0 := ((below_new (Below.refl _ Y2) (.cells #[.int .u8 23, .int .u8 0, .int .u16 0, .int .u16 0, .slice none 0 0, .slice none 0 0] 44)).cell (p := ⟨b, off, none⟩) (lt_of_cell vz0)).trans vz0
  have vx1 := ((below_new (Below.refl _ Y2) (.cells #[.int .u8 23, .int .u8 0, .int .u16 0, .int .u16 0, .slice none 0 0, .slice none 0 0] 44)).cell (p := ⟨b, off + 1, none⟩) (lt_of_cell vz1)).trans vz1
  have zX : Y2.heap.size < (Y2.alloc (.cells #[.int .u8 23, .int .u8 0, .int .u16 0, .int .u16 0, .slice none 0 0, .slice none 0 0] 44)).heap.size := by rw [World.size_alloc]; omega
  clear c0 c1 c2 c3 c4 c5 yz vz0 vz1 KZ KKZ a0'
  generalize Y2.alloc (.cells #[.int .u8 23, .int .u8 0, .int .u16 0, .int .u16 0, .slice none 0 0, .slice none 0 0] 44) = X at TX KX KKX BQ yx vx0 vx1 zX ⊢
  obtain ⟨c0, c1, c2, c3, c4, c5⟩ := BQ
  obtain ⟨⟨r0, r1, r2, r3, r4, r5⟩, hfz⟩ := block6 yx
  obtain ⟨⟨d0, d1, d2, d3, d4, d5⟩, hfd⟩ := block6 TX
  have g0 := hfz 0
  have g1 := hfz 1
  have g2 := hfz 2
  have g3 := hfz 3
  have g4 := hfz 4
  have g5 := hfz 5
  have f0 := hfd 0
  have f1 := hfd 1
  have f2 := hfd 2
  have f3 := hfd 3
  have f4 := hfd 4
  have f5 := hfd 5
  clear hfz hfd
  go_quiet (fail)
  go_upto_region 25 with fail
  have px8 : (X.drewN nq).heap[Y2.heap.size]? = some (.cells #[.int .u8 23, .int .u8 0, .int .u16 0, .int .u16 0, .slice none 0 0, .slice none 0 0] 44 (0, 0)) := TX
  have pxr : (X.drewN nq).heap[w.heap.size + 1]? = some (.cells #[.int .u8 0, .int .u8 0, .int .u16 0, .int .u16 0, .slice none 0 0, .slice none 0 0] 44 (0, 0)) := yx
  have pn : (X.drewN nq).cell? ⟨w.heap.size, 2, none⟩ = some (.int .u16 a2) := c2
  have KX2 : Hid (Below w.heap.size w (X.drewN nq)) := below_drewN KX.out _
  have zX2 : Y2.heap.size < (X.drewN nq).heap.size := zX
  clear c0 c1 c2 c3 c4 c5 r0 r1 r2 r3 r4 r5 g0 g1 g2 g3 g4 g5 d0 d1 d2 d3 d4 d5 f0 f1 f2 f3 f4 f5 TX yx vx0 vx1 KX KKX zX
  generalize X.drewN nq = X2 at px8 pxr pn KX2 zX2 ⊢
  have m1 : 2 ≤ m := hm
  have m2 : (2 : Int) ≤ (m : Int) := by omega
  have hm3 : 3 ≤ m := by have := HU.out; have := HV.out; have h3 := ha2.2; skip; omega
  have hcp := HS.out.cap
  have m3 : ¬ cap = 2 := by omega
  have m4 : 2 < cap := by omega
  have SD := hid_as (fun (W : World) (h : Below w.heap.size w W) => ((HS.out.below h).drop 2 (by omega)).sl)
  have RB : Hid (∀ W : World, Below w.heap.size w W → Calls Try.prog 42 #[.slice (some ⟨b, off + 2, none⟩) (m - 2) (cap - 2)] W fun e w' => ∃ v', e = .returned v' ∧ w'.ownsRow W.heap.size 22 1 v' (ws (bs.drop 2)).length (u16s (ws (bs.drop 2))) ∧ Below W.heap.size W w') := fun W h => regs_c (HS.out.bytes.drop 2) (SD.out W h) (by rw [List.length_drop, ← HS.out.len]; have := HV.out; omega)
  have hne8 : ¬ Y2.heap.size = w.heap.size := by omega
  have hne9 : ¬ Y2.heap.size = w.heap.size + 1 := by omega
  have hne9' : ¬ w.heap.size + 1 = Y2.heap.size := by omega
  go_wp2_with fail
  refine (RB.out _ KX2.out).mono ?_
  rintro e w3 ⟨v3, rfl, own3, k3⟩
  have k30 := k3
  obtain ⟨so, sc, hv⟩ := own_shape2 own3; subst hv; have OWN : Hid (w3.ownsRow X2.heap.size 22 1 (.slice so (ws (bs.drop 2)).length sc) (ws (bs.drop 2)).length (u16s (ws (bs.drop 2)))) := own3; have K3 : Hid (Below w.heap.size w w3) := below_and KX2.out k30; have q8 := (k30.block Y2.heap.size zX2).trans px8; have qr := (k30.block (w.heap.size + 1) (by omega)).trans pxr; have pn3 := (k30.cell (p := ⟨w.heap.size, 2, none⟩) (by simp; omega)).trans pn; clear own3 k3 k30; obtain ⟨⟨d0, d1, d2, d3, d4, d5⟩, hfd⟩ := block6 q8; obtain ⟨⟨r0, r1, r2, r3, r4, r5⟩, hfz⟩ := block6 qr; have f0 := hfd 0; have g0 := hfz 0; have f1 := hfd 1; have g1 := hfz 1; have f2 := hfd 2; have g2 := hfz 2; have f3 := hfd 3; have g3 := hfz 3; have f4 := hfd 4; have g4 := hfz 4; have f5 := hfd 5; have g5 := hfz 5; clear hfd hfz q8 qr
  all_goals
    go_wp2
    have BF := set_box ((Box.mk r0 r1 r2 r3 r4 r5).far (p := ⟨Y2.heap.size, 5, none⟩) hne9 (.slice so (ws (bs.drop 2)).length sc)) (.int .u8 23) (.int .u8 0) (.int .u16 0) (.int .u16 0) (.slice none 0 0) (.slice so (ws (bs.drop 2)).length sc)
    obtain ⟨e0, e1, e2, e3, e4, e5⟩ := BF
    have hx : AnsIs ⟨23, a1, a2, a3, a4, a5⟩ bs := HI.out.2 ⟨by have := HU.out; have := HV.out; omega, H1.out.symm.trans HU.out⟩
    refine bodyPost_ret (v := .tuple #[.agg #[.int .u8 23, .int .u8 0, .int .u16 0, .int .u16 0, .slice none 0 0, .slice so (ws (bs.drop 2)).length sc], .int .i64 0]) (by simp [results, Try.results22, go_sem, e0, e1, e2, e3, e4, e5]) rfl ⟨below_six (Below.setCell K3.out (by simp; omega) _) (Nat.le_succ _) _ _ _ _ _ _, Or.inl ⟨⟨HF.out, Or.inr hx⟩, _, rfl, ?_⟩⟩
    have er : readAns ⟨23, a1, a2, a3, a4, a5⟩ bs = ⟨23, 0, 0, 0, [], ws (bs.drop 2)⟩ := by
      unfold readAns ansOf
      rw [if_pos (H0.out.symm.trans HT.out)]
      simp
    rw [er]
    exact ⟨rp_ok (by decide) (by decide) (by decide) (by decide) (ws_words (HS.out.bytes.drop 2)), _, _, rfl, Sl.nil _, own_sl (own_six (own_set OWN.out (p := ⟨Y2.heap.size, 5, none⟩) zX2 _) (by omega) _ _ _ _ _ _)⟩
end Go.Proofs.Ytehbbkdiekgpbaa
