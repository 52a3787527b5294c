/- The walk: the reference reads a reply: exceptions; another function. -/
import Derived.Test.YtehbbkdiekgpbaaROPB
namespace Go.Proofs.Ytehbbkdiekgpbaa
open Go.RowKit
open Pdu
set_option linter.unusedSimpArgs false in
set_option linter.unusedVariables false in
set_option maxRecDepth 100000 in
set_option maxHeartbeats 1600000 in
theorem rop_exc_n1 (fn m cap b off x0 x1 a1 a2 a3 nb nr ac rc : Nat) (a4 : List Bool) (a5 : List Nat) (ao ro : Option Addr) (bs : List Nat) (w : World) (hq : IsRq w (.agg #[.int .u8 fn, .int .u16 a1, .int .u16 a2, .int .u16 a3, .slice ao nb ac, .slice ro nr rc]) ⟨fn, a1, a2, a3, a4, a5⟩) (lb : a4.length ≤ 2500) (lr : a5.length ≤ 200) (hf : Rq.Fits ⟨fn, a1, a2, a3, a4, a5⟩) (hS : Bs w b off m cap bs) (hm : 2 ≤ m) (h0 : x0 = bs.getD 0 0) (h1 : x1 = bs.getD 1 0) (hT : x0 = fn + 128) (hU : m ≠ 2) :
    Calls Try.prog 22 #[.agg #[.int .u8 fn, .int .u16 a1, .int .u16 a2, .int .u16 a3, .slice ao nb ac, .slice ro nr rc], .slice (some ⟨b, off, none⟩) m cap] w fun e w' => AnsEnd ⟨fn, a1, a2, a3, a4, a5⟩ bs w e w' := by
  have hfn := fits_128 hf
  have hor := or_128 hfn
  simp only at hfn hor
  have t1 : ((x0 : Int) == (fn : Int) + 128) = true := by rw [beq_iff_eq]; omega
  have t2 : ((m : Int) != 2) = true := by rw [bne_iff_ne]; omega
  have HT := hid_as hT
  have HU := hid_as hU
  clear hT hU
  have hbx : b < w.heap.size := lt_of_cell (hS.at 0 (by omega))
  have k0 : w.cell? ⟨b, off, none⟩ = some (.int .u8 x0) := by rw [h0]; exact hS.at 0 (by omega)
  have k1 : w.cell? ⟨b, off + 1, none⟩ = some (.int .u8 x1) := by rw [h1]; exact hS.at 1 (by omega)
  have l0 : x0 < 256 := by rw [h0]; exact hS.bytes.at 0
  have l1 : x1 < 256 := by rw [h1]; exact hS.bytes.at 1
  have l2 : decide ((m : Int) < 2) = false := decide_eq_false (by omega)
  have i0 : (0 : Int) < (m : Int) := by omega
  have i1 : (1 : Int) < (m : Int) := by omega
  have i1' : 1 < m := by omega
  have H0 := hid_as h0
  have H1 := hid_as h1
  have HS := hid_as hS
  clear h0 h1 hS
  have HQ := hid_as hq
  have RQ := hid_as (fun (W : World) (h : Below w.heap.size w W) => ref_request (hq.below h) lb lr)
  have HF := hid_as hf
  clear hq hf
  go_enter Try.func22, Try.ntmps22
  go_wp2_with fail
  have TW := two_new w fn a1 a2 a3 (.slice ao nb ac) (.slice ro nr rc)
  generalize ((w.alloc (.cells #[.int .u8 (fn : Nat), .int .u16 a1, .int .u16 a2, .int .u16 a3, .slice ao nb ac, .slice ro nr rc] 26)).alloc (.cells #[.int .u8 0, .int .u8 0, .int .u16 0, .int .u16 0, .slice none 0 0, .slice none 0 0] 44)) = W at TW ⊢
  refine (RQ.out _ TW.bel).mono ?_
  rintro e w1 ⟨hb1, hend⟩
  have q1 := (hb1.block _ TW.siz).trans TW.res
  have B1 := TW.box.below hb1 (Nat.lt_of_succ_lt TW.siz)
  have K1 : Hid (Below w.heap.size w w1) := below_and TW.bel hb1
  have z1 : w.heap.size + 1 < w1.heap.size := Nat.lt_of_lt_of_le TW.siz hb1.size
  clear hb1 TW RQ
  rcases hend with ⟨_, yv, rfl, owny⟩ | ⟨hno, _⟩
  case inr => exact absurd HF.out hno
  obtain ⟨c0, c1, c2, c3, c4, c5⟩ := B1
  obtain ⟨⟨r0, r1, r2, r3, r4, r5⟩, hfz⟩ := block6 q1
  have g0 := hfz 0
  have g1 := hfz 1
  have g2 := hfz 2
  have g3 := hfz 3
  have g4 := hfz 4
  have g5 := hfz 5
  clear hfz
  have k0' : w1.cell? ⟨b, off, none⟩ = some (.int .u8 x0) := (K1.out.cell (p := ⟨b, off, none⟩) hbx).trans k0
  have k1' : w1.cell? ⟨b, off + 1, none⟩ = some (.int .u8 x1) := (K1.out.cell (p := ⟨b, off + 1, none⟩) hbx).trans k1
  go_upto_region 4 with fail
  go_quiet (fail)
  go_wp2
  have BF := set_box ((Box.mk r0 r1 r2 r3 r4 r5).drewN nq) (.int .u8 0) (.int .u8 0) (.int .u16 0) (.int .u16 0) (.slice none 0 0) (.slice none 0 0)
  obtain ⟨e0, e1, e2, e3, e4, e5⟩ := BF
  refine bodyPost_ret (v := .tuple #[.agg #[.int .u8 0, .int .u8 0, .int .u16 0, .int .u16 0, .slice none 0 0, .slice none 0 0], .int .i64 30]) (by simp [results, Try.results22, go_sem, e0, e1, e2, e3, e4, e5]) rfl ⟨below_six (below_drewN K1.out _) (Nat.le_succ _) _ _ _ _ _ _, Or.inr ⟨fun h => ?_, rfl⟩⟩
  rcases h.2 with h2 | h2
  · exact HU.out (by rw [HS.out.len]; exact h2.1)
  · have h3 := h2.2.1; simp only at h3; have := H0.out; have := HT.out; omega
set_option linter.unusedSimpArgs false in
set_option linter.unusedVariables false in
set_option maxRecDepth 100000 in
set_option maxHeartbeats 1600000 in
theorem rop_exc_n2 (fn m cap b off x0 x1 a1 a2 a3 nb nr ac rc : Nat) (a4 : List Bool) (a5 : List Nat) (ao ro : Option Addr) (bs : List Nat) (w : World) (hq : IsRq w (.agg #[.int .u8 fn, .int .u16 a1, .int .u16 a2, .int .u16 a3, .slice ao nb ac, .slice ro nr rc]) ⟨fn, a1, a2, a3, a4, a5⟩) (lb : a4.length ≤ 2500) (lr : a5.length ≤ 200) (hf : Rq.Fits ⟨fn, a1, a2, a3, a4, a5⟩) (hS : Bs w b off m cap bs) (hm : 2 ≤ m) (h0 : x0 = bs.getD 0 0) (h1 : x1 = bs.getD 1 0) (hT : x0 = fn + 128) (hU : m = 2) (hV : x1 = 0) :
    Calls Try.prog 22 #[.agg #[.int .u8 fn, .int .u16 a1, .int .u16 a2, .int .u16 a3, .slice ao nb ac, .slice ro nr rc], .slice (some ⟨b, off, none⟩) m cap] w fun e w' => AnsEnd ⟨fn, a1, a2, a3, a4, a5⟩ bs w e w' := by
  have hfn := fits_128 hf
  have hor := or_128 hfn
  simp only at hfn hor
  have t1 : ((x0 : Int) == (fn : Int) + 128) = true := by rw [beq_iff_eq]; omega
  have t2 : ((m : Int) != 2) = false := by rw [bne_eq_false_iff_eq]; omega
  have t3 : ((x1 : Int) == 0) = true := by rw [beq_iff_eq]; omega
  have HT := hid_as hT
  have HU := hid_as hU
  have HV := hid_as hV
  clear hV
  clear hT hU
  have hbx : b < w.heap.size := lt_of_cell (hS.at 0 (by omega))
  have k0 : w.cell? ⟨b, off, none⟩ = some (.int .u8 x0) := by rw [h0]; exact hS.at 0 (by omega)
  have k1 : w.cell? ⟨b, off + 1, none⟩ = some (.int .u8 x1) := by rw [h1]; exact hS.at 1 (by omega)
  have l0 : x0 < 256 := by rw [h0]; exact hS.bytes.at 0
  have l1 : x1 < 256 := by rw [h1]; exact hS.bytes.at 1
  have l2 : decide ((m : Int) < 2) = false := decide_eq_false (by omega)
  have i0 : (0 : Int) < (m : Int) := by omega
  have i1 : (1 : Int) < (m : Int) := by omega
  have i1' : 1 < m := by omega
  have H0 := hid_as h0
  have H1 := hid_as h1
  have HS := hid_as hS
  clear h0 h1 hS
  have HQ := hid_as hq
  have RQ := hid_as (fun (W : World) (h : Below w.heap.size w W) => ref_request (hq.below h) lb lr)
  have HF := hid_as hf
  clear hq hf
  go_enter Try.func22, Try.ntmps22
  go_wp2_with fail
  have TW := two_new w fn a1 a2 a3 (.slice ao nb ac) (.slice ro nr rc)
  generalize ((w.alloc (.cells #[.int .u8 (fn : Nat), .int .u16 a1, .int .u16 a2, .int .u16 a3, .slice ao nb ac, .slice ro nr rc] 26)).alloc (.cells #[.int .u8 0, .int .u8 0, .int .u16 0, .int .u16 0, .slice none 0 0, .slice none 0 0] 44)) = W at TW ⊢
  refine (RQ.out _ TW.bel).mono ?_
  rintro e w1 ⟨hb1, hend⟩
  have q1 := (hb1.block _ TW.siz).trans TW.res
  have B1 := TW.box.below hb1 (Nat.lt_of_succ_lt TW.siz)
  have K1 : Hid (Below w.heap.size w w1) := below_and TW.bel hb1
  have z1 : w.heap.size + 1 < w1.heap.size := Nat.lt_of_lt_of_le TW.siz hb1.size
  clear hb1 TW RQ
  rcases hend with ⟨_, yv, rfl, owny⟩ | ⟨hno, _⟩
  case inr => exact absurd HF.out hno
  obtain ⟨c0, c1, c2, c3, c4, c5⟩ := B1
  obtain ⟨⟨r0, r1, r2, r3, r4, r5⟩, hfz⟩ := block6 q1
  have g0 := hfz 0
  have g1 := hfz 1
  have g2 := hfz 2
  have g3 := hfz 3
  have g4 := hfz 4
  have g5 := hfz 5
  clear hfz
  have k0' : w1.cell? ⟨b, off, none⟩ = some (.int .u8 x0) := (K1.out.cell (p := ⟨b, off, none⟩) hbx).trans k0
  have k1' : w1.cell? ⟨b, off + 1, none⟩ = some (.int .u8 x1) := (K1.out.cell (p := ⟨b, off + 1, none⟩) hbx).trans k1
  go_upto_region 4 with fail
  go_quiet (fail)
  go_wp2
  have BF := set_box ((Box.mk r0 r1 r2 r3 r4 r5).drewN nq) (.int .u8 0) (.int .u8 0) (.int .u16 0) (.int .u16 0) (.slice none 0 0) (.slice none 0 0)
  obtain ⟨e0, e1, e2, e3, e4, e5⟩ := BF
  refine bodyPost_ret (v := .tuple #[.agg #[.int .u8 0, .int .u8 0, .int .u16 0, .int .u16 0, .slice none 0 0, .slice none 0 0], .int .i64 30]) (by simp [results, Try.results22, go_sem, e0, e1, e2, e3, e4, e5]) rfl ⟨below_six (below_drewN K1.out _) (Nat.le_succ _) _ _ _ _ _ _, Or.inr ⟨fun h => ?_, rfl⟩⟩
  rcases h.2 with h2 | h2
  · exact h2.2.2 (H1.out.symm.trans HV.out)
  · have h3 := h2.2.1; simp only at h3; have := H0.out; have := HT.out; omega
set_option linter.unusedSimpArgs false in
set_option linter.unusedVariables false in
set_option maxRecDepth 100000 in
set_option maxHeartbeats 1600000 in
theorem rop_exc_y (fn m cap b off x0 x1 a1 a2 a3 nb nr ac rc : Nat) (a4 : List Bool) (a5 : List Nat) (ao ro : Option Addr) (bs : List Nat) (w : World) (hq : IsRq w (.agg #[.int .u8 fn, .int .u16 a1, .int .u16 a2, .int .u16 a3, .slice ao nb ac, .slice ro nr rc]) ⟨fn, a1, a2, a3, a4, a5⟩) (lb : a4.length ≤ 2500) (lr : a5.length ≤ 200) (hf : Rq.Fits ⟨fn, a1, a2, a3, a4, a5⟩) (hS : Bs w b off m cap bs) (hm : 2 ≤ m) (h0 : x0 = bs.getD 0 0) (h1 : x1 = bs.getD 1 0) (hT : x0 = fn + 128) (hU : m = 2) (hV : x1 ≠ 0) :
    Calls Try.prog 22 #[.agg #[.int .u8 fn, .int .u16 a1, .int .u16 a2, .int .u16 a3, .slice ao nb ac, .slice ro nr rc], .slice (some ⟨b, off, none⟩) m cap] w fun e w' => AnsEnd ⟨fn, a1, a2, a3, a4, a5⟩ bs w e w' := by
  have hfn := fits_128 hf
  have hor := or_128 hfn
  simp only at hfn hor
  have t1 : ((x0 : Int) == (fn : Int) + 128) = true := by rw [beq_iff_eq]; omega
  have t2 : ((m : Int) != 2) = false := by rw [bne_eq_false_iff_eq]; omega
  have t3 : ((x1 : Int) == 0) = false := by rw [beq_eq_false_iff_ne]; omega
  have HT := hid_as hT
  have HU := hid_as hU
  have HV := hid_as hV
  clear hV
  clear hT hU
  have hbx : b < w.heap.size := lt_of_cell (hS.at 0 (by omega))
  have k0 : w.cell? ⟨b, off, none⟩ = some (.int .u8 x0) := by rw [h0]; exact hS.at 0 (by omega)
  have k1 : w.cell? ⟨b, off + 1, none⟩ = some (.int .u8 x1) := by rw [h1]; exact hS.at 1 (by omega)
  have l0 : x0 < 256 := by rw [h0]; exact hS.bytes.at 0
  have l1 : x1 < 256 := by rw [h1]; exact hS.bytes.at 1
  have l2 : decide ((m : Int) < 2) = false := decide_eq_false (by omega)
  have i0 : (0 : Int) < (m : Int) := by omega
  have i1 : (1 : Int) < (m : Int) := by omega
  have i1' : 1 < m := by omega
  have H0 := hid_as h0
  have H1 := hid_as h1
  have HS := hid_as hS
  clear h0 h1 hS
  have HQ := hid_as hq
  have RQ := hid_as (fun (W : World) (h : Below w.heap.size w W) => ref_request (hq.below h) lb lr)
  have HF := hid_as hf
  clear hq hf
  go_enter Try.func22, Try.ntmps22
  go_wp2_with fail
  have TW := two_new w fn a1 a2 a3 (.slice ao nb ac) (.slice ro nr rc)
  generalize ((w.alloc (.cells #[.int .u8 (fn : Nat), .int .u16 a1, .int .u16 a2, .int .u16 a3, .slice ao nb ac, .slice ro nr rc] 26)).alloc (.cells #[.int .u8 0, .int .u8 0, .int .u16 0, .int .u16 0, .slice none 0 0, .slice none 0 0] 44)) = W at TW ⊢
  refine (RQ.out _ TW.bel).mono ?_
  rintro e w1 ⟨hb1, hend⟩
  have q1 := (hb1.block _ TW.siz).trans TW.res
  have B1 := TW.box.below hb1 (Nat.lt_of_succ_lt TW.siz)
  have K1 : Hid (Below w.heap.size w w1) := below_and TW.bel hb1
  have z1 : w.heap.size + 1 < w1.heap.size := Nat.lt_of_lt_of_le TW.siz hb1.size
  clear hb1 TW RQ
  rcases hend with ⟨_, yv, rfl, owny⟩ | ⟨hno, _⟩
  case inr => exact absurd HF.out hno
  obtain ⟨c0, c1, c2, c3, c4, c5⟩ := B1
  obtain ⟨⟨r0, r1, r2, r3, r4, r5⟩, hfz⟩ := block6 q1
  have g0 := hfz 0
  have g1 := hfz 1
  have g2 := hfz 2
  have g3 := hfz 3
  have g4 := hfz 4
  have g5 := hfz 5
  clear hfz
  have k0' : w1.cell? ⟨b, off, none⟩ = some (.int .u8 x0) := (K1.out.cell (p := ⟨b, off, none⟩) hbx).trans k0
  have k1' : w1.cell? ⟨b, off + 1, none⟩ = some (.int .u8 x1) := (K1.out.cell (p := ⟨b, off + 1, none⟩) hbx).trans k1
  go_upto_region 4 with fail
  go_quiet (fail)
  go_upto_region 7 with fail
  have KY : Hid (Below w.heap.size w (w1.drewN nq)) := below_drewN K1.out _
  have BQ := (Box.mk c0 c1 c2 c3 c4 c5).drewN nq
  have y0 : (w1.drewN nq).heap[w.heap.size + 1]? = some (.cells #[.int .u8 0, .int .u8 0, .int .u16 0, .int .u16 0, .slice none 0 0, .slice none 0 0] 44 (0, 0)) := q1
  have v0 : (w1.drewN nq).cell? ⟨b, off, none⟩ = some (.int .u8 x0) := k0'
  have v1 : (w1.drewN nq).cell? ⟨b, off + 1, none⟩ = some (.int .u8 x1) := k1'
  have zY : w.heap.size + 1 < (w1.drewN nq).heap.size := z1
  have KK : Hid (Below w1.heap.size w1 (w1.drewN nq)) := below_drewN (Below.refl _ _) _
  clear c0 c1 c2 c3 c4 c5 r0 r1 r2 r3 r4 r5 g0 g1 g2 g3 g4 g5 k0' k1'
  generalize w1.drewN nq = Y at KY BQ y0 v0 v1 zY KK ⊢
  obtain ⟨c0, c1, c2, c3, c4, c5⟩ := BQ
  obtain ⟨⟨r0, r1, r2, r3, r4, r5⟩, hfz⟩ := block6 y0
  have g0 := hfz 0
  have g1 := hfz 1
  have g2 := hfz 2
  have g3 := hfz 3
  have g4 := hfz 4
  have g5 := hfz 5
  clear hfz
  clear y0
  have hbn : ¬ (w.heap.size + 1 = b) := by omega
  go_region_held3 (fun w' => w'.cell? ⟨w.heap.size, 0, none⟩ = some (.int .u8 fn) ∧ w'.cell? ⟨b, off + 1, none⟩ = some (.int .u8 x1)) (first | (simp [World.cell?_setCell_far, hbn, c0, v1]; done)) (fail)
  all_goals
    go_wp2
    have BF := set_box (Box.mk r0 r1 r2 r3 r4 r5) (.int .u8 fn) (.int .u8 x1) (.int .u16 0) (.int .u16 0) (.slice none 0 0) (.slice none 0 0)
    obtain ⟨e0, e1, e2, e3, e4, e5⟩ := BF
    refine bodyPost_ret (v := .tuple #[.agg #[.int .u8 fn, .int .u8 x1, .int .u16 0, .int .u16 0, .slice none 0 0, .slice none 0 0], .int .i64 0]) (by simp [results, Try.results22, go_sem, e0, e1, e2, e3, e4, e5]) rfl ⟨(below_six KY.out (Nat.le_succ _) _ _ _ _ _ _).drew, Or.inl ⟨⟨HF.out, Or.inl ⟨HS.out.len.symm.trans HU.out, H0.out.symm.trans HT.out, fun h => HV.out (H1.out.trans h)⟩⟩, _, rfl, ?_⟩⟩
    have er : readAns ⟨fn, a1, a2, a3, a4, a5⟩ bs = ⟨fn, x1, 0, 0, [], []⟩ := by
      unfold readAns excOf
      rw [if_neg (by have := H0.out; have := HT.out; simp only; omega), ← H1.out]
    rw [er]
    exact ⟨rp_ok (by omega) l1 (by decide) (by decide) no_words, _, _, rfl, Sl.nil _, Sl.nil _⟩
set_option linter.unusedSimpArgs false in
set_option linter.unusedVariables false in
set_option maxRecDepth 100000 in
set_option maxHeartbeats 1600000 in
theorem rop_oth (fn m cap b off x0 x1 a1 a2 a3 nb nr ac rc : Nat) (a4 : List Bool) (a5 : List Nat) (ao ro : Option Addr) (bs : List Nat) (w : World) (hq : IsRq w (.agg #[.int .u8 fn, .int .u16 a1, .int .u16 a2, .int .u16 a3, .slice ao nb ac, .slice ro nr rc]) ⟨fn, a1, a2, a3, a4, a5⟩) (lb : a4.length ≤ 2500) (lr : a5.length ≤ 200) (hf : Rq.Fits ⟨fn, a1, a2, a3, a4, a5⟩) (hS : Bs w b off m cap bs) (hm : 2 ≤ m) (h0 : x0 = bs.getD 0 0) (h1 : x1 = bs.getD 1 0) (hT : x0 ≠ fn + 128) (hU : x0 ≠ fn) :
    Calls Try.prog 22 #[.agg #[.int .u8 fn, .int .u16 a1, .int .u16 a2, .int .u16 a3, .slice ao nb ac, .slice ro nr rc], .slice (some ⟨b, off, none⟩) m cap] w fun e w' => AnsEnd ⟨fn, a1, a2, a3, a4, a5⟩ bs w e w' := by
  have hfn := fits_128 hf
  have hor := or_128 hfn
  simp only at hfn hor
  have t1 : ((x0 : Int) == (fn : Int) + 128) = false := by rw [beq_eq_false_iff_ne]; omega
  have t2 : ((x0 : Int) != (fn : Int)) = true := by rw [bne_iff_ne]; omega
  have HT := hid_as hT
  have HU := hid_as hU
  clear hT hU
  have hbx : b < w.heap.size := lt_of_cell (hS.at 0 (by omega))
  have k0 : w.cell? ⟨b, off, none⟩ = some (.int .u8 x0) := by rw [h0]; exact hS.at 0 (by omega)
  have k1 : w.cell? ⟨b, off + 1, none⟩ = some (.int .u8 x1) := by rw [h1]; exact hS.at 1 (by omega)
  have l0 : x0 < 256 := by rw [h0]; exact hS.bytes.at 0
  have l1 : x1 < 256 := by rw [h1]; exact hS.bytes.at 1
  have l2 : decide ((m : Int) < 2) = false := decide_eq_false (by omega)
  have i0 : (0 : Int) < (m : Int) := by omega
  have i1 : (1 : Int) < (m : Int) := by omega
  have i1' : 1 < m := by omega
  have H0 := hid_as h0
  have H1 := hid_as h1
  have HS := hid_as hS
  clear h0 h1 hS
  have HQ := hid_as hq
  have RQ := hid_as (fun (W : World) (h : Below w.heap.size w W) => ref_request (hq.below h) lb lr)
  have HF := hid_as hf
  clear hq hf
  go_enter Try.func22, Try.ntmps22
  go_wp2_with fail
  have TW := two_new w fn a1 a2 a3 (.slice ao nb ac) (.slice ro nr rc)
  generalize ((w.alloc (.cells #[.int .u8 (fn : Nat), .int .u16 a1, .int .u16 a2, .int .u16 a3, .slice ao nb ac, .slice ro nr rc] 26)).alloc (.cells #[.int .u8 0, .int .u8 0, .int .u16 0, .int .u16 0, .slice none 0 0, .slice none 0 0] 44)) = W at TW ⊢
  refine (RQ.out _ TW.bel).mono ?_
  rintro e w1 ⟨hb1, hend⟩
  have q1 := (hb1.block _ TW.siz).trans TW.res
  have B1 := TW.box.below hb1 (Nat.lt_of_succ_lt TW.siz)
  have K1 : Hid (Below w.heap.size w w1) := below_and TW.bel hb1
  have z1 : w.heap.size + 1 < w1.heap.size := Nat.lt_of_lt_of_le TW.siz hb1.size
  clear hb1 TW RQ
  rcases hend with ⟨_, yv, rfl, owny⟩ | ⟨hno, _⟩
  case inr => exact absurd HF.out hno
  obtain ⟨c0, c1, c2, c3, c4, c5⟩ := B1
  obtain ⟨⟨r0, r1, r2, r3, r4, r5⟩, hfz⟩ := block6 q1
  have g0 := hfz 0
  have g1 := hfz 1
  have g2 := hfz 2
  have g3 := hfz 3
  have g4 := hfz 4
  have g5 := hfz 5
  clear hfz
  have k0' : w1.cell? ⟨b, off, none⟩ = some (.int .u8 x0) := (K1.out.cell (p := ⟨b, off, none⟩) hbx).trans k0
  have k1' : w1.cell? ⟨b, off + 1, none⟩ = some (.int .u8 x1) := (K1.out.cell (p := ⟨b, off + 1, none⟩) hbx).trans k1
  go_upto_region 4 with fail
  go_quiet (fail)
  go_upto_region 8 with fail
  have KY : Hid (Below w.heap.size w (w1.drewN nq)) := below_drewN K1.out _
  have BQ := (Box.mk c0 c1 c2 c3 c4 c5).drewN nq
  have y0 : (w1.drewN nq).heap[w.heap.size + 1]? = some (.cells #[.int .u8 0, .int .u8 0, .int .u16 0, .int .u16 0, .slice none 0 0, .slice none 0 0] 44 (0, 0)) := q1
  have v0 : (w1.drewN nq).cell? ⟨b, off, none⟩ = some (.int .u8 x0) := k0'
  have v1 : (w1.drewN nq).cell? ⟨b, off + 1, none⟩ = some (.int .u8 x1) := k1'
  have zY : w.heap.size + 1 < (w1.drewN nq).heap.size := z1
  have KK : Hid (Below w1.heap.size w1 (w1.drewN nq)) := below_drewN (Below.refl _ _) _
  clear c0 c1 c2 c3 c4 c5 r0 r1 r2 r3 r4 r5 g0 g1 g2 g3 g4 g5 k0' k1'
  generalize w1.drewN nq = Y at KY BQ y0 v0 v1 zY KK ⊢
  obtain ⟨c0, c1, c2, c3, c4, c5⟩ := BQ
  obtain ⟨⟨r0, r1, r2, r3, r4, r5⟩, hfz⟩ := block6 y0
  have g0 := hfz 0
  have g1 := hfz 1
  have g2 := hfz 2
  have g3 := hfz 3
  have g4 := hfz 4
  have g5 := hfz 5
  clear hfz
  go_quiet (fail)
  go_wp2
  have BF := set_box ((Box.mk r0 r1 r2 r3 r4 r5).drewN nq) (.int .u8 0) (.int .u8 0) (.int .u16 0) (.int .u16 0) (.slice none 0 0) (.slice none 0 0)
  obtain ⟨e0, e1, e2, e3, e4, e5⟩ := BF
  refine bodyPost_ret (v := .tuple #[.agg #[.int .u8 0, .int .u8 0, .int .u16 0, .int .u16 0, .slice none 0 0, .slice none 0 0], .int .i64 30]) (by simp [results, Try.results22, go_sem, e0, e1, e2, e3, e4, e5]) rfl ⟨below_six (below_drewN KY.out _) (Nat.le_succ _) _ _ _ _ _ _, Or.inr ⟨fun h => ?_, rfl⟩⟩
  rcases h.2 with h2 | h2
  · exact HT.out (H0.out.trans h2.2.1)
  · exact HU.out (H0.out.trans h2.2.1)
end Go.Proofs.Ytehbbkdiekgpbaa
