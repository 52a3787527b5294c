/- The walk: is it an answer? What only writes. -/
import Derived.Test.YtehbbkdiekgpbaaEcho
import Derived.Test.YtehbbkdiekgpbaaRpYes
import Derived.Test.YtehbbkdiekgpbaaTA0
namespace Go.Proofs.Ytehbbkdiekgpbaa
open Go.RowKit
open Pdu
theorem IsRpN.mono {b b' : Nat} {w : World} {v : Value} {r : Rp} (h : IsRpN b w v r) (hb : b' ≤ b) : IsRpN b' w v r := by
  obtain ⟨ok, bv, rv, rfl, h1, h2, n1, n2⟩ := h
  exact ⟨ok, bv, rv, rfl, h1, h2, fun hne a n c e => Nat.le_trans hb (n1 hne a n c e), fun hne a n c e => Nat.le_trans hb (n2 hne a n c e)⟩
theorem IsRpN.drew {b : Nat} {w : World} {v : Value} {r : Rp} (h : IsRpN b w v r) : IsRpN b w.drew v r := by
  obtain ⟨ok, bv, rv, rfl, h1, h2, n1, n2⟩ := h
  exact ⟨ok, bv, rv, rfl, h1.below (Below.refl _ _).drew, h2.below (Below.refl _ _).drew, n1, n2⟩
theorem ans_w {fn addr n addr2 : Nat} {bits : List Bool} {regs bs : List Nat} (hf : fn = 5 ∨ fn = 6 ∨ fn = 15 ∨ fn = 16 ∨ fn = 22) (h0 : bs.getD 0 0 = fn) (hm : 1 ≤ bs.length) : AnsIs ⟨fn, addr, n, addr2, bits, regs⟩ bs ↔ bs = repBytes (echo ⟨fn, addr, n, addr2, bits, regs⟩) := by
  unfold AnsIs
  simp only
  constructor
  · rintro ⟨_, _, h | h | h⟩
    · omega
    · omega
    · exact h.2
  · intro h
    exact ⟨hm, h0, Or.inr (Or.inr ⟨hf, h⟩)⟩
set_option linter.unusedSimpArgs false in
set_option linter.unusedVariables false in
set_option maxRecDepth 100000 in
set_option maxHeartbeats 1600000 in
theorem ta5_w (addr n addr2 m cap b off : Nat) (bits : List Bool) (regs : List Nat) (bv rv : Value) (bs : List Nat) (w : World) (hS : Bs w b off m cap bs) (hm : 1 ≤ m) (h0 : bs.getD 0 0 = 5) (hq : IsRq w (rqV 5 addr n addr2 bv rv) ⟨5, addr, n, addr2, bits, regs⟩) (hf : Rq.Fits ⟨5, addr, n, addr2, bits, regs⟩) :
    Calls Try.prog 45 #[rqV 5 addr n addr2 bv rv, .slice (some ⟨b, off, none⟩) m cap] w fun e w' => Told (AnsIs ⟨5, addr, n, addr2, bits, regs⟩ bs) (ansOf ⟨5, addr, n, addr2, bits, regs⟩ bs) w e w' := by
  have k0 : w.cell? ⟨b, off, none⟩ = some (.int .u8 5) := by have h := hS.at 0 (by omega); rw [h0] at h; exact h
  have H0 := hid_as h0
  have HS := hid_as hS
  have HQ := hid_as hq
  have HF := hid_as hf
  have hb : b < w.heap.size := lt_of_cell k0
  have g0 : ((m : Int) == 0) = false := by rw [beq_eq_false_iff_ne]; omega
  have g1 : ((5 : Int) != 5) = false := rfl
  have i0 : (0 : Int) < (m : Int) := by omega
  have HI : Hid (AnsIs ⟨5, addr, n, addr2, bits, regs⟩ bs ↔ bs = repBytes (echo ⟨5, addr, n, addr2, bits, regs⟩)) := ans_w (by decide) h0 (by rw [← hS.len]; exact hm)
  have HE : Hid (ansOf ⟨5, addr, n, addr2, bits, regs⟩ bs = echo ⟨5, addr, n, addr2, bits, regs⟩) := by unfold Hid ansOf; simp
  clear h0 hS hq hf
  unfold rqV at HQ
  unfold rqV
  go_enter Try.func45, Try.ntmps45
  go_upto_region 1 with fail
  have TW := two_new w 5 addr n addr2 bv rv
  generalize ((w.alloc (.cells #[.int .u8 (5 : Nat), .int .u16 addr, .int .u16 n, .int .u16 addr2, bv, rv] 26)).alloc (.cells #[.int .u8 0, .int .u8 0, .int .u16 0, .int .u16 0, .slice none 0 0, .slice none 0 0] 44)) = W at TW ⊢
  obtain ⟨BX, q, K, hs⟩ := TW
  obtain ⟨c0, c1, c2, c3, c4, c5⟩ := BX
  obtain ⟨⟨d0, d1, d2, d3, d4, d5⟩, hfz⟩ := block6 q
  have f0 := hfz 0
  have f1 := hfz 1
  have f2 := hfz 2
  have f3 := hfz 3
  have f4 := hfz 4
  have f5 := hfz 5
  have K : Hid (Below w.heap.size w W) := K
  clear hfz
  have k0' : W.cell? ⟨b, off, none⟩ = some (.int .u8 5) := (K.out.cell (p := ⟨b, off, none⟩) hb).trans k0
  go_quiet (fail)
  have y0 : Hid ((W.drewN nq).heap[w.heap.size + 1]? = some (.cells #[.int .u8 0, .int .u8 0, .int .u16 0, .int .u16 0, .slice none 0 0, .slice none 0 0] 44 (0, 0))) := q
  have BQ := (Box.mk c0 c1 c2 c3 c4 c5).drewN nq
  have KY : Hid (Below w.heap.size w (W.drewN nq)) := below_drewN K.out nq
  have hsY : w.heap.size + 1 < (W.drewN nq).heap.size := hs
  clear c0 c1 c2 c3 c4 c5 d0 d1 d2 d3 d4 d5 f0 f1 f2 f3 f4 f5 q k0' K hs
  generalize W.drewN nq = Y at y0 BQ KY hsY ⊢
  obtain ⟨c0, c1, c2, c3, c4, c5⟩ := BQ
  go_wp2_with fail
  refine (echo_c (HQ.out.below KY.out) HF.out (by simp)).mono ?_
  rintro e w2 ⟨vx, rfl, hrx, k2⟩
  have rxx : ∃ rx, rx = echo ⟨5, addr, n, addr2, bits, regs⟩ := ⟨_, rfl⟩
  obtain ⟨rx, hrxe⟩ := rxx
  rw [← hrxe] at hrx
  have HRE := hid_as hrxe
  have y2 := (k2.block (w.heap.size + 1) hsY).trans y0.out
  have K2 : Hid (Below w.heap.size w w2) := below_and KY.out k2
  have hs2 : w.heap.size + 1 < w2.heap.size := Nat.lt_of_lt_of_le hsY k2.size
  have FT : Hid (rx.Fits) := by unfold Hid; rw [hrxe]; exact echo_fits HF.out (by simp)
  clear c0 c1 c2 c3 c4 c5 hrxe k2
  have HRX := hid_as hrx
  obtain ⟨x0, x1, x2, x3, x4, x5⟩ := rx
  obtain ⟨_, bvx, rvx, hvx, s1x, s2x, _, _⟩ := hrx
  obtain ⟨xo, xc, rfl⟩ := s1x.shape
  obtain ⟨xp, xd, rfl⟩ := s2x.shape
  simp only at hvx
  unfold rpV at hvx
  subst hvx
  rw [bls_len, u16s_len] at HRX
  rw [bls_len, u16s_len]
  simp only at HRX ⊢
  generalize x4.length = xb at HRX ⊢
  generalize x5.length = xr at HRX ⊢
  clear s1x s2x
  have RY := hid_as (fun (o : Obj) => reply_yes (HRX.out.plain.below (below_new (Below.refl _ w2) o)) FT.out)
  go_wp2_with fail
  refine (RY.out _).mono ?_
  rintro e w3 ⟨v3, rfl, own3, k3⟩
  have y3 := (k3.block (w.heap.size + 1) (by simp; omega)).trans ((Below.heap_alloc w2 _ _ hs2).trans y2)
  have BX3 := (Box.new w2 (.int .u8 x0) (.int .u8 x1) (.int .u16 x2) (.int .u16 x3) (.slice xo xb xc) (.slice xp xr xd) 44).below k3 (by simp)
  have KK : Hid (Below w2.heap.size w2 w3) := below_and (below_new (Below.refl _ w2) _) k3
  have K3 : Hid (Below w.heap.size w w3) := below_and K2.out KK.out
  have hs3 : w.heap.size + 1 < w3.heap.size := Nat.lt_of_lt_of_le hs2 KK.out.size
  have RB : Hid (Bytes (repBytes ⟨x0, x1, x2, x3, x4, x5⟩)) := repBytes_bytes HRX.out.1 FT.out
  have EQ := hid_as (fun (W : World) (h : Below w3.heap.size w3 W) => equal_c ((HS.out.below (below_and K3.out h)).sl) ((own_sl own3).below h) HS.out.bytes RB.out)
  clear k3 own3 y2 RY
  obtain ⟨⟨d0, d1, d2, d3, d4, d5⟩, hfz⟩ := block6 y3
  have f0 := hfz 0
  have f1 := hfz 1
  have f2 := hfz 2
  have f3 := hfz 3
  have f4 := hfz 4
  have f5 := hfz 5
  clear hfz y3
  obtain ⟨u0, u1, u2, u3, u4, u5⟩ := BX3
  have hne : ¬ (w.heap.size + 1 = w2.heap.size) := by omega
  go_wp2_with fail
  go_region_held3 (fun w' => w'.cell? ⟨w2.heap.size, 0, none⟩ = some (.int .u8 x0) ∧ w'.cell? ⟨w2.heap.size, 1, none⟩ = some (.int .u8 x1) ∧ w'.cell? ⟨w2.heap.size, 2, none⟩ = some (.int .u16 x2) ∧ w'.cell? ⟨w2.heap.size, 3, none⟩ = some (.int .u16 x3) ∧ w'.cell? ⟨w2.heap.size, 4, none⟩ = some (.slice xo xb xc) ∧ w'.cell? ⟨w2.heap.size, 5, none⟩ = some (.slice xp xr xd)) (first | (simp [World.cell?_setCell_far, hne, u0, u1, u2, u3, u4, u5]; done)) (first | (go_at_call 58; (with_reducible refine (EQ.out _ ?_).mono ?_); (first | exact Below.refl _ _ | exact (Below.refl _ _).drew); rintro e w' ⟨rfl, hw⟩; subst w'))
  all_goals
    go_wp2
    have BF := set_box (Box.mk d0 d1 d2 d3 d4 d5) (.int .u8 x0) (.int .u8 x1) (.int .u16 x2) (.int .u16 x3) (.slice xo xb xc) (.slice xp xr xd)
    obtain ⟨e0, e1, e2, e3, e4, e5⟩ := BF
    exact bodyPost_ret (v := .tuple #[.agg #[.int .u8 x0, .int .u8 x1, .int .u16 x2, .int .u16 x3, .slice xo xb xc, .slice xp xr xd], .bool (decide (bs = repBytes ⟨x0, x1, x2, x3, x4, x5⟩))]) (by simp [results, Try.results45, go_sem, e0, e1, e2, e3, e4, e5]) rfl ⟨(below_six K3.out (Nat.le_succ _) _ _ _ _ _ _).drew, _, _, ⟨x0, x1, x2, x3, x4, x5⟩, rfl, ((HRX.out.six KK.out hsY _ _ _ _ _ _).mono (by omega)).drew, decide_eq_true_iff.trans (by rw [HRE.out]; exact HI.out.symm), fun _ => HRE.out.trans HE.out.symm⟩
set_option linter.unusedSimpArgs false in
set_option linter.unusedVariables false in
set_option maxRecDepth 100000 in
set_option maxHeartbeats 1600000 in
theorem ta6_w (addr n addr2 m cap b off : Nat) (bits : List Bool) (regs : List Nat) (bv rv : Value) (bs : List Nat) (w : World) (hS : Bs w b off m cap bs) (hm : 1 ≤ m) (h0 : bs.getD 0 0 = 6) (hq : IsRq w (rqV 6 addr n addr2 bv rv) ⟨6, addr, n, addr2, bits, regs⟩) (hf : Rq.Fits ⟨6, addr, n, addr2, bits, regs⟩) :
    Calls Try.prog 45 #[rqV 6 addr n addr2 bv rv, .slice (some ⟨b, off, none⟩) m cap] w fun e w' => Told (AnsIs ⟨6, addr, n, addr2, bits, regs⟩ bs) (ansOf ⟨6, addr, n, addr2, bits, regs⟩ bs) w e w' := by
  have k0 : w.cell? ⟨b, off, none⟩ = some (.int .u8 6) := by have h := hS.at 0 (by omega); rw [h0] at h; exact h
  have H0 := hid_as h0
  have HS := hid_as hS
  have HQ := hid_as hq
  have HF := hid_as hf
  have hb : b < w.heap.size := lt_of_cell k0
  have g0 : ((m : Int) == 0) = false := by rw [beq_eq_false_iff_ne]; omega
  have g1 : ((6 : Int) != 6) = false := rfl
  have i0 : (0 : Int) < (m : Int) := by omega
  have HI : Hid (AnsIs ⟨6, addr, n, addr2, bits, regs⟩ bs ↔ bs = repBytes (echo ⟨6, addr, n, addr2, bits, regs⟩)) := ans_w (by decide) h0 (by rw [← hS.len]; exact hm)
  have HE : Hid (ansOf ⟨6, addr, n, addr2, bits, regs⟩ bs = echo ⟨6, addr, n, addr2, bits, regs⟩) := by unfold Hid ansOf; simp
  clear h0 hS hq hf
  unfold rqV at HQ
  unfold rqV
  go_enter Try.func45, Try.ntmps45
  go_upto_region 1 with fail
  have TW := two_new w 6 addr n addr2 bv rv
  generalize ((w.alloc (.cells #[.int .u8 (6 : Nat), .int .u16 addr, .int .u16 n, .int .u16 addr2, bv, rv] 26)).alloc (.cells #[.int .u8 0, .int .u8 0, .int .u16 0, .int .u16 0, .slice none 0 0, .slice none 0 0] 44)) = W at TW ⊢
  obtain ⟨BX, q, K, hs⟩ := TW
  obtain ⟨c0, c1, c2, c3, c4, c5⟩ := BX
  obtain ⟨⟨d0, d1, d2, d3, d4, d5⟩, hfz⟩ := block6 q
  have f0 := hfz 0
  have f1 := hfz 1
  have f2 := hfz 2
  have f3 := hfz 3
  have f4 := hfz 4
  have f5 := hfz 5
  have K : Hid (Below w.heap.size w W) := K
  clear hfz
  have k0' : W.cell? ⟨b, off, none⟩ = some (.int .u8 6) := (K.out.cell (p := ⟨b, off, none⟩) hb).trans k0
  go_quiet (fail)
  have y0 : Hid ((W.drewN nq).heap[w.heap.size + 1]? = some (.cells #[.int .u8 0, .int .u8 0, .int .u16 0, .int .u16 0, .slice none 0 0, .slice none 0 0] 44 (0, 0))) := q
  have BQ := (Box.mk c0 c1 c2 c3 c4 c5).drewN nq
  have KY : Hid (Below w.heap.size w (W.drewN nq)) := below_drewN K.out nq
  have hsY : w.heap.size + 1 < (W.drewN nq).heap.size := hs
  clear c0 c1 c2 c3 c4 c5 d0 d1 d2 d3 d4 d5 f0 f1 f2 f3 f4 f5 q k0' K hs
  generalize W.drewN nq = Y at y0 BQ KY hsY ⊢
  obtain ⟨c0, c1, c2, c3, c4, c5⟩ := BQ
  go_wp2_with fail
  refine (echo_c (HQ.out.below KY.out) HF.out (by simp)).mono ?_
  rintro e w2 ⟨vx, rfl, hrx, k2⟩
  have rxx : ∃ rx, rx = echo ⟨6, addr, n, addr2, bits, regs⟩ := ⟨_, rfl⟩
  obtain ⟨rx, hrxe⟩ := rxx
  rw [← hrxe] at hrx
  have HRE := hid_as hrxe
  have y2 := (k2.block (w.heap.size + 1) hsY).trans y0.out
  have K2 : Hid (Below w.heap.size w w2) := below_and KY.out k2
  have hs2 : w.heap.size + 1 < w2.heap.size := Nat.lt_of_lt_of_le hsY k2.size
  have FT : Hid (rx.Fits) := by unfold Hid; rw [hrxe]; exact echo_fits HF.out (by simp)
  clear c0 c1 c2 c3 c4 c5 hrxe k2
  have HRX := hid_as hrx
  obtain ⟨x0, x1, x2, x3, x4, x5⟩ := rx
  obtain ⟨_, bvx, rvx, hvx, s1x, s2x, _, _⟩ := hrx
  obtain ⟨xo, xc, rfl⟩ := s1x.shape
  obtain ⟨xp, xd, rfl⟩ := s2x.shape
  simp only at hvx
  unfold rpV at hvx
  subst hvx
  rw [bls_len, u16s_len] at HRX
  rw [bls_len, u16s_len]
  simp only at HRX ⊢
  generalize x4.length = xb at HRX ⊢
  generalize x5.length = xr at HRX ⊢
  clear s1x s2x
  have RY := hid_as (fun (o : Obj) => reply_yes (HRX.out.plain.below (below_new (Below.refl _ w2) o)) FT.out)
  go_wp2_with fail
  refine (RY.out _).mono ?_
  rintro e w3 ⟨v3, rfl, own3, k3⟩
  have y3 := (k3.block (w.heap.size + 1) (by simp; omega)).trans ((Below.heap_alloc w2 _ _ hs2).trans y2)
  have BX3 := (Box.new w2 (.int .u8 x0) (.int .u8 x1) (.int .u16 x2) (.int .u16 x3) (.slice xo xb xc) (.slice xp xr xd) 44).below k3 (by simp)
  have KK : Hid (Below w2.heap.size w2 w3) := below_and (below_new (Below.refl _ w2) _) k3
  have K3 : Hid (Below w.heap.size w w3) := below_and K2.out KK.out
  have hs3 : w.heap.size + 1 < w3.heap.size := Nat.lt_of_lt_of_le hs2 KK.out.size
  have RB : Hid (Bytes (repBytes ⟨x0, x1, x2, x3, x4, x5⟩)) := repBytes_bytes HRX.out.1 FT.out
  have EQ := hid_as (fun (W : World) (h : Below w3.heap.size w3 W) => equal_c ((HS.out.below (below_and K3.out h)).sl) ((own_sl own3).below h) HS.out.bytes RB.out)
  clear k3 own3 y2 RY
  obtain ⟨⟨d0, d1, d2, d3, d4, d5⟩, hfz⟩ := block6 y3
  have f0 := hfz 0
  have f1 := hfz 1
  have f2 := hfz 2
  have f3 := hfz 3
  have f4 := hfz 4
  have f5 := hfz 5
  clear hfz y3
  obtain ⟨u0, u1, u2, u3, u4, u5⟩ := BX3
  have hne : ¬ (w.heap.size + 1 = w2.heap.size) := by omega
  go_wp2_with fail
  go_region_held3 (fun w' => w'.cell? ⟨w2.heap.size, 0, none⟩ = some (.int .u8 x0) ∧ w'.cell? ⟨w2.heap.size, 1, none⟩ = some (.int .u8 x1) ∧ w'.cell? ⟨w2.heap.size, 2, none⟩ = some (.int .u16 x2) ∧ w'.cell? ⟨w2.heap.size, 3, none⟩ = some (.int .u16 x3) ∧ w'.cell? ⟨w2.heap.size, 4, none⟩ = some (.slice xo xb xc) ∧ w'.cell? ⟨w2.heap.size, 5, none⟩ = some (.slice xp xr xd)) (first | (simp [World.cell?_setCell_far, hne, u0, u1, u2, u3, u4, u5]; done)) (first | (go_at_call 58; (with_reducible refine (EQ.out _ ?_).mono ?_); (first | exact Below.refl _ _ | exact (Below.refl _ _).drew); rintro e w' ⟨rfl, hw⟩; subst w'))
  all_goals
    go_wp2
    have BF := set_box (Box.mk d0 d1 d2 d3 d4 d5) (.int .u8 x0) (.int .u8 x1) (.int .u16 x2) (.int .u16 x3) (.slice xo xb xc) (.slice xp xr xd)
    obtain ⟨e0, e1, e2, e3, e4, e5⟩ := BF
    exact bodyPost_ret (v := .tuple #[.agg #[.int .u8 x0, .int .u8 x1, .int .u16 x2, .int .u16 x3, .slice xo xb xc, .slice xp xr xd], .bool (decide (bs = repBytes ⟨x0, x1, x2, x3, x4, x5⟩))]) (by simp [results, Try.results45, go_sem, e0, e1, e2, e3, e4, e5]) rfl ⟨(below_six K3.out (Nat.le_succ _) _ _ _ _ _ _).drew, _, _, ⟨x0, x1, x2, x3, x4, x5⟩, rfl, ((HRX.out.six KK.out hsY _ _ _ _ _ _).mono (by omega)).drew, decide_eq_true_iff.trans (by rw [HRE.out]; exact HI.out.symm), fun _ => HRE.out.trans HE.out.symm⟩
set_option linter.unusedSimpArgs false in
set_option linter.unusedVariables false in
set_option maxRecDepth 100000 in
set_option maxHeartbeats 1600000 in
theorem ta15_w (addr n addr2 m cap b off : Nat) (bits : List Bool) (regs : List Nat) (bv rv : Value) (bs : List Nat) (w : World) (hS : Bs w b off m cap bs) (hm : 1 ≤ m) (h0 : bs.getD 0 0 = 15) (hq : IsRq w (rqV 15 addr n addr2 bv rv) ⟨15, addr, n, addr2, bits, regs⟩) (hf : Rq.Fits ⟨15, addr, n, addr2, bits, regs⟩) :
    Calls Try.prog 45 #[rqV 15 addr n addr2 bv rv, .slice (some ⟨b, off, none⟩) m cap] w fun e w' => Told (AnsIs ⟨15, addr, n, addr2, bits, regs⟩ bs) (ansOf ⟨15, addr, n, addr2, bits, regs⟩ bs) w e w' := by
  have k0 : w.cell? ⟨b, off, none⟩ = some (.int .u8 15) := by have h := hS.at 0 (by omega); rw [h0] at h; exact h
  have H0 := hid_as h0
  have HS := hid_as hS
  have HQ := hid_as hq
  have HF := hid_as hf
  have hb : b < w.heap.size := lt_of_cell k0
  have g0 : ((m : Int) == 0) = false := by rw [beq_eq_false_iff_ne]; omega
  have g1 : ((15 : Int) != 15) = false := rfl
  have i0 : (0 : Int) < (m : Int) := by omega
  have HI : Hid (AnsIs ⟨15, addr, n, addr2, bits, regs⟩ bs ↔ bs = repBytes (echo ⟨15, addr, n, addr2, bits, regs⟩)) := ans_w (by decide) h0 (by rw [← hS.len]; exact hm)
  have HE : Hid (ansOf ⟨15, addr, n, addr2, bits, regs⟩ bs = echo ⟨15, addr, n, addr2, bits, regs⟩) := by unfold Hid ansOf; simp
  clear h0 hS hq hf
  unfold rqV at HQ
  unfold rqV
  go_enter Try.func45, Try.ntmps45
  go_upto_region 1 with fail
  have TW := two_new w 15 addr n addr2 bv rv
  generalize ((w.alloc (.cells #[.int .u8 (15 : Nat), .int .u16 addr, .int .u16 n, .int .u16 addr2, bv, rv] 26)).alloc (.cells #[.int .u8 0, .int .u8 0, .int .u16 0, .int .u16 0, .slice none 0 0, .slice none 0 0] 44)) = W at TW ⊢
  obtain ⟨BX, q, K, hs⟩ := TW
  obtain ⟨c0, c1, c2, c3, c4, c5⟩ := BX
  obtain ⟨⟨d0, d1, d2, d3, d4, d5⟩, hfz⟩ := block6 q
  have f0 := hfz 0
  have f1 := hfz 1
  have f2 := hfz 2
  have f3 := hfz 3
  have f4 := hfz 4
  have f5 := hfz 5
  have K : Hid (Below w.heap.size w W) := K
  clear hfz
  have k0' : W.cell? ⟨b, off, none⟩ = some (.int .u8 15) := (K.out.cell (p := ⟨b, off, none⟩) hb).trans k0
  go_quiet (fail)
  have y0 : Hid ((W.drewN nq).heap[w.heap.size + 1]? = some (.cells #[.int .u8 0, .int .u8 0, .int .u16 0, .int .u16 0, .slice none 0 0, .slice none 0 0] 44 (0, 0))) := q
  have BQ := (Box.mk c0 c1 c2 c3 c4 c5).drewN nq
  have KY : Hid (Below w.heap.size w (W.drewN nq)) := below_drewN K.out nq
  have hsY : w.heap.size + 1 < (W.drewN nq).heap.size := hs
  clear c0 c1 c2 c3 c4 c5 d0 d1 d2 d3 d4 d5 f0 f1 f2 f3 f4 f5 q k0' K hs
  generalize W.drewN nq = Y at y0 BQ KY hsY ⊢
  obtain ⟨c0, c1, c2, c3, c4, c5⟩ := BQ
  go_wp2_with fail
  refine (echo_c (HQ.out.below KY.out) HF.out (by simp)).mono ?_
  rintro e w2 ⟨vx, rfl, hrx, k2⟩
  have rxx : ∃ rx, rx = echo ⟨15, addr, n, addr2, bits, regs⟩ := ⟨_, rfl⟩
  obtain ⟨rx, hrxe⟩ := rxx
  rw [← hrxe] at hrx
  have HRE := hid_as hrxe
  have y2 := (k2.block (w.heap.size + 1) hsY).trans y0.out
  have K2 : Hid (Below w.heap.size w w2) := below_and KY.out k2
  have hs2 : w.heap.size + 1 < w2.heap.size := Nat.lt_of_lt_of_le hsY k2.size
  have FT : Hid (rx.Fits) := by unfold Hid; rw [hrxe]; exact echo_fits HF.out (by simp)
  clear c0 c1 c2 c3 c4 c5 hrxe k2
  have HRX := hid_as hrx
  obtain ⟨x0, x1, x2, x3, x4, x5⟩ := rx
  obtain ⟨_, bvx, rvx, hvx, s1x, s2x, _, _⟩ := hrx
  obtain ⟨xo, xc, rfl⟩ := s1x.shape
  obtain ⟨xp, xd, rfl⟩ := s2x.shape
  simp only at hvx
  unfold rpV at hvx
  subst hvx
  rw [bls_len, u16s_len] at HRX
  rw [bls_len, u16s_len]
  simp only at HRX ⊢
  generalize x4.length = xb at HRX ⊢
  generalize x5.length = xr at HRX ⊢
  clear s1x s2x
  have RY := hid_as (fun (o : Obj) => reply_yes (HRX.out.plain.below (below_new (Below.refl _ w2) o)) FT.out)
  go_wp2_with fail
  refine (RY.out _).mono ?_
  rintro e w3 ⟨v3, rfl, own3, k3⟩
  have y3 := (k3.block (w.heap.size + 1) (by simp; omega)).trans ((Below.heap_alloc w2 _ _ hs2).trans y2)
  have BX3 := (Box.new w2 (.int .u8 x0) (.int .u8 x1) (.int .u16 x2) (.int .u16 x3) (.slice xo xb xc) (.slice xp xr xd) 44).below k3 (by simp)
  have KK : Hid (Below w2.heap.size w2 w3) := below_and (below_new (Below.refl _ w2) _) k3
  have K3 : Hid (Below w.heap.size w w3) := below_and K2.out KK.out
  have hs3 : w.heap.size + 1 < w3.heap.size := Nat.lt_of_lt_of_le hs2 KK.out.size
  have RB : Hid (Bytes (repBytes ⟨x0, x1, x2, x3, x4, x5⟩)) := repBytes_bytes HRX.out.1 FT.out
  have EQ := hid_as (fun (W : World) (h : Below w3.heap.size w3 W) => equal_c ((HS.out.below (below_and K3.out h)).sl) ((own_sl own3).below h) HS.out.bytes RB.out)
  clear k3 own3 y2 RY
  obtain ⟨⟨d0, d1, d2, d3, d4, d5⟩, hfz⟩ := block6 y3
  have f0 := hfz 0
  have f1 := hfz 1
  have f2 := hfz 2
  have f3 := hfz 3
  have f4 := hfz 4
  have f5 := hfz 5
  clear hfz y3
  obtain ⟨u0, u1, u2, u3, u4, u5⟩ := BX3
  have hne : ¬ (w.heap.size + 1 = w2.heap.size) := by omega
  go_wp2_with fail
  go_region_held3 (fun w' => w'.cell? ⟨w2.heap.size, 0, none⟩ = some (.int .u8 x0) ∧ w'.cell? ⟨w2.heap.size, 1, none⟩ = some (.int .u8 x1) ∧ w'.cell? ⟨w2.heap.size, 2, none⟩ = some (.int .u16 x2) ∧ w'.cell? ⟨w2.heap.size, 3, none⟩ = some (.int .u16 x3) ∧ w'.cell? ⟨w2.heap.size, 4, none⟩ = some (.slice xo xb xc) ∧ w'.cell? ⟨w2.heap.size, 5, none⟩ = some (.slice xp xr xd)) (first | (simp [World.cell?_setCell_far, hne, u0, u1, u2, u3, u4, u5]; done)) (first | (go_at_call 58; (with_reducible refine (EQ.out _ ?_).mono ?_); (first | exact Below.refl _ _ | exact (Below.refl _ _).drew); rintro e w' ⟨rfl, hw⟩; subst w'))
  all_goals
    go_wp2
    have BF := set_box (Box.mk d0 d1 d2 d3 d4 d5) (.int .u8 x0) (.int .u8 x1) (.int .u16 x2) (.int .u16 x3) (.slice xo xb xc) (.slice xp xr xd)
    obtain ⟨e0, e1, e2, e3, e4, e5⟩ := BF
    exact bodyPost_ret (v := .tuple #[.agg #[.int .u8 x0, .int .u8 x1, .int .u16 x2, .int .u16 x3, .slice xo xb xc, .slice xp xr xd], .bool (decide (bs = repBytes ⟨x0, x1, x2, x3, x4, x5⟩))]) (by simp [results, Try.results45, go_sem, e0, e1, e2, e3, e4, e5]) rfl ⟨(below_six K3.out (Nat.le_succ _) _ _ _ _ _ _).drew, _, _, ⟨x0, x1, x2, x3, x4, x5⟩, rfl, ((HRX.out.six KK.out hsY _ _ _ _ _ _).mono (by omega)).drew, decide_eq_true_iff.trans (by rw [HRE.out]; exact HI.out.symm), fun _ => HRE.out.trans HE.out.symm⟩
set_option linter.unusedSimpArgs false in
set_option linter.unusedVariables false in
set_option maxRecDepth 100000 in
set_option maxHeartbeats 1600000 in
theorem ta16_w (addr n addr2 m cap b off : Nat) (bits : List Bool) (regs : List Nat) (bv rv : Value) (bs : List Nat) (w : World) (hS : Bs w b off m cap bs) (hm : 1 ≤ m) (h0 : bs.getD 0 0 = 16) (hq : IsRq w (rqV 16 addr n addr2 bv rv) ⟨16, addr, n, addr2, bits, regs⟩) (hf : Rq.Fits ⟨16, addr, n, addr2, bits, regs⟩) :
    Calls Try.prog 45 #[rqV 16 addr n addr2 bv rv, .slice (some ⟨b, off, none⟩) m cap] w fun e w' => Told (AnsIs ⟨16, addr, n, addr2, bits, regs⟩ bs) (ansOf ⟨16, addr, n, addr2, bits, regs⟩ bs) w e w' := by
  have k0 : w.cell? ⟨b, off, none⟩ = some (.int .u8 16) := by have h := hS.at 0 (by omega); rw [h0] at h; exact h
  have H0 := hid_as h0
  have HS := hid_as hS
  have HQ := hid_as hq
  have HF := hid_as hf
  have hb : b < w.heap.size := lt_of_cell k0
  have g0 : ((m : Int) == 0) = false := by rw [beq_eq_false_iff_ne]; omega
  have g1 : ((16 : Int) != 16) = false := rfl
  have i0 : (0 : Int) < (m : Int) := by omega
  have HI : Hid (AnsIs ⟨16, addr, n, addr2, bits, regs⟩ bs ↔ bs = repBytes (echo ⟨16, addr, n, addr2, bits, regs⟩)) := ans_w (by decide) h0 (by rw [← hS.len]; exact hm)
  have HE : Hid (ansOf ⟨16, addr, n, addr2, bits, regs⟩ bs = echo ⟨16, addr, n, addr2, bits, regs⟩) := by unfold Hid ansOf; simp
  clear h0 hS hq hf
  unfold rqV at HQ
  unfold rqV
  go_enter Try.func45, Try.ntmps45
  go_upto_region 1 with fail
  have TW := two_new w 16 addr n addr2 bv rv
  generalize ((w.alloc (.cells #[.int .u8 (16 : Nat), .int .u16 addr, .int .u16 n, .int .u16 addr2, bv, rv] 26)).alloc (.cells #[.int .u8 0, .int .u8 0, .int .u16 0, .int .u16 0, .slice none 0 0, .slice none 0 0] 44)) = W at TW ⊢
  obtain ⟨BX, q, K, hs⟩ := TW
  obtain ⟨c0, c1, c2, c3, c4, c5⟩ := BX
  obtain ⟨⟨d0, d1, d2, d3, d4, d5⟩, hfz⟩ := block6 q
  have f0 := hfz 0
  have f1 := hfz 1
  have f2 := hfz 2
  have f3 := hfz 3
  have f4 := hfz 4
  have f5 := hfz 5
  have K : Hid (Below w.heap.size w W) := K
  clear hfz
  have k0' : W.cell? ⟨b, off, none⟩ = some (.int .u8 16) := (K.out.cell (p := ⟨b, off, none⟩) hb).trans k0
  go_quiet (fail)
  have y0 : Hid ((W.drewN nq).heap[w.heap.size + 1]? = some (.cells #[.int .u8 0, .int .u8 0, .int .u16 0, .int .u16 0, .slice none 0 0, .slice none 0 0] 44 (0, 0))) := q
  have BQ := (Box.mk c0 c1 c2 c3 c4 c5).drewN nq
  have KY : Hid (Below w.heap.size w (W.drewN nq)) := below_drewN K.out nq
  have hsY : w.heap.size + 1 < (W.drewN nq).heap.size := hs
  clear c0 c1 c2 c3 c4 c5 d0 d1 d2 d3 d4 d5 f0 f1 f2 f3 f4 f5 q k0' K hs
  generalize W.drewN nq = Y at y0 BQ KY hsY ⊢
  obtain ⟨c0, c1, c2, c3, c4, c5⟩ := BQ
  go_wp2_with fail
  refine (echo_c (HQ.out.below KY.out) HF.out (by simp)).mono ?_
  rintro e w2 ⟨vx, rfl, hrx, k2⟩
  have rxx : ∃ rx, rx = echo ⟨16, addr, n, addr2, bits, regs⟩ := ⟨_, rfl⟩
  obtain ⟨rx, hrxe⟩ := rxx
  rw [← hrxe] at hrx
  have HRE := hid_as hrxe
  have y2 := (k2.block (w.heap.size + 1) hsY).trans y0.out
  have K2 : Hid (Below w.heap.size w w2) := below_and KY.out k2
  have hs2 : w.heap.size + 1 < w2.heap.size := Nat.lt_of_lt_of_le hsY k2.size
  have FT : Hid (rx.Fits) := by unfold Hid; rw [hrxe]; exact echo_fits HF.out (by simp)
  clear c0 c1 c2 c3 c4 c5 hrxe k2
  have HRX := hid_as hrx
  obtain ⟨x0, x1, x2, x3, x4, x5⟩ := rx
  obtain ⟨_, bvx, rvx, hvx, s1x, s2x, _, _⟩ := hrx
  obtain ⟨xo, xc, rfl⟩ := s1x.shape
  obtain ⟨xp, xd, rfl⟩ := s2x.shape
  simp only at hvx
  unfold rpV at hvx
  subst hvx
  rw [bls_len, u16s_len] at HRX
  rw [bls_len, u16s_len]
  simp only at HRX ⊢
  generalize x4.length = xb at HRX ⊢
  generalize x5.length = xr at HRX ⊢
  clear s1x s2x
  have RY := hid_as (fun (o : Obj) => reply_yes (HRX.out.plain.below (below_new (Below.refl _ w2) o)) FT.out)
  go_wp2_with fail
  refine (RY.out _).mono ?_
  rintro e w3 ⟨v3, rfl, own3, k3⟩
  have y3 := (k3.block (w.heap.size + 1) (by simp; omega)).trans ((Below.heap_alloc w2 _ _ hs2).trans y2)
  have BX3 := (Box.new w2 (.int .u8 x0) (.int .u8 x1) (.int .u16 x2) (.int .u16 x3) (.slice xo xb xc) (.slice xp xr xd) 44).below k3 (by simp)
  have KK : Hid (Below w2.heap.size w2 w3) := below_and (below_new (Below.refl _ w2) _) k3
  have K3 : Hid (Below w.heap.size w w3) := below_and K2.out KK.out
  have hs3 : w.heap.size + 1 < w3.heap.size := Nat.lt_of_lt_of_le hs2 KK.out.size
  have RB : Hid (Bytes (repBytes ⟨x0, x1, x2, x3, x4, x5⟩)) := repBytes_bytes HRX.out.1 FT.out
  have EQ := hid_as (fun (W : World) (h : Below w3.heap.size w3 W) => equal_c ((HS.out.below (below_and K3.out h)).sl) ((own_sl own3).below h) HS.out.bytes RB.out)
  clear k3 own3 y2 RY
  obtain ⟨⟨d0, d1, d2, d3, d4, d5⟩, hfz⟩ := block6 y3
  have f0 := hfz 0
  have f1 := hfz 1
  have f2 := hfz 2
  have f3 := hfz 3
  have f4 := hfz 4
  have f5 := hfz 5
  clear hfz y3
  obtain ⟨u0, u1, u2, u3, u4, u5⟩ := BX3
  have hne : ¬ (w.heap.size + 1 = w2.heap.size) := by omega
  go_wp2_with fail
  go_region_held3 (fun w' => w'.cell? ⟨w2.heap.size, 0, none⟩ = some (.int .u8 x0) ∧ w'.cell? ⟨w2.heap.size, 1, none⟩ = some (.int .u8 x1) ∧ w'.cell? ⟨w2.heap.size, 2, none⟩ = some (.int .u16 x2) ∧ w'.cell? ⟨w2.heap.size, 3, none⟩ = some (.int .u16 x3) ∧ w'.cell? ⟨w2.heap.size, 4, none⟩ = some (.slice xo xb xc) ∧ w'.cell? ⟨w2.heap.size, 5, none⟩ = some (.slice xp xr xd)) (first | (simp [World.cell?_setCell_far, hne, u0, u1, u2, u3, u4, u5]; done)) (first | (go_at_call 58; (with_reducible refine (EQ.out _ ?_).mono ?_); (first | exact Below.refl _ _ | exact (Below.refl _ _).drew); rintro e w' ⟨rfl, hw⟩; subst w'))
  all_goals
    go_wp2
    have BF := set_box (Box.mk d0 d1 d2 d3 d4 d5) (.int .u8 x0) (.int .u8 x1) (.int .u16 x2) (.int .u16 x3) (.slice xo xb xc) (.slice xp xr xd)
    obtain ⟨e0, e1, e2, e3, e4, e5⟩ := BF
    exact bodyPost_ret (v := .tuple #[.agg #[.int .u8 x0, .int .u8 x1, .int .u16 x2, .int .u16 x3, .slice xo xb xc, .slice xp xr xd], .bool (decide (bs = repBytes ⟨x0, x1, x2, x3, x4, x5⟩))]) (by simp [results, Try.results45, go_sem, e0, e1, e2, e3, e4, e5]) rfl ⟨(below_six K3.out (Nat.le_succ _) _ _ _ _ _ _).drew, _, _, ⟨x0, x1, x2, x3, x4, x5⟩, rfl, ((HRX.out.six KK.out hsY _ _ _ _ _ _).mono (by omega)).drew, decide_eq_true_iff.trans (by rw [HRE.out]; exact HI.out.symm), fun _ => HRE.out.trans HE.out.symm⟩
set_option linter.unusedSimpArgs false in
set_option linter.unusedVariables false in
set_option maxRecDepth 100000 in
set_option maxHeartbeats 1600000 in
theorem ta22_w (addr n addr2 m cap b off : Nat) (bits : List Bool) (regs : List Nat) (bv rv : Value) (bs : List Nat) (w : World) (hS : Bs w b off m cap bs) (hm : 1 ≤ m) (h0 : bs.getD 0 0 = 22) (hq : IsRq w (rqV 22 addr n addr2 bv rv) ⟨22, addr, n, addr2, bits, regs⟩) (hf : Rq.Fits ⟨22, addr, n, addr2, bits, regs⟩) :
    Calls Try.prog 45 #[rqV 22 addr n addr2 bv rv, .slice (some ⟨b, off, none⟩) m cap] w fun e w' => Told (AnsIs ⟨22, addr, n, addr2, bits, regs⟩ bs) (ansOf ⟨22, addr, n, addr2, bits, regs⟩ bs) w e w' := by
  have k0 : w.cell? ⟨b, off, none⟩ = some (.int .u8 22) := by have h := hS.at 0 (by omega); rw [h0] at h; exact h
  have H0 := hid_as h0
  have HS := hid_as hS
  have HQ := hid_as hq
  have HF := hid_as hf
  have hb : b < w.heap.size := lt_of_cell k0
  have g0 : ((m : Int) == 0) = false := by rw [beq_eq_false_iff_ne]; omega
  have g1 : ((22 : Int) != 22) = false := rfl
  have i0 : (0 : Int) < (m : Int) := by omega
  have HI : Hid (AnsIs ⟨22, addr, n, addr2, bits, regs⟩ bs ↔ bs = repBytes (echo ⟨22, addr, n, addr2, bits, regs⟩)) := ans_w (by decide) h0 (by rw [← hS.len]; exact hm)
  have HE : Hid (ansOf ⟨22, addr, n, addr2, bits, regs⟩ bs = echo ⟨22, addr, n, addr2, bits, regs⟩) := by unfold Hid ansOf; simp
  clear h0 hS hq hf
  unfold rqV at HQ
  unfold rqV
  go_enter Try.func45, Try.ntmps45
  go_upto_region 1 with fail
  have TW := two_new w 22 addr n addr2 bv rv
  generalize ((w.alloc (.cells #[.int .u8 (22 : Nat), .int .u16 addr, .int .u16 n, .int .u16 addr2, bv, rv] 26)).alloc (.cells #[.int .u8 0, .int .u8 0, .int .u16 0, .int .u16 0, .slice none 0 0, .slice none 0 0] 44)) = W at TW ⊢
  obtain ⟨BX, q, K, hs⟩ := TW
  obtain ⟨c0, c1, c2, c3, c4, c5⟩ := BX
  obtain ⟨⟨d0, d1, d2, d3, d4, d5⟩, hfz⟩ := block6 q
  have f0 := hfz 0
  have f1 := hfz 1
  have f2 := hfz 2
  have f3 := hfz 3
  have f4 := hfz 4
  have f5 := hfz 5
  have K : Hid (Below w.heap.size w W) := K
  clear hfz
  have k0' : W.cell? ⟨b, off, none⟩ = some (.int .u8 22) := (K.out.cell (p := ⟨b, off, none⟩) hb).trans k0
  go_quiet (fail)
  have y0 : Hid ((W.drewN nq).heap[w.heap.size + 1]? = some (.cells #[.int .u8 0, .int .u8 0, .int .u16 0, .int .u16 0, .slice none 0 0, .slice none 0 0] 44 (0, 0))) := q
  have BQ := (Box.mk c0 c1 c2 c3 c4 c5).drewN nq
  have KY : Hid (Below w.heap.size w (W.drewN nq)) := below_drewN K.out nq
  have hsY : w.heap.size + 1 < (W.drewN nq).heap.size := hs
  clear c0 c1 c2 c3 c4 c5 d0 d1 d2 d3 d4 d5 f0 f1 f2 f3 f4 f5 q k0' K hs
  generalize W.drewN nq = Y at y0 BQ KY hsY ⊢
  obtain ⟨c0, c1, c2, c3, c4, c5⟩ := BQ
  go_wp2_with fail
  refine (echo_c (HQ.out.below KY.out) HF.out (by simp)).mono ?_
  rintro e w2 ⟨vx, rfl, hrx, k2⟩
  have rxx : ∃ rx, rx = echo ⟨22, addr, n, addr2, bits, regs⟩ := ⟨_, rfl⟩
  obtain ⟨rx, hrxe⟩ := rxx
  rw [← hrxe] at hrx
  have HRE := hid_as hrxe
  have y2 := (k2.block (w.heap.size + 1) hsY).trans y0.out
  have K2 : Hid (Below w.heap.size w w2) := below_and KY.out k2
  have hs2 : w.heap.size + 1 < w2.heap.size := Nat.lt_of_lt_of_le hsY k2.size
  have FT : Hid (rx.Fits) := by unfold Hid; rw [hrxe]; exact echo_fits HF.out (by simp)
  clear c0 c1 c2 c3 c4 c5 hrxe k2
  have HRX := hid_as hrx
  obtain ⟨x0, x1, x2, x3, x4, x5⟩ := rx
  obtain ⟨_, bvx, rvx, hvx, s1x, s2x, _, _⟩ := hrx
  obtain ⟨xo, xc, rfl⟩ := s1x.shape
  obtain ⟨xp, xd, rfl⟩ := s2x.shape
  simp only at hvx
  unfold rpV at hvx
  subst hvx
  rw [bls_len, u16s_len] at HRX
  rw [bls_len, u16s_len]
  simp only at HRX ⊢
  generalize x4.length = xb at HRX ⊢
  generalize x5.length = xr at HRX ⊢
  clear s1x s2x
  have RY := hid_as (fun (o : Obj) => reply_yes (HRX.out.plain.below (below_new (Below.refl _ w2) o)) FT.out)
  go_wp2_with fail
  refine (RY.out _).mono ?_
  rintro e w3 ⟨v3, rfl, own3, k3⟩
  have y3 := (k3.block (w.heap.size + 1) (by simp; omega)).trans ((Below.heap_alloc w2 _ _ hs2).trans y2)
  have BX3 := (Box.new w2 (.int .u8 x0) (.int .u8 x1) (.int .u16 x2) (.int .u16 x3) (.slice xo xb xc) (.slice xp xr xd) 44).below k3 (by simp)
  have KK : Hid (Below w2.heap.size w2 w3) := below_and (below_new (Below.refl _ w2) _) k3
  have K3 : Hid (Below w.heap.size w w3) := below_and K2.out KK.out
  have hs3 : w.heap.size + 1 < w3.heap.size := Nat.lt_of_lt_of_le hs2 KK.out.size
  have RB : Hid (Bytes (repBytes ⟨x0, x1, x2, x3, x4, x5⟩)) := repBytes_bytes HRX.out.1 FT.out
  have EQ := hid_as (fun (W : World) (h : Below w3.heap.size w3 W) => equal_c ((HS.out.below (below_and K3.out h)).sl) ((own_sl own3).below h) HS.out.bytes RB.out)
  clear k3 own3 y2 RY
  obtain ⟨⟨d0, d1, d2, d3, d4, d5⟩, hfz⟩ := block6 y3
  have f0 := hfz 0
  have f1 := hfz 1
  have f2 := hfz 2
  have f3 := hfz 3
  have f4 := hfz 4
  have f5 := hfz 5
  clear hfz y3
  obtain ⟨u0, u1, u2, u3, u4, u5⟩ := BX3
  have hne : ¬ (w.heap.size + 1 = w2.heap.size) := by omega
  go_wp2_with fail
  go_region_held3 (fun w' => w'.cell? ⟨w2.heap.size, 0, none⟩ = some (.int .u8 x0) ∧ w'.cell? ⟨w2.heap.size, 1, none⟩ = some (.int .u8 x1) ∧ w'.cell? ⟨w2.heap.size, 2, none⟩ = some (.int .u16 x2) ∧ w'.cell? ⟨w2.heap.size, 3, none⟩ = some (.int .u16 x3) ∧ w'.cell? ⟨w2.heap.size, 4, none⟩ = some (.slice xo xb xc) ∧ w'.cell? ⟨w2.heap.size, 5, none⟩ = some (.slice xp xr xd)) (first | (simp [World.cell?_setCell_far, hne, u0, u1, u2, u3, u4, u5]; done)) (first | (go_at_call 58; (with_reducible refine (EQ.out _ ?_).mono ?_); (first | exact Below.refl _ _ | exact (Below.refl _ _).drew); rintro e w' ⟨rfl, hw⟩; subst w'))
  all_goals
    go_wp2
    have BF := set_box (Box.mk d0 d1 d2 d3 d4 d5) (.int .u8 x0) (.int .u8 x1) (.int .u16 x2) (.int .u16 x3) (.slice xo xb xc) (.slice xp xr xd)
    obtain ⟨e0, e1, e2, e3, e4, e5⟩ := BF
    exact bodyPost_ret (v := .tuple #[.agg #[.int .u8 x0, .int .u8 x1, .int .u16 x2, .int .u16 x3, .slice xo xb xc, .slice xp xr xd], .bool (decide (bs = repBytes ⟨x0, x1, x2, x3, x4, x5⟩))]) (by simp [results, Try.results45, go_sem, e0, e1, e2, e3, e4, e5]) rfl ⟨(below_six K3.out (Nat.le_succ _) _ _ _ _ _ _).drew, _, _, ⟨x0, x1, x2, x3, x4, x5⟩, rfl, ((HRX.out.six KK.out hsY _ _ _ _ _ _).mono (by omega)).drew, decide_eq_true_iff.trans (by rw [HRE.out]; exact HI.out.symm), fun _ => HRE.out.trans HE.out.symm⟩
end Go.Proofs.Ytehbbkdiekgpbaa
