/- The walk: the reference reads a request: function 15. -/
import Derived.Test.YtehbbkdiekgpbaaTKAll
import Derived.Test.YtehbbkdiekgpbaaRReqAll
import Derived.Test.YtehbbkdiekgpbaaROB
namespace Go.Proofs.Ytehbbkdiekgpbaa
open Go.RowKit
open Pdu
set_option linter.unusedSimpArgs false in
set_option linter.unusedVariables false in
set_option maxRecDepth 100000 in
set_option maxHeartbeats 1600000 in
theorem ro15_e (b off V : Nat) (bs : List Nat) (w : World) (hS : Bs w b off 6 6 bs) (hn : 5 ≤ 6) (hn4 : 6 ≤ 400) (hfn : bs.getD 0 0 = 15) (hV : V = wordAt bs 3) (h6 : 6 ≤ 6) (v1 : 1 ≤ V) (v2 : V ≤ 1968) (hT : 6 = 6 + bs.getD 5 0) (hc : 6 = 6) :
    Calls Try.prog 17 #[.slice (some ⟨b, off, none⟩) 6 6] w fun e w' => OpenEnd bs w e w' := by
  have HT := hid_as hT
  have l6 : decide ((6 : Int) < 6) = false := decide_eq_false (by omega)
  have l1 : decide ((V : Int) < 1) = false := decide_eq_false (by omega)
  have l2 : decide ((1968 : Int) < (V : Int)) = false := decide_eq_false (by omega)
  obtain ⟨x5, hx5⟩ : ∃ x, x = bs.getD 5 0 := ⟨_, rfl⟩
  have hx5l : x5 < 256 := by rw [hx5]; exact hS.bytes.at 5
  have k5 : w.cell? ⟨b, off + 5, none⟩ = some (.int .u8 x5) := by rw [hx5]; exact hS.at 5 (by omega)
  have i5 : (5 : Int) < (6 : Int) := by omega
  have i5' : 5 < 6 := by omega
  have hb5 : b < w.heap.size := lt_of_cell k5
  have l3 : ((6 : Int) == 6 + (x5 : Int)) = true := by rw [beq_iff_eq, hx5]; omega
  have K5C := hid_as k5
  clear k5 hx5
  clear hT
  obtain ⟨A, hA⟩ : ∃ A, A = wordAt bs 1 := ⟨_, rfl⟩
  have hA16 : A < 65536 := by rw [hA]; exact wordAt_lt hS.bytes 1
  have hV16 : V < 65536 := by rw [hV]; exact wordAt_lt hS.bytes 3
  have HA : Hid (A = wordAt bs 1) := hA
  have HV : Hid (V = wordAt bs 3) := hV
  have k0 : w.cell? ⟨b, off, none⟩ = some (.int .u8 15) := by have h := hS.at 0 (by omega); rw [hfn] at h; exact h
  have hcap : 6 ≤ 6 := hS.cap
  have HS : Hid (Bs w b off 6 6 bs) := hS
  have HFN : Hid (bs.getD 0 0 = 15) := hfn
  clear hS hfn hA hV
  have hb : b < w.heap.size := lt_of_cell k0
  have hb1 : b < w.heap.size + 1 := by omega
  have hbn : ¬ (w.heap.size + 1 = b) := by omega
  have T1 := fun (W : World) (h : Below w.heap.size w W) => HS.out.atw 1 1 rfl (by omega) (by omega) W h
  rw [← HA.out] at T1
  have T1 := hid_as T1
  have l5 : decide ((6 : Int) < 5) = false := decide_eq_false (by omega)
  have i0 : (0 : Int) < (6 : Int) := by omega
  have j5 : 0 < 6 := by omega
  go_enter Try.func17, Try.ntmps17
  go_upto_region 3 with fail
  go_cut [4] from 10 (fun s4 wx => s4 = .pointer (some ⟨w.heap.size + 1, 0, none⟩) ∧ ∃ d, wx = ((w.alloc (.cells #[.int .u8 0, .int .u16 0, .int .u16 0, .int .u16 0, .slice none 0 0, .slice none 0 0] 26)).alloc (.cells #[.int .u8 15, .int .u16 A, .int .u16 0, .int .u16 0, .slice none 0 0, .slice none 0 0] 26)).drewN d)
  case first =>
    have hsz : Hid (w.heap.size + 1 = (w.alloc (.cells #[.int .u8 0, .int .u16 0, .int .u16 0, .int .u16 0, .slice none 0 0, .slice none 0 0] 26)).heap.size) := show _ = _ by simp
    go_region_held3 (fun w' => w'.cell? ⟨b, off, none⟩ = some (.int .u8 15)) (simp [World.cell?_alloc_past, World.cell?_setCell_far, hb, hb1, k0, hbn]) (first | (go_at_call 41; with_reducible refine (T1.out _ ?_).mono ?_; (first | exact (below_new (Below.refl _ _) _).drew | exact (below_new (below_new (Below.refl _ _) _) _).drew); rintro e w' ⟨rfl, d, hw⟩; subst w'))
    all_goals (go_wp2_with fail; go_meet; refine And.intro rfl ?_; apply Exists.intro; first | rw [alloc_drewN] | rw [six_set _ _ _ hsz.out] | exact Eq.refl _)
  obtain ⟨rfl, d, hwc⟩ := hcut
  obtain ⟨z0, z2, k3, hs3⟩ := after_cut2 hwc
  have K3 : Hid (Below w.heap.size w wc) := k3
  have S3 : Hid (Bs wc b off 6 6 bs) := HS.out.below k3
  clear hwc k3 k0 hb1
  have T3 := S3.out.atw 3 3 rfl (by omega) (by omega) wc (Below.refl _ _)
  rw [← HV.out] at T3
  have T3 := hid_as T3
  go_wp2_with fail
  refine T3.out.mono ?_
  rintro e w2 ⟨rfl, d2, hw2⟩
  have Z0 : Hid (w2.heap[w.heap.size]? = some (.cells #[.int .u8 0, .int .u16 0, .int .u16 0, .int .u16 0, .slice none 0 0, .slice none 0 0] 26 (0, 0))) := by rw [hw2]; exact z0
  have Z2 : Hid (w2.heap[w.heap.size + 1]? = some (.cells #[.int .u8 15, .int .u16 A, .int .u16 0, .int .u16 0, .slice none 0 0, .slice none 0 0] 26 (0, 0))) := by rw [hw2]; exact z2
  have K2 : Hid (Below w.heap.size w w2) := by rw [hw2]; exact below_drewN K3.out _
  have hs2 : w.heap.size + 1 < w2.heap.size := by rw [hw2]; exact hs3
  have S2 : Hid (Bs w2 b off 6 6 bs) := HS.out.below K2.out
  clear hw2 T3 T1 z0 z2 K3 S3 hs3
  have k5 : w2.cell? ⟨b, off + 5, none⟩ = some (.int .u8 x5) := (K2.out.cell (p := ⟨b, off + 5, none⟩) hb).trans K5C.out
  have RB := rbits_c (V : Int) (show Sl w2 (.slice (some ⟨b, off, none⟩) 0 0) (u8s (bs.drop 6)) by rw [List.drop_eq_nil_of_le (by have := HS.out.len; omega)]; exact Or.inl ⟨rfl, _, _, rfl, fun h => by simp at h⟩)
  rw [show cut (V : Int) = V by unfold cut; omega] at RB
  have RB := hid_as RB
  obtain ⟨⟨c0, c1, c2, c3, c4, c5⟩, hf2⟩ := block6 Z2.out
  obtain ⟨⟨r0, r1, r2, r3, r4, r5⟩, hf0⟩ := block6 Z0.out
  have f0 := hf2 0
  have f1 := hf2 1
  have f2 := hf2 2
  have f3 := hf2 3
  have f4 := hf2 4
  have f5 := hf2 5
  have g0 := hf0 0
  have g1 := hf0 1
  have g2 := hf0 2
  have g3 := hf0 3
  have g4 := hf0 4
  have g5 := hf0 5
  clear hf0 hf2
  go_wp2_with fail
  refine RB.out.mono ?_
  rintro e w3 ⟨v3, rfl, own3, k3⟩
  obtain ⟨so, sc, hv⟩ := own_shape2 own3
  subst hv
  have OWN : Hid (w3.ownsRow w2.heap.size 4 1 (.slice so V sc) V (bls (ub (bs.drop 6) V))) := own3
  have Y00 := (k3.block w.heap.size (by omega)).trans Z0.out
  have Y02 := (k3.block (w.heap.size + 1) hs2).trans Z2.out
  have K30 : Hid (Below w.heap.size w w3) := below_and K2.out k3
  have hs30 : w2.heap.size ≤ w3.heap.size := k3.size
  clear own3 k3 RB k5 c0 c1 c2 c3 c4 c5 r0 r1 r2 r3 r4 r5 f0 f1 f2 f3 f4 f5 g0 g1 g2 g3 g4 g5
  obtain ⟨⟨c0, c1, c2, c3, c4, c5⟩, hf2⟩ := block6 Y02
  obtain ⟨⟨r0, r1, r2, r3, r4, r5⟩, hf0⟩ := block6 Y00
  have f0 := hf2 0
  have f1 := hf2 1
  have f2 := hf2 2
  have f3 := hf2 3
  have f4 := hf2 4
  have f5 := hf2 5
  have g0 := hf0 0
  have g1 := hf0 1
  have g2 := hf0 2
  have g3 := hf0 3
  have g4 := hf0 4
  have g5 := hf0 5
  clear hf0 hf2
  go_wp2_with fail
  generalize hY : World.setCell w3 _ _ = Y
  have b0 : Y.cell? ⟨w.heap.size + 1, 0, none⟩ = some (.int .u8 15) := by rw [← hY]; exact set_else c0 (by decide)
  have b1 : Y.cell? ⟨w.heap.size + 1, 1, none⟩ = some (.int .u16 A) := by rw [← hY]; exact set_else c1 (by decide)
  have b2 : Y.cell? ⟨w.heap.size + 1, 2, none⟩ = some (.int .u16 0) := by rw [← hY]; exact set_else c2 (by decide)
  have b3 : Y.cell? ⟨w.heap.size + 1, 3, none⟩ = some (.int .u16 0) := by rw [← hY]; exact set_else c3 (by decide)
  have b4 : Y.cell? ⟨w.heap.size + 1, 4, none⟩ = some (.slice so V sc) := by rw [← hY]; exact set_same c4
  have b5 : Y.cell? ⟨w.heap.size + 1, 5, none⟩ = some (.slice none 0 0) := by rw [← hY]; exact set_else c5 (by decide)
  have Y0 : Hid (Y.heap[w.heap.size]? = some (.cells #[.int .u8 0, .int .u16 0, .int .u16 0, .int .u16 0, .slice none 0 0, .slice none 0 0] 26 (0, 0))) := by rw [← hY]; exact (Below.heap_setCell _ _ _ _ (by simp)).trans Y00
  have KY : Hid (Below w.heap.size w Y) := by rw [← hY]; exact Below.setCell K30.out (by simp) _
  have hGY : w.heap.size + 1 < Y.heap.size := lt_of_cell b0
  have HQ : Hid (IsRqN (w.heap.size + 1) Y (.agg #[.int .u8 15, .int .u16 A, .int .u16 0, .int .u16 0, .slice so V sc, .slice none 0 0]) ⟨15, A, 0, 0, ub (bs.drop 6) V, []⟩) := by rw [← hY]; exact ⟨rq_ok (by decide) hA16 (by decide) (by decide) no_words, _, _, rfl, own_sl (own_set OWN.out (p := ⟨w.heap.size + 1, 4, none⟩) (by simp; omega) _), Sl.nil _, new_own OWN.out (by omega), new_nil⟩
  have RT : Hid (RTook bs ⟨15, A, 0, 0, ub (bs.drop 6) V, []⟩ true) := ⟨by show (ub (bs.drop 6) V).length ≤ 2500; rw [ub_length]; omega, by simp, fun hr => by have h := ((took_15 ⟨HS.out.len, hn, by rw [HS.out.len]; exact hr.2.1, HFN.out, HA.out, HV.out⟩ ((pl_15 hn (by rw [HS.out.len]; exact hr.2.1)).1 ((Says.iff ⟨HS.out.len, hn, by rw [HS.out.len]; exact hr.2.1, HFN.out, HA.out, HV.out⟩).1 hr)).1).1 hr).2; rw [show min V 2000 = V by omega] at h; exact h, HFN.out.symm, by simp⟩
  clear hY c0 c1 c2 c3 c4 c5 r0 r1 r2 r3 r4 r5 f0 f1 f2 f3 f4 f5 g0 g1 g2 g3 g4 g5 Z0 Z2
  clear Y00 Y02
  have RQ := hid_as (ref_request HQ.out.plain RT.out.bits RT.out.regs)
  refine RQ.out.mono ?_
  rintro e w4 ⟨k4, hend⟩
  have K4 : Hid (Below w.heap.size w w4) := below_and KY.out k4
  have K5 : Hid (Below Y.heap.size Y w4) := k4
  have y0 := (k4.block w.heap.size (by omega)).trans Y0.out
  have S4 : Hid (Bs w4 b off 6 6 bs) := HS.out.below K4.out
  have B4 := (Box.mk b0 b1 b2 b3 b4 b5).below k4 hGY
  clear RQ b0 b1 b2 b3 b4 b5 k4
  obtain ⟨b0, b1, b2, b3, b4, b5⟩ := B4
  obtain ⟨⟨r0, r1, r2, r3, r4, r5⟩, hf0⟩ := block6 y0
  have g0 := hf0 0
  have g1 := hf0 1
  have g2 := hf0 2
  have g3 := hf0 3
  have g4 := hf0 4
  have g5 := hf0 5
  clear y0 hf0
  rcases hend with ⟨hf, y, rfl, owny⟩ | ⟨hf, rfl⟩
  case inr =>
    have HF := hid_as hf
    clear hf
    go_wp2
    have BF := set_box (Box.mk r0 r1 r2 r3 r4 r5) (.int .u8 0) (.int .u16 0) (.int .u16 0) (.int .u16 0) (.slice none 0 0) (.slice none 0 0)
    obtain ⟨e0, e1, e2, e3, e4, e5⟩ := BF
    refine bodyPost_ret (v := .tuple #[.agg #[.int .u8 0, .int .u16 0, .int .u16 0, .int .u16 0, .slice none 0 0, .slice none 0 0], .int .i64 30]) (by simp [results, Try.results17, go_sem, e0, e1, e2, e3, e4, e5]) rfl ⟨below_six K4.out (Nat.le_refl _) _ _ _ _ _ _, Or.inr ⟨fun hr => HF.out (by rw [RT.out.read hr]; exact read_fits hr), rfl⟩⟩
  have HF := hid_as hf
  obtain ⟨yo, yc, hy⟩ := (own_sl owny).shape
  rw [u8s_len] at hy
  have OY := hid_as (own_sl owny)
  subst hy
  obtain ⟨ag, hag⟩ : ∃ ag, ag = reqBytes ⟨15, A, 0, 0, ub (bs.drop 6) V, []⟩ := ⟨_, rfl⟩
  rw [← hag] at OY ⊢
  have HNE : Hid (ag.length ≠ 6) := by
    unfold Hid
    rw [hag]
    simp [reqBytes, tail, wd, pack_length, ub_length]
    unfold packed
    omega
  have HAG := hid_as hag
  clear hag owny hf
  by_cases hl : ag.length = 6
  case neg =>
    have hl' : ((ag.length : Int) == (6 : Int)) = false := by rw [beq_eq_false_iff_ne]; omega
    have HL := hid_as hl
    clear hl
    go_wp2
    have BF := set_box (Box.mk r0 r1 r2 r3 r4 r5) (.int .u8 0) (.int .u16 0) (.int .u16 0) (.int .u16 0) (.slice none 0 0) (.slice none 0 0)
    obtain ⟨e0, e1, e2, e3, e4, e5⟩ := BF
    refine bodyPost_ret (v := .tuple #[.agg #[.int .u8 0, .int .u16 0, .int .u16 0, .int .u16 0, .slice none 0 0, .slice none 0 0], .int .i64 30]) (by simp [results, Try.results17, go_sem, e0, e1, e2, e3, e4, e5]) rfl ⟨below_six K4.out (Nat.le_refl _) _ _ _ _ _ _, Or.inr ⟨fun hr => HL.out (by rw [HAG.out, (RT.out.yes HS.out.bytes hr).1]; exact HS.out.len.symm), rfl⟩⟩
  exact absurd hl HNE.out
set_option linter.unusedSimpArgs false in
set_option linter.unusedVariables false in
set_option maxRecDepth 100000 in
set_option maxHeartbeats 1600000 in
theorem ro15_y (b off n cap V : Nat) (bs : List Nat) (w : World) (hS : Bs w b off n cap bs) (hn : 5 ≤ n) (hn4 : n ≤ 400) (hfn : bs.getD 0 0 = 15) (hV : V = wordAt bs 3) (h6 : 6 ≤ n) (v1 : 1 ≤ V) (v2 : V ≤ 1968) (hT : n = 6 + bs.getD 5 0) (hc : cap ≠ 6) :
    Calls Try.prog 17 #[.slice (some ⟨b, off, none⟩) n cap] w fun e w' => OpenEnd bs w e w' := by
  have HT := hid_as hT
  have l6 : decide ((n : Int) < 6) = false := decide_eq_false (by omega)
  have l1 : decide ((V : Int) < 1) = false := decide_eq_false (by omega)
  have l2 : decide ((1968 : Int) < (V : Int)) = false := decide_eq_false (by omega)
  obtain ⟨x5, hx5⟩ : ∃ x, x = bs.getD 5 0 := ⟨_, rfl⟩
  have hx5l : x5 < 256 := by rw [hx5]; exact hS.bytes.at 5
  have k5 : w.cell? ⟨b, off + 5, none⟩ = some (.int .u8 x5) := by rw [hx5]; exact hS.at 5 (by omega)
  have i5 : (5 : Int) < (n : Int) := by omega
  have i5' : 5 < n := by omega
  have hb5 : b < w.heap.size := lt_of_cell k5
  have l3 : ((n : Int) == 6 + (x5 : Int)) = true := by rw [beq_iff_eq, hx5]; omega
  have K5C := hid_as k5
  clear k5 hx5
  clear hT
  obtain ⟨A, hA⟩ : ∃ A, A = wordAt bs 1 := ⟨_, rfl⟩
  have hA16 : A < 65536 := by rw [hA]; exact wordAt_lt hS.bytes 1
  have hV16 : V < 65536 := by rw [hV]; exact wordAt_lt hS.bytes 3
  have HA : Hid (A = wordAt bs 1) := hA
  have HV : Hid (V = wordAt bs 3) := hV
  have k0 : w.cell? ⟨b, off, none⟩ = some (.int .u8 15) := by have h := hS.at 0 (by omega); rw [hfn] at h; exact h
  have hcap : n ≤ cap := hS.cap
  have HS : Hid (Bs w b off n cap bs) := hS
  have HFN : Hid (bs.getD 0 0 = 15) := hfn
  clear hS hfn hA hV
  have hb : b < w.heap.size := lt_of_cell k0
  have hb1 : b < w.heap.size + 1 := by omega
  have hbn : ¬ (w.heap.size + 1 = b) := by omega
  have T1 := fun (W : World) (h : Below w.heap.size w W) => HS.out.atw 1 1 rfl (by omega) (by omega) W h
  rw [← HA.out] at T1
  have T1 := hid_as T1
  have l5 : decide ((n : Int) < 5) = false := decide_eq_false (by omega)
  have i0 : (0 : Int) < (n : Int) := by omega
  have j5 : 0 < n := by omega
  go_enter Try.func17, Try.ntmps17
  go_upto_region 3 with fail
  go_cut [4] from 10 (fun s4 wx => s4 = .pointer (some ⟨w.heap.size + 1, 0, none⟩) ∧ ∃ d, wx = ((w.alloc (.cells #[.int .u8 0, .int .u16 0, .int .u16 0, .int .u16 0, .slice none 0 0, .slice none 0 0] 26)).alloc (.cells #[.int .u8 15, .int .u16 A, .int .u16 0, .int .u16 0, .slice none 0 0, .slice none 0 0] 26)).drewN d)
  case first =>
    have hsz : Hid (w.heap.size + 1 = (w.alloc (.cells #[.int .u8 0, .int .u16 0, .int .u16 0, .int .u16 0, .slice none 0 0, .slice none 0 0] 26)).heap.size) := show _ = _ by simp
    go_region_held3 (fun w' => w'.cell? ⟨b, off, none⟩ = some (.int .u8 15)) (simp [World.cell?_alloc_past, World.cell?_setCell_far, hb, hb1, k0, hbn]) (first | (go_at_call 41; with_reducible refine (T1.out _ ?_).mono ?_; (first | exact (below_new (Below.refl _ _) _).drew | exact (below_new (below_new (Below.refl _ _) _) _).drew); rintro e w' ⟨rfl, d, hw⟩; subst w'))
    all_goals (go_wp2_with fail; go_meet; refine And.intro rfl ?_; apply Exists.intro; first | rw [alloc_drewN] | rw [six_set _ _ _ hsz.out] | exact Eq.refl _)
  obtain ⟨rfl, d, hwc⟩ := hcut
  obtain ⟨z0, z2, k3, hs3⟩ := after_cut2 hwc
  have K3 : Hid (Below w.heap.size w wc) := k3
  have S3 : Hid (Bs wc b off n cap bs) := HS.out.below k3
  clear hwc k3 k0 hb1
  have T3 := S3.out.atw 3 3 rfl (by omega) (by omega) wc (Below.refl _ _)
  rw [← HV.out] at T3
  have T3 := hid_as T3
  go_wp2_with fail
  refine T3.out.mono ?_
  rintro e w2 ⟨rfl, d2, hw2⟩
  have Z0 : Hid (w2.heap[w.heap.size]? = some (.cells #[.int .u8 0, .int .u16 0, .int .u16 0, .int .u16 0, .slice none 0 0, .slice none 0 0] 26 (0, 0))) := by rw [hw2]; exact z0
  have Z2 : Hid (w2.heap[w.heap.size + 1]? = some (.cells #[.int .u8 15, .int .u16 A, .int .u16 0, .int .u16 0, .slice none 0 0, .slice none 0 0] 26 (0, 0))) := by rw [hw2]; exact z2
  have K2 : Hid (Below w.heap.size w w2) := by rw [hw2]; exact below_drewN K3.out _
  have hs2 : w.heap.size + 1 < w2.heap.size := by rw [hw2]; exact hs3
  have S2 : Hid (Bs w2 b off n cap bs) := HS.out.below K2.out
  clear hw2 T3 T1 z0 z2 K3 S3 hs3
  have k5 : w2.cell? ⟨b, off + 5, none⟩ = some (.int .u8 x5) := (K2.out.cell (p := ⟨b, off + 5, none⟩) hb).trans K5C.out
  have m1 : 6 ≤ n := by omega
  have m2 : (6 : Int) ≤ (n : Int) := by omega
  have m3 : ¬ cap = 6 := hc
  have RB := rbits_c (V : Int) (S2.out.drop 6 (by omega)).sl
  rw [show cut (V : Int) = V by unfold cut; omega] at RB
  have RB := hid_as RB
  obtain ⟨⟨c0, c1, c2, c3, c4, c5⟩, hf2⟩ := block6 Z2.out
  obtain ⟨⟨r0, r1, r2, r3, r4, r5⟩, hf0⟩ := block6 Z0.out
  have f0 := hf2 0
  have f1 := hf2 1
  have f2 := hf2 2
  have f3 := hf2 3
  have f4 := hf2 4
  have f5 := hf2 5
  have g0 := hf0 0
  have g1 := hf0 1
  have g2 := hf0 2
  have g3 := hf0 3
  have g4 := hf0 4
  have g5 := hf0 5
  clear hf0 hf2
  go_wp2_with fail
  refine RB.out.mono ?_
  rintro e w3 ⟨v3, rfl, own3, k3⟩
  obtain ⟨so, sc, hv⟩ := own_shape2 own3
  subst hv
  have OWN : Hid (w3.ownsRow w2.heap.size 4 1 (.slice so V sc) V (bls (ub (bs.drop 6) V))) := own3
  have Y00 := (k3.block w.heap.size (by omega)).trans Z0.out
  have Y02 := (k3.block (w.heap.size + 1) hs2).trans Z2.out
  have K30 : Hid (Below w.heap.size w w3) := below_and K2.out k3
  have hs30 : w2.heap.size ≤ w3.heap.size := k3.size
  clear own3 k3 RB k5 c0 c1 c2 c3 c4 c5 r0 r1 r2 r3 r4 r5 f0 f1 f2 f3 f4 f5 g0 g1 g2 g3 g4 g5
  obtain ⟨⟨c0, c1, c2, c3, c4, c5⟩, hf2⟩ := block6 Y02
  obtain ⟨⟨r0, r1, r2, r3, r4, r5⟩, hf0⟩ := block6 Y00
  have f0 := hf2 0
  have f1 := hf2 1
  have f2 := hf2 2
  have f3 := hf2 3
  have f4 := hf2 4
  have f5 := hf2 5
  have g0 := hf0 0
  have g1 := hf0 1
  have g2 := hf0 2
  have g3 := hf0 3
  have g4 := hf0 4
  have g5 := hf0 5
  clear hf0 hf2
  go_wp2_with fail
  generalize hY : World.setCell w3 _ _ = Y
  have b0 : Y.cell? ⟨w.heap.size + 1, 0, none⟩ = some (.int .u8 15) := by rw [← hY]; exact set_else c0 (by decide)
  have b1 : Y.cell? ⟨w.heap.size + 1, 1, none⟩ = some (.int .u16 A) := by rw [← hY]; exact set_else c1 (by decide)
  have b2 : Y.cell? ⟨w.heap.size + 1, 2, none⟩ = some (.int .u16 0) := by rw [← hY]; exact set_else c2 (by decide)
  have b3 : Y.cell? ⟨w.heap.size + 1, 3, none⟩ = some (.int .u16 0) := by rw [← hY]; exact set_else c3 (by decide)
  have b4 : Y.cell? ⟨w.heap.size + 1, 4, none⟩ = some (.slice so V sc) := by rw [← hY]; exact set_same c4
  have b5 : Y.cell? ⟨w.heap.size + 1, 5, none⟩ = some (.slice none 0 0) := by rw [← hY]; exact set_else c5 (by decide)
  have Y0 : Hid (Y.heap[w.heap.size]? = some (.cells #[.int .u8 0, .int .u16 0, .int .u16 0, .int .u16 0, .slice none 0 0, .slice none 0 0] 26 (0, 0))) := by rw [← hY]; exact (Below.heap_setCell _ _ _ _ (by simp)).trans Y00
  have KY : Hid (Below w.heap.size w Y) := by rw [← hY]; exact Below.setCell K30.out (by simp) _
  have hGY : w.heap.size + 1 < Y.heap.size := lt_of_cell b0
  have HQ : Hid (IsRqN (w.heap.size + 1) Y (.agg #[.int .u8 15, .int .u16 A, .int .u16 0, .int .u16 0, .slice so V sc, .slice none 0 0]) ⟨15, A, 0, 0, ub (bs.drop 6) V, []⟩) := by rw [← hY]; exact ⟨rq_ok (by decide) hA16 (by decide) (by decide) no_words, _, _, rfl, own_sl (own_set OWN.out (p := ⟨w.heap.size + 1, 4, none⟩) (by simp; omega) _), Sl.nil _, new_own OWN.out (by omega), new_nil⟩
  have RT : Hid (RTook bs ⟨15, A, 0, 0, ub (bs.drop 6) V, []⟩ true) := ⟨by show (ub (bs.drop 6) V).length ≤ 2500; rw [ub_length]; omega, by simp, fun hr => by have h := ((took_15 ⟨HS.out.len, hn, by rw [HS.out.len]; exact hr.2.1, HFN.out, HA.out, HV.out⟩ ((pl_15 hn (by rw [HS.out.len]; exact hr.2.1)).1 ((Says.iff ⟨HS.out.len, hn, by rw [HS.out.len]; exact hr.2.1, HFN.out, HA.out, HV.out⟩).1 hr)).1).1 hr).2; rw [show min V 2000 = V by omega] at h; exact h, HFN.out.symm, by simp⟩
  clear hY c0 c1 c2 c3 c4 c5 r0 r1 r2 r3 r4 r5 f0 f1 f2 f3 f4 f5 g0 g1 g2 g3 g4 g5 Z0 Z2
  clear Y00 Y02
  have RQ := hid_as (ref_request HQ.out.plain RT.out.bits RT.out.regs)
  refine RQ.out.mono ?_
  rintro e w4 ⟨k4, hend⟩
  have K4 : Hid (Below w.heap.size w w4) := below_and KY.out k4
  have K5 : Hid (Below Y.heap.size Y w4) := k4
  have y0 := (k4.block w.heap.size (by omega)).trans Y0.out
  have S4 : Hid (Bs w4 b off n cap bs) := HS.out.below K4.out
  have B4 := (Box.mk b0 b1 b2 b3 b4 b5).below k4 hGY
  clear RQ b0 b1 b2 b3 b4 b5 k4
  obtain ⟨b0, b1, b2, b3, b4, b5⟩ := B4
  obtain ⟨⟨r0, r1, r2, r3, r4, r5⟩, hf0⟩ := block6 y0
  have g0 := hf0 0
  have g1 := hf0 1
  have g2 := hf0 2
  have g3 := hf0 3
  have g4 := hf0 4
  have g5 := hf0 5
  clear y0 hf0
  rcases hend with ⟨hf, y, rfl, owny⟩ | ⟨hf, rfl⟩
  case inr =>
    have HF := hid_as hf
    clear hf
    go_wp2
    have BF := set_box (Box.mk r0 r1 r2 r3 r4 r5) (.int .u8 0) (.int .u16 0) (.int .u16 0) (.int .u16 0) (.slice none 0 0) (.slice none 0 0)
    obtain ⟨e0, e1, e2, e3, e4, e5⟩ := BF
    refine bodyPost_ret (v := .tuple #[.agg #[.int .u8 0, .int .u16 0, .int .u16 0, .int .u16 0, .slice none 0 0, .slice none 0 0], .int .i64 30]) (by simp [results, Try.results17, go_sem, e0, e1, e2, e3, e4, e5]) rfl ⟨below_six K4.out (Nat.le_refl _) _ _ _ _ _ _, Or.inr ⟨fun hr => HF.out (by rw [RT.out.read hr]; exact read_fits hr), rfl⟩⟩
  have HF := hid_as hf
  obtain ⟨yo, yc, hy⟩ := (own_sl owny).shape
  rw [u8s_len] at hy
  have OY := hid_as (own_sl owny)
  subst hy
  obtain ⟨ag, hag⟩ : ∃ ag, ag = reqBytes ⟨15, A, 0, 0, ub (bs.drop 6) V, []⟩ := ⟨_, rfl⟩
  rw [← hag] at OY ⊢
  have HAG := hid_as hag
  clear hag owny hf
  by_cases hl : ag.length = n
  case neg =>
    have hl' : ((ag.length : Int) == (n : Int)) = false := by rw [beq_eq_false_iff_ne]; omega
    have HL := hid_as hl
    clear hl
    go_wp2
    have BF := set_box (Box.mk r0 r1 r2 r3 r4 r5) (.int .u8 0) (.int .u16 0) (.int .u16 0) (.int .u16 0) (.slice none 0 0) (.slice none 0 0)
    obtain ⟨e0, e1, e2, e3, e4, e5⟩ := BF
    refine bodyPost_ret (v := .tuple #[.agg #[.int .u8 0, .int .u16 0, .int .u16 0, .int .u16 0, .slice none 0 0, .slice none 0 0], .int .i64 30]) (by simp [results, Try.results17, go_sem, e0, e1, e2, e3, e4, e5]) rfl ⟨below_six K4.out (Nat.le_refl _) _ _ _ _ _ _, Or.inr ⟨fun hr => HL.out (by rw [HAG.out, (RT.out.yes HS.out.bytes hr).1]; exact HS.out.len.symm), rfl⟩⟩
  rw [hl] at OY ⊢
  have HL := hid_as hl
  clear hl
  obtain ⟨gy, oy, hyo, hly⟩ : ∃ gy oy, yo = some ⟨gy, oy, none⟩ ∧ Lies w4 gy oy (u8s ag) := by
    rcases OY.out with ⟨h, _⟩ | ⟨b, off, cp, he, _, hc⟩
    · have := congrArg List.length h
      rw [u8s_len, HL.out, List.length_nil] at this
      omega
    · simp only [Value.slice.injEq] at he
      exact ⟨b, off, he.1, hc⟩
  subst hyo
  have LY := hid_as hly
  clear hly OY
  go_wp2
  go_loopw [9] (fun i wr => ∃ k : Nat, k ≤ n ∧ i = .int .i64 k ∧ (∀ j, j < k → ag.getD j 0 = bs.getD j 0 ∨ j + 1 = n) ∧ ∃ d, wr = w4.drewN d) (fun i _ => n - (intOf i).toNat)
  case atStart => exact ⟨0, by omega, rfl, fun j hj => by omega, 0, rfl⟩
  case round =>
    obtain ⟨k, hk, rfl, HT, d, rfl⟩ := hrel
    have HT := hid_as HT
    by_cases hkn : k < n
    case neg =>
      obtain rfl : k = n := by omega
      go_wp2
      have BF := set_box ((Box.mk r0 r1 r2 r3 r4 r5).drewN d) (.int .u8 15) (.int .u16 A) (.int .u16 0) (.int .u16 0) (.slice so V sc) (.slice none 0 0)
      obtain ⟨e0, e1, e2, e3, e4, e5⟩ := BF
      have HR : IsReq bs := RT.out.is HF.out HQ.out.1 ⟨by rw [← HAG.out, HL.out]; exact HS.out.len, fun i hi => by
        have h := HT.out i (by have := HS.out.len; omega)
        rw [← HAG.out]
        exact h.imp_right (fun h => ⟨rfl, by have := HS.out.len; omega⟩)⟩
      refine bodyPost_ret (v := .tuple #[.agg #[.int .u8 15, .int .u16 A, .int .u16 0, .int .u16 0, .slice so V sc, .slice none 0 0], .int .i64 0]) (by simp [results, Try.results17, go_sem, e0, e1, e2, e3, e4, e5]) rfl ⟨below_six (below_drewN K4.out _) (Nat.le_refl _) _ _ _ _ _ _, Or.inl ⟨HR, _, rfl, ?_⟩⟩
      rw [← RT.out.read HR]
      exact HQ.out.six (below_drewN K5.out d) (Nat.lt_succ_self _) _ _ _ _ _ _
    obtain ⟨x, ex⟩ : ∃ x, x = ag.getD k 0 := ⟨_, rfl⟩
    obtain ⟨y, ey⟩ : ∃ y, y = bs.getD k 0 := ⟨_, rfl⟩
    have hcx : w4.cell? ⟨gy, oy + k, none⟩ = some (.int .u8 x) := by rw [ex]; exact LY.out.u8 k (by rw [HL.out]; exact hkn)
    have hcy : w4.cell? ⟨b, off + k, none⟩ = some (.int .u8 y) := by rw [ey]; exact S4.out.at k hkn
    have EX := hid_as ex
    have EY := hid_as ey
    clear ex ey
    by_cases hxy : x = y
    · subst hxy
      go_wp2
      go_quiet (fail)
      go_wp2
      go_roundw
      case rel =>
        refine ⟨k + 1, by omega, by go_num, fun j hj => ?_, _, rfl⟩
        by_cases hjk : j = k
        · subst hjk
          exact Or.inl (EX.out.symm.trans EY.out)
        · exact HT.out j (by omega)
      case measure => simp [intOf]; omega
    · have hne : ((x : Int) == (y : Int)) = false := by rw [beq_eq_false_iff_ne]; omega
      have hne2 : ((x : Int) != (y : Int)) = true := by rw [bne_iff_ne]; omega
      have NE := hid_as hxy
      clear hxy
      have e7 : IntKind.i64.wrap ((n : Int) - 1) = (n : Int) - 1 := by rw [IntKind.wrap_i64]; omega
      by_cases hlast : k + 1 = n
      · have q7 : ((k : Int) == (n : Int) - 1) = true := by rw [beq_iff_eq]; omega
        have HLS := hid_as hlast
        clear hlast
        go_wp2
        go_quiet (fail)
        go_wp2
        go_roundw
        case rel =>
          refine ⟨k + 1, by omega, by go_num, fun j hj => ?_, _, rfl⟩
          by_cases hjk : j = k
          · subst hjk
            exact Or.inr HLS.out
          · exact HT.out j (by omega)
        case measure => simp [intOf]; omega
      · have q7 : ((k : Int) == (n : Int) - 1) = false := by rw [beq_eq_false_iff_ne]; omega
        have HLS := hid_as hlast
        clear hlast
        go_wp2
        go_quiet (fail)
        go_wp2
        have BF := set_box ((Box.mk r0 r1 r2 r3 r4 r5).drewN (d + nq)) (.int .u8 0) (.int .u16 0) (.int .u16 0) (.int .u16 0) (.slice none 0 0) (.slice none 0 0)
        obtain ⟨e0, e1, e2, e3, e4, e5⟩ := BF
        refine bodyPost_ret (v := .tuple #[.agg #[.int .u8 0, .int .u16 0, .int .u16 0, .int .u16 0, .slice none 0 0, .slice none 0 0], .int .i64 30]) (by simp [results, Try.results17, go_sem, e0, e1, e2, e3, e4, e5]) rfl ⟨below_six (below_drewN K4.out _) (Nat.le_refl _) _ _ _ _ _ _, Or.inr ⟨fun hr => ?_, rfl⟩⟩
        have h := (RT.out.yes HS.out.bytes hr).2 k (by rw [← HS.out.len]; exact hkn)
        rw [← HAG.out] at h
        rcases h with h | ⟨h, h2⟩
        · exact NE.out (EX.out.trans (h.trans EY.out.symm))
        · exact HLS.out (h2.trans HS.out.len.symm)
end Go.Proofs.Ytehbbkdiekgpbaa
