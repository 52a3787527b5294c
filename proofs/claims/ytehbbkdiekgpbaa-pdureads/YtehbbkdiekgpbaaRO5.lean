/- The walk: the reference reads a request: functions 5 and 6. -/
import Derived.Test.YtehbbkdiekgpbaaTKAll
import Derived.Test.YtehbbkdiekgpbaaRReqAll
import Derived.Test.YtehbbkdiekgpbaaROB
namespace Go.Proofs.Ytehbbkdiekgpbaa
open Go.RowKit
open Pdu
set_option linter.unusedSimpArgs false in
set_option linter.unusedVariables false in
set_option maxRecDepth 100000 in
set_option maxHeartbeats 1600000 in
theorem ro5 (b off n cap V : Nat) (bs : List Nat) (w : World) (hS : Bs w b off n cap bs) (hn : 5 ≤ n) (hn4 : n ≤ 400) (hfn : bs.getD 0 0 = 5) (hV : V = wordAt bs 3) :
    Calls Try.prog 17 #[.slice (some ⟨b, off, none⟩) n cap] w fun e w' => OpenEnd bs w e w' := by
  obtain ⟨on, hon⟩ : ∃ on, on = decide (V = 65280) := ⟨_, rfl⟩
  have hon1 : ((V : Int) == 65280) = on := by rw [hon, Bool.eq_iff_iff]; simp; omega
  have HON := hid_as hon
  clear hon
  obtain ⟨A, hA⟩ : ∃ A, A = wordAt bs 1 := ⟨_, rfl⟩
  have hA16 : A < 65536 := by rw [hA]; exact wordAt_lt hS.bytes 1
  have hV16 : V < 65536 := by rw [hV]; exact wordAt_lt hS.bytes 3
  have HA : Hid (A = wordAt bs 1) := hA
  have HV : Hid (V = wordAt bs 3) := hV
  have k0 : w.cell? ⟨b, off, none⟩ = some (.int .u8 5) := by have h := hS.at 0 (by omega); rw [hfn] at h; exact h
  have hcap : n ≤ cap := hS.cap
  have HS : Hid (Bs w b off n cap bs) := hS
  have HFN : Hid (bs.getD 0 0 = 5) := hfn
  clear hS hfn hA hV
  have hb : b < w.heap.size := lt_of_cell k0
  have hb1 : b < w.heap.size + 1 := by omega
  have hbn : ¬ (w.heap.size + 1 = b) := by omega
  have T1 := fun (W : World) (h : Below w.heap.size w W) => HS.out.atw 1 1 rfl (by omega) (by omega) W h
  rw [← HA.out] at T1
  have T1 := hid_as T1
  have l5 : decide ((n : Int) < 5) = false := decide_eq_false (by omega)
  have i0 : (0 : Int) < (n : Int) := by omega
  have j5 : 0 < n := by omega
  go_enter Try.func17, Try.ntmps17
  go_upto_region 3 with fail
  go_cut [4] from 10 (fun s4 wx => s4 = .pointer (some ⟨w.heap.size + 1, 0, none⟩) ∧ ∃ d, wx = ((w.alloc (.cells #[.int .u8 0, .int .u16 0, .int .u16 0, .int .u16 0, .slice none 0 0, .slice none 0 0] 26)).alloc (.cells #[.int .u8 5, .int .u16 A, .int .u16 0, .int .u16 0, .slice none 0 0, .slice none 0 0] 26)).drewN d)
  case first =>
    have hsz : Hid (w.heap.size + 1 = (w.alloc (.cells #[.int .u8 0, .int .u16 0, .int .u16 0, .int .u16 0, .slice none 0 0, .slice none 0 0] 26)).heap.size) := show _ = _ by simp
    go_region_held3 (fun w' => w'.cell? ⟨b, off, none⟩ = some (.int .u8 5)) (simp [World.cell?_alloc_past, World.cell?_setCell_far, hb, hb1, k0, hbn]) (first | (go_at_call 41; with_reducible refine (T1.out _ ?_).mono ?_; (first | exact (below_new (Below.refl _ _) _).drew | exact (below_new (below_new (Below.refl _ _) _) _).drew); rintro e w' ⟨rfl, d, hw⟩; subst w'))
    all_goals (go_wp2_with fail; go_meet; refine And.intro rfl ?_; apply Exists.intro; first | rw [alloc_drewN] | rw [six_set _ _ _ hsz.out] | exact Eq.refl _)
  obtain ⟨rfl, d, hwc⟩ := hcut
  obtain ⟨z0, z2, k3, hs3⟩ := after_cut2 hwc
  have K3 : Hid (Below w.heap.size w wc) := k3
  have S3 : Hid (Bs wc b off n cap bs) := HS.out.below k3
  clear hwc k3 k0 hb1
  have T3 := S3.out.atw 3 3 rfl (by omega) (by omega) wc (Below.refl _ _)
  rw [← HV.out] at T3
  have T3 := hid_as T3
  go_wp2_with fail
  refine T3.out.mono ?_
  rintro e w2 ⟨rfl, d2, hw2⟩
  have Z0 : Hid (w2.heap[w.heap.size]? = some (.cells #[.int .u8 0, .int .u16 0, .int .u16 0, .int .u16 0, .slice none 0 0, .slice none 0 0] 26 (0, 0))) := by rw [hw2]; exact z0
  have Z2 : Hid (w2.heap[w.heap.size + 1]? = some (.cells #[.int .u8 5, .int .u16 A, .int .u16 0, .int .u16 0, .slice none 0 0, .slice none 0 0] 26 (0, 0))) := by rw [hw2]; exact z2
  have K2 : Hid (Below w.heap.size w w2) := by rw [hw2]; exact below_drewN K3.out _
  have hs2 : w.heap.size + 1 < w2.heap.size := by rw [hw2]; exact hs3
  have S2 : Hid (Bs w2 b off n cap bs) := HS.out.below K2.out
  clear hw2 T3 T1 z0 z2 K3 S3 hs3
  obtain ⟨⟨c0, c1, c2, c3, c4, c5⟩, hf2⟩ := block6 Z2.out
  obtain ⟨⟨r0, r1, r2, r3, r4, r5⟩, hf0⟩ := block6 Z0.out
  have f0 := hf2 0
  have f1 := hf2 1
  have f2 := hf2 2
  have f3 := hf2 3
  have f4 := hf2 4
  have f5 := hf2 5
  have g0 := hf0 0
  have g1 := hf0 1
  have g2 := hf0 2
  have g3 := hf0 3
  have g4 := hf0 4
  have g5 := hf0 5
  clear hf0 hf2
  have hsU : ∀ (a : Addr) (v : Value), (w2.setCell a v).heap.size = w2.heap.size := fun a v => by simp [World.setCell]
  go_wp2_with fail
  generalize hY : World.alloc (World.setCell w2 _ _) _ = Y
  have b0 : Y.cell? ⟨w.heap.size + 1, 0, none⟩ = some (.int .u8 5) := by rw [← hY]; exact (World.cell?_alloc_past _ _ _ (by rw [hsU]; exact hs2)).trans (set_else c0 (by decide))
  have b1 : Y.cell? ⟨w.heap.size + 1, 1, none⟩ = some (.int .u16 A) := by rw [← hY]; exact (World.cell?_alloc_past _ _ _ (by rw [hsU]; exact hs2)).trans (set_else c1 (by decide))
  have b2 : Y.cell? ⟨w.heap.size + 1, 2, none⟩ = some (.int .u16 0) := by rw [← hY]; exact (World.cell?_alloc_past _ _ _ (by rw [hsU]; exact hs2)).trans (set_else c2 (by decide))
  have b3 : Y.cell? ⟨w.heap.size + 1, 3, none⟩ = some (.int .u16 0) := by rw [← hY]; exact (World.cell?_alloc_past _ _ _ (by rw [hsU]; exact hs2)).trans (set_else c3 (by decide))
  have b4 : Y.cell? ⟨w.heap.size + 1, 4, none⟩ = some (.slice (some ⟨w2.heap.size, 0, none⟩) 1 1) := by rw [← hY]; exact (World.cell?_alloc_past _ _ _ (by rw [hsU]; exact hs2)).trans (set_same c4)
  have b5 : Y.cell? ⟨w.heap.size + 1, 5, none⟩ = some (.slice none 0 0) := by rw [← hY]; exact (World.cell?_alloc_past _ _ _ (by rw [hsU]; exact hs2)).trans (set_else c5 (by decide))
  have Y0 : Hid (Y.heap[w.heap.size]? = some (.cells #[.int .u8 0, .int .u16 0, .int .u16 0, .int .u16 0, .slice none 0 0, .slice none 0 0] 26 (0, 0))) := by rw [← hY]; exact (Below.heap_alloc _ _ _ (by rw [hsU]; omega)).trans ((Below.heap_setCell _ _ _ _ (by simp)).trans Z0.out)
  have KY : Hid (Below w.heap.size w Y) := by rw [← hY]; exact below_new (Below.setCell K2.out (by simp) _) _
  have hGY : w.heap.size + 1 < Y.heap.size := lt_of_cell b0
  have HQ : Hid (IsRqN (w.heap.size + 1) Y (.agg #[.int .u8 5, .int .u16 A, .int .u16 0, .int .u16 0, .slice (some ⟨w2.heap.size, 0, none⟩) 1 1, .slice none 0 0]) ⟨5, A, 0, 0, [on], []⟩) := by rw [← hY]; exact ⟨rq_ok (by decide) hA16 (by decide) (by decide) no_words, _, _, rfl, sl_one (lit_cell hsU), Sl.nil _, new_at (by omega), new_nil⟩
  have RT : Hid (RTook bs ⟨5, A, 0, 0, [on], []⟩ false) := ⟨by simp, by simp, fun hr => by have h := ((took_5 (t := true) ⟨HS.out.len, hn, by rw [HS.out.len]; exact hr.2.1, HFN.out, HA.out, HV.out⟩ (by have h5 := pl_5.1 ((Says.iff ⟨HS.out.len, hn, by rw [HS.out.len]; exact hr.2.1, HFN.out, HA.out, HV.out⟩).1 hr); simp [h5])).1 hr).2; rw [← HON.out] at h; exact h, HFN.out.symm, by simp⟩
  clear hY c0 c1 c2 c3 c4 c5 r0 r1 r2 r3 r4 r5 f0 f1 f2 f3 f4 f5 g0 g1 g2 g3 g4 g5 Z0 Z2
  have RQ := hid_as (ref_request HQ.out.plain RT.out.bits RT.out.regs)
  refine RQ.out.mono ?_
  rintro e w4 ⟨k4, hend⟩
  have K4 : Hid (Below w.heap.size w w4) := below_and KY.out k4
  have K5 : Hid (Below Y.heap.size Y w4) := k4
  have y0 := (k4.block w.heap.size (by omega)).trans Y0.out
  have S4 : Hid (Bs w4 b off n cap bs) := HS.out.below K4.out
  have B4 := (Box.mk b0 b1 b2 b3 b4 b5).below k4 hGY
  clear RQ b0 b1 b2 b3 b4 b5 k4
  obtain ⟨b0, b1, b2, b3, b4, b5⟩ := B4
  obtain ⟨⟨r0, r1, r2, r3, r4, r5⟩, hf0⟩ := block6 y0
  have g0 := hf0 0
  have g1 := hf0 1
  have g2 := hf0 2
  have g3 := hf0 3
  have g4 := hf0 4
  have g5 := hf0 5
  clear y0 hf0
  rcases hend with ⟨hf, y, rfl, owny⟩ | ⟨hf, rfl⟩
  case inr =>
    have HF := hid_as hf
    clear hf
    go_wp2
    have BF := set_box (Box.mk r0 r1 r2 r3 r4 r5) (.int .u8 0) (.int .u16 0) (.int .u16 0) (.int .u16 0) (.slice none 0 0) (.slice none 0 0)
    obtain ⟨e0, e1, e2, e3, e4, e5⟩ := BF
    refine bodyPost_ret (v := .tuple #[.agg #[.int .u8 0, .int .u16 0, .int .u16 0, .int .u16 0, .slice none 0 0, .slice none 0 0], .int .i64 30]) (by simp [results, Try.results17, go_sem, e0, e1, e2, e3, e4, e5]) rfl ⟨below_six K4.out (Nat.le_refl _) _ _ _ _ _ _, Or.inr ⟨fun hr => HF.out (by rw [RT.out.read hr]; exact read_fits hr), rfl⟩⟩
  have HF := hid_as hf
  obtain ⟨yo, yc, hy⟩ := (own_sl owny).shape
  rw [u8s_len] at hy
  have OY := hid_as (own_sl owny)
  subst hy
  obtain ⟨ag, hag⟩ : ∃ ag, ag = reqBytes ⟨5, A, 0, 0, [on], []⟩ := ⟨_, rfl⟩
  rw [← hag] at OY ⊢
  have HAG := hid_as hag
  clear hag owny hf
  by_cases hl : ag.length = n
  case neg =>
    have hl' : ((ag.length : Int) == (n : Int)) = false := by rw [beq_eq_false_iff_ne]; omega
    have HL := hid_as hl
    clear hl
    go_wp2
    have BF := set_box (Box.mk r0 r1 r2 r3 r4 r5) (.int .u8 0) (.int .u16 0) (.int .u16 0) (.int .u16 0) (.slice none 0 0) (.slice none 0 0)
    obtain ⟨e0, e1, e2, e3, e4, e5⟩ := BF
    refine bodyPost_ret (v := .tuple #[.agg #[.int .u8 0, .int .u16 0, .int .u16 0, .int .u16 0, .slice none 0 0, .slice none 0 0], .int .i64 30]) (by simp [results, Try.results17, go_sem, e0, e1, e2, e3, e4, e5]) rfl ⟨below_six K4.out (Nat.le_refl _) _ _ _ _ _ _, Or.inr ⟨fun hr => HL.out (by rw [HAG.out, (RT.out.yes HS.out.bytes hr).1]; exact HS.out.len.symm), rfl⟩⟩
  rw [hl] at OY ⊢
  have HL := hid_as hl
  clear hl
  obtain ⟨gy, oy, hyo, hly⟩ : ∃ gy oy, yo = some ⟨gy, oy, none⟩ ∧ Lies w4 gy oy (u8s ag) := by
    rcases OY.out with ⟨h, _⟩ | ⟨b, off, cp, he, _, hc⟩
    · have := congrArg List.length h
      rw [u8s_len, HL.out, List.length_nil] at this
      omega
    · simp only [Value.slice.injEq] at he
      exact ⟨b, off, he.1, hc⟩
  subst hyo
  have LY := hid_as hly
  clear hly OY
  go_wp2
  go_loopw [9] (fun i wr => ∃ k : Nat, k ≤ n ∧ i = .int .i64 k ∧ (∀ j, j < k → ag.getD j 0 = bs.getD j 0) ∧ ∃ d, wr = w4.drewN d) (fun i _ => n - (intOf i).toNat)
  case atStart => exact ⟨0, by omega, rfl, fun j hj => by omega, 0, rfl⟩
  case round =>
    obtain ⟨k, hk, rfl, HT, d, rfl⟩ := hrel
    have HT := hid_as HT
    by_cases hkn : k < n
    case neg =>
      obtain rfl : k = n := by omega
      go_wp2
      have BF := set_box ((Box.mk r0 r1 r2 r3 r4 r5).drewN d) (.int .u8 5) (.int .u16 A) (.int .u16 0) (.int .u16 0) (.slice (some ⟨w2.heap.size, 0, none⟩) 1 1) (.slice none 0 0)
      obtain ⟨e0, e1, e2, e3, e4, e5⟩ := BF
      have HR : IsReq bs := RT.out.is HF.out HQ.out.1 ⟨by rw [← HAG.out, HL.out]; exact HS.out.len, fun i hi => by
        have h := HT.out i (by have := HS.out.len; omega)
        rw [← HAG.out]
        exact Or.inl h⟩
      refine bodyPost_ret (v := .tuple #[.agg #[.int .u8 5, .int .u16 A, .int .u16 0, .int .u16 0, .slice (some ⟨w2.heap.size, 0, none⟩) 1 1, .slice none 0 0], .int .i64 0]) (by simp [results, Try.results17, go_sem, e0, e1, e2, e3, e4, e5]) rfl ⟨below_six (below_drewN K4.out _) (Nat.le_refl _) _ _ _ _ _ _, Or.inl ⟨HR, _, rfl, ?_⟩⟩
      rw [← RT.out.read HR]
      exact HQ.out.six (below_drewN K5.out d) (Nat.lt_succ_self _) _ _ _ _ _ _
    obtain ⟨x, ex⟩ : ∃ x, x = ag.getD k 0 := ⟨_, rfl⟩
    obtain ⟨y, ey⟩ : ∃ y, y = bs.getD k 0 := ⟨_, rfl⟩
    have hcx : w4.cell? ⟨gy, oy + k, none⟩ = some (.int .u8 x) := by rw [ex]; exact LY.out.u8 k (by rw [HL.out]; exact hkn)
    have hcy : w4.cell? ⟨b, off + k, none⟩ = some (.int .u8 y) := by rw [ey]; exact S4.out.at k hkn
    have EX := hid_as ex
    have EY := hid_as ey
    clear ex ey
    by_cases hxy : x = y
    · subst hxy
      go_wp2
      go_quiet (fail)
      go_wp2
      go_roundw
      case rel =>
        refine ⟨k + 1, by omega, by go_num, fun j hj => ?_, _, rfl⟩
        by_cases hjk : j = k
        · subst hjk
          exact EX.out.symm.trans EY.out
        · exact HT.out j (by omega)
      case measure => simp [intOf]; omega
    · have hne : ((x : Int) == (y : Int)) = false := by rw [beq_eq_false_iff_ne]; omega
      have hne2 : ((x : Int) != (y : Int)) = true := by rw [bne_iff_ne]; omega
      have NE := hid_as hxy
      clear hxy
      go_wp2
      go_quiet (fail)
      go_wp2
      have BF := set_box ((Box.mk r0 r1 r2 r3 r4 r5).drewN (d + nq)) (.int .u8 0) (.int .u16 0) (.int .u16 0) (.int .u16 0) (.slice none 0 0) (.slice none 0 0)
      obtain ⟨e0, e1, e2, e3, e4, e5⟩ := BF
      refine bodyPost_ret (v := .tuple #[.agg #[.int .u8 0, .int .u16 0, .int .u16 0, .int .u16 0, .slice none 0 0, .slice none 0 0], .int .i64 30]) (by simp [results, Try.results17, go_sem, e0, e1, e2, e3, e4, e5]) rfl ⟨below_six (below_drewN K4.out _) (Nat.le_refl _) _ _ _ _ _ _, Or.inr ⟨fun hr => ?_, rfl⟩⟩
      have h := (RT.out.yes HS.out.bytes hr).2 k (by rw [← HS.out.len]; exact hkn)
      rw [← HAG.out] at h
      rcases h with h | ⟨h, h2⟩
      · exact NE.out (EX.out.trans (h.trans EY.out.symm))
      · cases h
set_option linter.unusedSimpArgs false in
set_option linter.unusedVariables false in
set_option maxRecDepth 100000 in
set_option maxHeartbeats 1600000 in
theorem ro6 (b off n cap V : Nat) (bs : List Nat) (w : World) (hS : Bs w b off n cap bs) (hn : 5 ≤ n) (hn4 : n ≤ 400) (hfn : bs.getD 0 0 = 6) (hV : V = wordAt bs 3) :
    Calls Try.prog 17 #[.slice (some ⟨b, off, none⟩) n cap] w fun e w' => OpenEnd bs w e w' := by
  obtain ⟨A, hA⟩ : ∃ A, A = wordAt bs 1 := ⟨_, rfl⟩
  have hA16 : A < 65536 := by rw [hA]; exact wordAt_lt hS.bytes 1
  have hV16 : V < 65536 := by rw [hV]; exact wordAt_lt hS.bytes 3
  have HA : Hid (A = wordAt bs 1) := hA
  have HV : Hid (V = wordAt bs 3) := hV
  have k0 : w.cell? ⟨b, off, none⟩ = some (.int .u8 6) := by have h := hS.at 0 (by omega); rw [hfn] at h; exact h
  have hcap : n ≤ cap := hS.cap
  have HS : Hid (Bs w b off n cap bs) := hS
  have HFN : Hid (bs.getD 0 0 = 6) := hfn
  clear hS hfn hA hV
  have hb : b < w.heap.size := lt_of_cell k0
  have hb1 : b < w.heap.size + 1 := by omega
  have hbn : ¬ (w.heap.size + 1 = b) := by omega
  have T1 := fun (W : World) (h : Below w.heap.size w W) => HS.out.atw 1 1 rfl (by omega) (by omega) W h
  rw [← HA.out] at T1
  have T1 := hid_as T1
  have l5 : decide ((n : Int) < 5) = false := decide_eq_false (by omega)
  have i0 : (0 : Int) < (n : Int) := by omega
  have j5 : 0 < n := by omega
  go_enter Try.func17, Try.ntmps17
  go_upto_region 3 with fail
  go_cut [4] from 10 (fun s4 wx => s4 = .pointer (some ⟨w.heap.size + 1, 0, none⟩) ∧ ∃ d, wx = ((w.alloc (.cells #[.int .u8 0, .int .u16 0, .int .u16 0, .int .u16 0, .slice none 0 0, .slice none 0 0] 26)).alloc (.cells #[.int .u8 6, .int .u16 A, .int .u16 0, .int .u16 0, .slice none 0 0, .slice none 0 0] 26)).drewN d)
  case first =>
    have hsz : Hid (w.heap.size + 1 = (w.alloc (.cells #[.int .u8 0, .int .u16 0, .int .u16 0, .int .u16 0, .slice none 0 0, .slice none 0 0] 26)).heap.size) := show _ = _ by simp
    go_region_held3 (fun w' => w'.cell? ⟨b, off, none⟩ = some (.int .u8 6)) (simp [World.cell?_alloc_past, World.cell?_setCell_far, hb, hb1, k0, hbn]) (first | (go_at_call 41; with_reducible refine (T1.out _ ?_).mono ?_; (first | exact (below_new (Below.refl _ _) _).drew | exact (below_new (below_new (Below.refl _ _) _) _).drew); rintro e w' ⟨rfl, d, hw⟩; subst w'))
    all_goals (go_wp2_with fail; go_meet; refine And.intro rfl ?_; apply Exists.intro; first | rw [alloc_drewN] | rw [six_set _ _ _ hsz.out] | exact Eq.refl _)
  obtain ⟨rfl, d, hwc⟩ := hcut
  obtain ⟨z0, z2, k3, hs3⟩ := after_cut2 hwc
  have K3 : Hid (Below w.heap.size w wc) := k3
  have S3 : Hid (Bs wc b off n cap bs) := HS.out.below k3
  clear hwc k3 k0 hb1
  have T3 := S3.out.atw 3 3 rfl (by omega) (by omega) wc (Below.refl _ _)
  rw [← HV.out] at T3
  have T3 := hid_as T3
  go_wp2_with fail
  refine T3.out.mono ?_
  rintro e w2 ⟨rfl, d2, hw2⟩
  have Z0 : Hid (w2.heap[w.heap.size]? = some (.cells #[.int .u8 0, .int .u16 0, .int .u16 0, .int .u16 0, .slice none 0 0, .slice none 0 0] 26 (0, 0))) := by rw [hw2]; exact z0
  have Z2 : Hid (w2.heap[w.heap.size + 1]? = some (.cells #[.int .u8 6, .int .u16 A, .int .u16 0, .int .u16 0, .slice none 0 0, .slice none 0 0] 26 (0, 0))) := by rw [hw2]; exact z2
  have K2 : Hid (Below w.heap.size w w2) := by rw [hw2]; exact below_drewN K3.out _
  have hs2 : w.heap.size + 1 < w2.heap.size := by rw [hw2]; exact hs3
  have S2 : Hid (Bs w2 b off n cap bs) := HS.out.below K2.out
  clear hw2 T3 T1 z0 z2 K3 S3 hs3
  obtain ⟨⟨c0, c1, c2, c3, c4, c5⟩, hf2⟩ := block6 Z2.out
  obtain ⟨⟨r0, r1, r2, r3, r4, r5⟩, hf0⟩ := block6 Z0.out
  have f0 := hf2 0
  have f1 := hf2 1
  have f2 := hf2 2
  have f3 := hf2 3
  have f4 := hf2 4
  have f5 := hf2 5
  have g0 := hf0 0
  have g1 := hf0 1
  have g2 := hf0 2
  have g3 := hf0 3
  have g4 := hf0 4
  have g5 := hf0 5
  clear hf0 hf2
  have hsU : ∀ (a : Addr) (v : Value), (w2.setCell a v).heap.size = w2.heap.size := fun a v => by simp [World.setCell]
  go_wp2_with fail
  generalize hY : World.alloc (World.setCell w2 _ _) _ = Y
  have b0 : Y.cell? ⟨w.heap.size + 1, 0, none⟩ = some (.int .u8 6) := by rw [← hY]; exact (World.cell?_alloc_past _ _ _ (by rw [hsU]; exact hs2)).trans (set_else c0 (by decide))
  have b1 : Y.cell? ⟨w.heap.size + 1, 1, none⟩ = some (.int .u16 A) := by rw [← hY]; exact (World.cell?_alloc_past _ _ _ (by rw [hsU]; exact hs2)).trans (set_else c1 (by decide))
  have b2 : Y.cell? ⟨w.heap.size + 1, 2, none⟩ = some (.int .u16 0) := by rw [← hY]; exact (World.cell?_alloc_past _ _ _ (by rw [hsU]; exact hs2)).trans (set_else c2 (by decide))
  have b3 : Y.cell? ⟨w.heap.size + 1, 3, none⟩ = some (.int .u16 0) := by rw [← hY]; exact (World.cell?_alloc_past _ _ _ (by rw [hsU]; exact hs2)).trans (set_else c3 (by decide))
  have b4 : Y.cell? ⟨w.heap.size + 1, 4, none⟩ = some (.slice none 0 0) := by rw [← hY]; exact (World.cell?_alloc_past _ _ _ (by rw [hsU]; exact hs2)).trans (set_else c4 (by decide))
  have b5 : Y.cell? ⟨w.heap.size + 1, 5, none⟩ = some (.slice (some ⟨w2.heap.size, 0, none⟩) 1 1) := by rw [← hY]; exact (World.cell?_alloc_past _ _ _ (by rw [hsU]; exact hs2)).trans (set_same c5)
  have Y0 : Hid (Y.heap[w.heap.size]? = some (.cells #[.int .u8 0, .int .u16 0, .int .u16 0, .int .u16 0, .slice none 0 0, .slice none 0 0] 26 (0, 0))) := by rw [← hY]; exact (Below.heap_alloc _ _ _ (by rw [hsU]; omega)).trans ((Below.heap_setCell _ _ _ _ (by simp)).trans Z0.out)
  have KY : Hid (Below w.heap.size w Y) := by rw [← hY]; exact below_new (Below.setCell K2.out (by simp) _) _
  have hGY : w.heap.size + 1 < Y.heap.size := lt_of_cell b0
  have HQ : Hid (IsRqN (w.heap.size + 1) Y (.agg #[.int .u8 6, .int .u16 A, .int .u16 0, .int .u16 0, .slice none 0 0, .slice (some ⟨w2.heap.size, 0, none⟩) 1 1]) ⟨6, A, 0, 0, [], [V]⟩) := by rw [← hY]; exact ⟨rq_ok (by decide) hA16 (by decide) (by decide) (words_one hV16), _, _, rfl, Sl.nil _, sl_oneW (lit_cell hsU), new_nil, new_at (by omega)⟩
  have RT : Hid (RTook bs ⟨6, A, 0, 0, [], [V]⟩ false) := ⟨by simp, by simp, fun hr => by have h := ((took_6 (t := true) ⟨HS.out.len, hn, by rw [HS.out.len]; exact hr.2.1, HFN.out, HA.out, HV.out⟩ (Or.inl rfl) (by have h5 := ((pl_6 (Or.inl rfl) hn).1 ((Says.iff ⟨HS.out.len, hn, by rw [HS.out.len]; exact hr.2.1, HFN.out, HA.out, HV.out⟩).1 hr)).1; simp [h5])).1 hr).2; rw [← h, ws_two (by have h5 := (isReq_iff bs).1 hr; rw [HFN.out] at h5; unfold IsReqN at h5; omega), ← HV.out], HFN.out.symm, by simp⟩
  clear hY c0 c1 c2 c3 c4 c5 r0 r1 r2 r3 r4 r5 f0 f1 f2 f3 f4 f5 g0 g1 g2 g3 g4 g5 Z0 Z2
  have RQ := hid_as (ref_request HQ.out.plain RT.out.bits RT.out.regs)
  refine RQ.out.mono ?_
  rintro e w4 ⟨k4, hend⟩
  have K4 : Hid (Below w.heap.size w w4) := below_and KY.out k4
  have K5 : Hid (Below Y.heap.size Y w4) := k4
  have y0 := (k4.block w.heap.size (by omega)).trans Y0.out
  have S4 : Hid (Bs w4 b off n cap bs) := HS.out.below K4.out
  have B4 := (Box.mk b0 b1 b2 b3 b4 b5).below k4 hGY
  clear RQ b0 b1 b2 b3 b4 b5 k4
  obtain ⟨b0, b1, b2, b3, b4, b5⟩ := B4
  obtain ⟨⟨r0, r1, r2, r3, r4, r5⟩, hf0⟩ := block6 y0
  have g0 := hf0 0
  have g1 := hf0 1
  have g2 := hf0 2
  have g3 := hf0 3
  have g4 := hf0 4
  have g5 := hf0 5
  clear y0 hf0
  rcases hend with ⟨hf, y, rfl, owny⟩ | ⟨hf, rfl⟩
  case inr =>
    have HF := hid_as hf
    clear hf
    go_wp2
    have BF := set_box (Box.mk r0 r1 r2 r3 r4 r5) (.int .u8 0) (.int .u16 0) (.int .u16 0) (.int .u16 0) (.slice none 0 0) (.slice none 0 0)
    obtain ⟨e0, e1, e2, e3, e4, e5⟩ := BF
    refine bodyPost_ret (v := .tuple #[.agg #[.int .u8 0, .int .u16 0, .int .u16 0, .int .u16 0, .slice none 0 0, .slice none 0 0], .int .i64 30]) (by simp [results, Try.results17, go_sem, e0, e1, e2, e3, e4, e5]) rfl ⟨below_six K4.out (Nat.le_refl _) _ _ _ _ _ _, Or.inr ⟨fun hr => HF.out (by rw [RT.out.read hr]; exact read_fits hr), rfl⟩⟩
  have HF := hid_as hf
  obtain ⟨yo, yc, hy⟩ := (own_sl owny).shape
  rw [u8s_len] at hy
  have OY := hid_as (own_sl owny)
  subst hy
  obtain ⟨ag, hag⟩ : ∃ ag, ag = reqBytes ⟨6, A, 0, 0, [], [V]⟩ := ⟨_, rfl⟩
  rw [← hag] at OY ⊢
  have HAG := hid_as hag
  clear hag owny hf
  by_cases hl : ag.length = n
  case neg =>
    have hl' : ((ag.length : Int) == (n : Int)) = false := by rw [beq_eq_false_iff_ne]; omega
    have HL := hid_as hl
    clear hl
    go_wp2
    have BF := set_box (Box.mk r0 r1 r2 r3 r4 r5) (.int .u8 0) (.int .u16 0) (.int .u16 0) (.int .u16 0) (.slice none 0 0) (.slice none 0 0)
    obtain ⟨e0, e1, e2, e3, e4, e5⟩ := BF
    refine bodyPost_ret (v := .tuple #[.agg #[.int .u8 0, .int .u16 0, .int .u16 0, .int .u16 0, .slice none 0 0, .slice none 0 0], .int .i64 30]) (by simp [results, Try.results17, go_sem, e0, e1, e2, e3, e4, e5]) rfl ⟨below_six K4.out (Nat.le_refl _) _ _ _ _ _ _, Or.inr ⟨fun hr => HL.out (by rw [HAG.out, (RT.out.yes HS.out.bytes hr).1]; exact HS.out.len.symm), rfl⟩⟩
  rw [hl] at OY ⊢
  have HL := hid_as hl
  clear hl
  obtain ⟨gy, oy, hyo, hly⟩ : ∃ gy oy, yo = some ⟨gy, oy, none⟩ ∧ Lies w4 gy oy (u8s ag) := by
    rcases OY.out with ⟨h, _⟩ | ⟨b, off, cp, he, _, hc⟩
    · have := congrArg List.length h
      rw [u8s_len, HL.out, List.length_nil] at this
      omega
    · simp only [Value.slice.injEq] at he
      exact ⟨b, off, he.1, hc⟩
  subst hyo
  have LY := hid_as hly
  clear hly OY
  go_wp2
  go_loopw [9] (fun i wr => ∃ k : Nat, k ≤ n ∧ i = .int .i64 k ∧ (∀ j, j < k → ag.getD j 0 = bs.getD j 0) ∧ ∃ d, wr = w4.drewN d) (fun i _ => n - (intOf i).toNat)
  case atStart => exact ⟨0, by omega, rfl, fun j hj => by omega, 0, rfl⟩
  case round =>
    obtain ⟨k, hk, rfl, HT, d, rfl⟩ := hrel
    have HT := hid_as HT
    by_cases hkn : k < n
    case neg =>
      obtain rfl : k = n := by omega
      go_wp2
      have BF := set_box ((Box.mk r0 r1 r2 r3 r4 r5).drewN d) (.int .u8 6) (.int .u16 A) (.int .u16 0) (.int .u16 0) (.slice none 0 0) (.slice (some ⟨w2.heap.size, 0, none⟩) 1 1)
      obtain ⟨e0, e1, e2, e3, e4, e5⟩ := BF
      have HR : IsReq bs := RT.out.is HF.out HQ.out.1 ⟨by rw [← HAG.out, HL.out]; exact HS.out.len, fun i hi => by
        have h := HT.out i (by have := HS.out.len; omega)
        rw [← HAG.out]
        exact Or.inl h⟩
      refine bodyPost_ret (v := .tuple #[.agg #[.int .u8 6, .int .u16 A, .int .u16 0, .int .u16 0, .slice none 0 0, .slice (some ⟨w2.heap.size, 0, none⟩) 1 1], .int .i64 0]) (by simp [results, Try.results17, go_sem, e0, e1, e2, e3, e4, e5]) rfl ⟨below_six (below_drewN K4.out _) (Nat.le_refl _) _ _ _ _ _ _, Or.inl ⟨HR, _, rfl, ?_⟩⟩
      rw [← RT.out.read HR]
      exact HQ.out.six (below_drewN K5.out d) (Nat.lt_succ_self _) _ _ _ _ _ _
    obtain ⟨x, ex⟩ : ∃ x, x = ag.getD k 0 := ⟨_, rfl⟩
    obtain ⟨y, ey⟩ : ∃ y, y = bs.getD k 0 := ⟨_, rfl⟩
    have hcx : w4.cell? ⟨gy, oy + k, none⟩ = some (.int .u8 x) := by rw [ex]; exact LY.out.u8 k (by rw [HL.out]; exact hkn)
    have hcy : w4.cell? ⟨b, off + k, none⟩ = some (.int .u8 y) := by rw [ey]; exact S4.out.at k hkn
    have EX := hid_as ex
    have EY := hid_as ey
    clear ex ey
    by_cases hxy : x = y
    · subst hxy
      go_wp2
      go_quiet (fail)
      go_wp2
      go_roundw
      case rel =>
        refine ⟨k + 1, by omega, by go_num, fun j hj => ?_, _, rfl⟩
        by_cases hjk : j = k
        · subst hjk
          exact EX.out.symm.trans EY.out
        · exact HT.out j (by omega)
      case measure => simp [intOf]; omega
    · have hne : ((x : Int) == (y : Int)) = false := by rw [beq_eq_false_iff_ne]; omega
      have hne2 : ((x : Int) != (y : Int)) = true := by rw [bne_iff_ne]; omega
      have NE := hid_as hxy
      clear hxy
      go_wp2
      go_quiet (fail)
      go_wp2
      have BF := set_box ((Box.mk r0 r1 r2 r3 r4 r5).drewN (d + nq)) (.int .u8 0) (.int .u16 0) (.int .u16 0) (.int .u16 0) (.slice none 0 0) (.slice none 0 0)
      obtain ⟨e0, e1, e2, e3, e4, e5⟩ := BF
      refine bodyPost_ret (v := .tuple #[.agg #[.int .u8 0, .int .u16 0, .int .u16 0, .int .u16 0, .slice none 0 0, .slice none 0 0], .int .i64 30]) (by simp [results, Try.results17, go_sem, e0, e1, e2, e3, e4, e5]) rfl ⟨below_six (below_drewN K4.out _) (Nat.le_refl _) _ _ _ _ _ _, Or.inr ⟨fun hr => ?_, rfl⟩⟩
      have h := (RT.out.yes HS.out.bytes hr).2 k (by rw [← HS.out.len]; exact hkn)
      rw [← HAG.out] at h
      rcases h with h | ⟨h, h2⟩
      · exact NE.out (EX.out.trans (h.trans EY.out.symm))
      · cases h
end Go.Proofs.Ytehbbkdiekgpbaa
