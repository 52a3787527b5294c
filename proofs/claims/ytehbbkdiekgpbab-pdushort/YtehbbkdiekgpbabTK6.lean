/- The walk: a request is taken apart: functions 6 and 22. -/
import Derived.Test.YtehbbkdiekgpbabJ3
namespace Go.Proofs.Ytehbbkdiekgpbab
open Go.RowKit
open Pdu
set_option linter.unusedSimpArgs false in
set_option linter.unusedVariables false in
set_option maxRecDepth 100000 in
set_option maxHeartbeats 1600000 in
theorem tk6 (b off n cap V : Nat) (bs : List Nat) (w : World) (hS : Bs w b off n cap bs) (hn : 5 ≤ n) (hn2 : n ≤ 253) (hfn : bs.getD 0 0 = 6) (hV : V = wordAt bs 3)  :
    Calls Try.prog 24 #[.slice (some ⟨b, off, none⟩) n cap] w fun e w' => TookEnd bs w e w' := by
  have HV : Hid (V = wordAt bs 3) := hV
  have hV16 : V < 65536 := by rw [hV]; exact wordAt_lt hS.bytes 3
  clear hV
  obtain ⟨x1, hx1e⟩ : ∃ x, x = bs.getD 1 0 := ⟨_, rfl⟩
  obtain ⟨x2, hx2e⟩ : ∃ x, x = bs.getD 2 0 := ⟨_, rfl⟩
  obtain ⟨A, hA⟩ : ∃ A, A = wordAt bs 1 := ⟨_, rfl⟩
  have hA' : 256 * x1 + x2 = A := by rw [hA, hx1e, hx2e]; rfl
  have hx1 : x1 < 256 := by rw [hx1e]; exact hS.bytes.at 1
  have hx2 : x2 < 256 := by rw [hx2e]; exact hS.bytes.at 2
  have hA16 : A < 65536 := by omega
  have HA : Hid (A = wordAt bs 1) := hA
  have k0 : w.cell? ⟨b, off, none⟩ = some (.int .u8 6) := by have h := hS.at 0 (by omega); rw [hfn] at h; exact h
  have k1 : w.cell? ⟨b, off + 1, none⟩ = some (.int .u8 x1) := by rw [hx1e]; exact hS.at 1 (by omega)
  have k2 : w.cell? ⟨b, off + 2, none⟩ = some (.int .u8 x2) := by rw [hx2e]; exact hS.at 2 (by omega)
  have hcap : n ≤ cap := hS.cap
  have HS : Hid (Bs w b off n cap bs) := hS
  have HFN : Hid (bs.getD 0 0 = 6) := hfn
  clear hS hfn hx1e hx2e hA
  have hb : b < w.heap.size := lt_of_cell k0
  have hb1 : b < w.heap.size + 1 := by omega
  have hb2 : b < w.heap.size + 1 + 1 := by omega
  have hb3 : b < w.heap.size + 1 + 1 + 1 := by omega
  have hin : inside n 5 253 = true := by rw [inside_iff]; omega
  have hwi := withini_c n 5 253 (by decide) (by decide)
  have hwW := fun (W : World) (h1 : W.cell? ⟨b, off + 1, none⟩ = some (.int .u8 x1)) (h2 : W.cell? ⟨b, off + 1 + 1, none⟩ = some (.int .u8 x2)) => word_c b (off + 1) (n - 1) (cap - 1) x1 x2 W (by omega) hx1 hx2 h1 h2
  rw [hA'] at hwW
  clear hA' hx1 hx2
  go_enter Try.func24, Try.ntmps24
  go_upto_region 3 with (go_at_call 34; refine (hwi _).mono ?_; rintro e w' ⟨rfl, hw⟩; subst w'; rw [hin])
  clear hwi hin
  go_cut [4] from 7 (fun s4 wx => s4 = .pointer (some ⟨w.heap.size + 1 + 1, 0, none⟩) ∧ ∃ d, wx = (((w.alloc (.cells #[.int .u8 0, .int .u16 0, .int .u16 0, .int .u16 0, .slice none 0 0, .slice none 0 0] 26)).alloc (.cells #[.int .u16 5, .int .u16 253] 62)).alloc (.cells #[.int .u8 6, .int .u16 A, .int .u16 0, .int .u16 0, .slice none 0 0, .slice none 0 0] 26)).drewN d)
  case first =>
    have hsz : Hid (w.heap.size + 1 + 1 = ((w.alloc (.cells #[.int .u8 0, .int .u16 0, .int .u16 0, .int .u16 0, .slice none 0 0, .slice none 0 0] 26)).alloc (.cells #[.int .u16 5, .int .u16 253] 62)).heap.size) := show _ = _ by simp
    have hbn : ¬ (w.heap.size + 1 + 1 = b) := by omega
    have i0 : (0 : Int) < (n : Int) := by omega
    have i1 : (1 : Int) ≤ (n : Int) := by omega
    have j1 : 1 ≤ n := by omega
    have j2 : 1 < cap := by omega
    have j3 : ¬ cap = 1 := by omega
    have j4 : 1 ≤ cap := by omega
    have j5 : 0 < n := by omega
    go_region_held3 (fun w' => w'.cell? ⟨b, off, none⟩ = some (.int .u8 6)) (simp [World.cell?_alloc_past, World.cell?_setCell_far, hb, hb1, hb2, k0, hbn]) (first | (go_at_call 36; refine (hwW _ ?_ ?_).mono ?_; (simp [World.cell?_alloc_past, hb, hb1, hb2, k1]); (simp [World.cell?_alloc_past, hb, hb1, hb2, k2]); rintro e w' ⟨rfl, d, hw⟩; subst w'))
    all_goals (go_wp2_with fail; go_meet; refine And.intro rfl ?_; apply Exists.intro; first | rw [alloc_drewN] | rw [six_set _ _ _ hsz.out] | exact Eq.refl _)
  obtain ⟨rfl, d, hwc⟩ := hcut
  obtain ⟨z0, z2, k3, hs3⟩ := after_cut hwc
  have K3 : Hid (Below w.heap.size w wc) := k3
  have Z0 : Hid (wc.heap[w.heap.size]? = some (.cells #[.int .u8 0, .int .u16 0, .int .u16 0, .int .u16 0, .slice none 0 0, .slice none 0 0] 26 (0, 0))) := z0
  have Z2 : Hid (wc.heap[w.heap.size + 1 + 1]? = some (.cells #[.int .u8 6, .int .u16 A, .int .u16 0, .int .u16 0, .slice none 0 0, .slice none 0 0] 26 (0, 0))) := z2
  have S3 : Hid (Bs wc b off n cap bs) := HS.out.below k3
  clear hwW hwc z0 z2 k3 k0 k1 k2 hb1 hb2 hb3
  have h3 : ¬ cap = 3 := by omega
  have h3' : 3 ≤ n := by omega
  have h3i : (3 : Int) ≤ (n : Int) := by omega
  have h6e : ((((n - 3 : Nat) : Int) % 2) == 0) = decide ((n - 3) % 2 = 0) := by rw [Bool.eq_iff_iff]; simp; omega
  have T := hid_as (words_c (S3.out.drop 3 h3').bytes (S3.out.drop 3 h3').sl (by have := (S3.out.drop 3 h3').len; omega))
  obtain ⟨⟨c0, c1, c2, c3, c4, c5⟩, hf2⟩ := block6 Z2.out
  obtain ⟨⟨r0, r1, r2, r3, r4, r5⟩, hf0⟩ := block6 Z0.out
  have f0 := hf2 0
  have f1 := hf2 1
  have f2 := hf2 2
  have f3 := hf2 3
  have f4 := hf2 4
  have f5 := hf2 5
  have g0 := hf0 0
  have g1 := hf0 1
  have g2 := hf0 2
  have g3 := hf0 3
  have g4 := hf0 4
  have g5 := hf0 5
  clear hf0 hf2
  go_wp2_with fail
  refine T.out.mono ?_
  rintro e w2 ⟨v2, rfl, own2, k2⟩
  obtain ⟨so, sc, hv⟩ := own_shape2 own2
  subst hv
  have Y0 := (k2.block w.heap.size (by omega)).trans Z0.out
  have Y2 := (k2.block (w.heap.size + 1 + 1) hs3).trans Z2.out
  have K2 : Hid (Below w.heap.size w w2) := below_and K3.out k2
  have OWN : Hid (w2.ownsRow wc.heap.size 22 1 (.slice so (ws (bs.drop 3)).length sc) (ws (bs.drop 3)).length (u16s (ws (bs.drop 3)))) := own2
  clear own2 k2 T c0 c1 c2 c3 c4 c5 r0 r1 r2 r3 r4 r5 f0 f1 f2 f3 f4 f5 g0 g1 g2 g3 g4 g5
  obtain ⟨⟨c0, c1, c2, c3, c4, c5⟩, hf2⟩ := block6 Y2
  obtain ⟨⟨r0, r1, r2, r3, r4, r5⟩, hf0⟩ := block6 Y0
  have f0 := hf2 0
  have f1 := hf2 1
  have f2 := hf2 2
  have f3 := hf2 3
  have f4 := hf2 4
  have f5 := hf2 5
  have g0 := hf0 0
  have g1 := hf0 1
  have g2 := hf0 2
  have g3 := hf0 3
  have g4 := hf0 4
  have g5 := hf0 5
  clear hf0 hf2
  clear Y0 Y2
  go_wp2
  have BF := set_box ((Box.mk r0 r1 r2 r3 r4 r5).far (p := ⟨w.heap.size + 1 + 1, 5, none⟩) (by simp; omega) (.slice so (ws (bs.drop 3)).length sc)) (.int .u8 6) (.int .u16 A) (.int .u16 0) (.int .u16 0) (.slice none 0 0) (.slice so (ws (bs.drop 3)).length sc)
  obtain ⟨e0, e1, e2, e3, e4, e5⟩ := BF
  refine bodyPost_ret (v := .tuple #[.agg #[.int .u8 6, .int .u16 A, .int .u16 0, .int .u16 0, .slice none 0 0, .slice so (ws (bs.drop 3)).length sc], .bool (decide ((n - 3) % 2 = 0))]) (by simp [results, Try.results24, go_sem, e0, e1, e2, e3, e4, e5]) rfl ⟨?_, _, _, ⟨6, A, 0, 0, [], ws (bs.drop 3)⟩, rfl, ⟨rq_ok (by decide) hA16 (by decide) (by decide) (ws_words (HS.out.bytes.drop 3)), _, _, rfl, Sl.nil _, own_sl (own_six (own_set OWN.out (p := ⟨w.heap.size + 1 + 1, 5, none⟩) (by simp; omega) _) (by omega) _ _ _ _ _ _), new_nil, new_own OWN.out (by omega)⟩, ?_⟩
  · exact below_six (Below.setCell K2.out (by simp; omega) _) (Nat.le_refl _) _ _ _ _ _ _
  · exact took_6 ⟨HS.out.len, hn, hn2, HFN.out, HA.out, HV.out⟩ (by omega) (decide_eq_true_iff)
set_option linter.unusedSimpArgs false in
set_option linter.unusedVariables false in
set_option maxRecDepth 100000 in
set_option maxHeartbeats 1600000 in
theorem tk22 (b off n cap V : Nat) (bs : List Nat) (w : World) (hS : Bs w b off n cap bs) (hn : 5 ≤ n) (hn2 : n ≤ 253) (hfn : bs.getD 0 0 = 22) (hV : V = wordAt bs 3)  :
    Calls Try.prog 24 #[.slice (some ⟨b, off, none⟩) n cap] w fun e w' => TookEnd bs w e w' := by
  have HV : Hid (V = wordAt bs 3) := hV
  have hV16 : V < 65536 := by rw [hV]; exact wordAt_lt hS.bytes 3
  clear hV
  obtain ⟨x1, hx1e⟩ : ∃ x, x = bs.getD 1 0 := ⟨_, rfl⟩
  obtain ⟨x2, hx2e⟩ : ∃ x, x = bs.getD 2 0 := ⟨_, rfl⟩
  obtain ⟨A, hA⟩ : ∃ A, A = wordAt bs 1 := ⟨_, rfl⟩
  have hA' : 256 * x1 + x2 = A := by rw [hA, hx1e, hx2e]; rfl
  have hx1 : x1 < 256 := by rw [hx1e]; exact hS.bytes.at 1
  have hx2 : x2 < 256 := by rw [hx2e]; exact hS.bytes.at 2
  have hA16 : A < 65536 := by omega
  have HA : Hid (A = wordAt bs 1) := hA
  have k0 : w.cell? ⟨b, off, none⟩ = some (.int .u8 22) := by have h := hS.at 0 (by omega); rw [hfn] at h; exact h
  have k1 : w.cell? ⟨b, off + 1, none⟩ = some (.int .u8 x1) := by rw [hx1e]; exact hS.at 1 (by omega)
  have k2 : w.cell? ⟨b, off + 2, none⟩ = some (.int .u8 x2) := by rw [hx2e]; exact hS.at 2 (by omega)
  have hcap : n ≤ cap := hS.cap
  have HS : Hid (Bs w b off n cap bs) := hS
  have HFN : Hid (bs.getD 0 0 = 22) := hfn
  clear hS hfn hx1e hx2e hA
  have hb : b < w.heap.size := lt_of_cell k0
  have hb1 : b < w.heap.size + 1 := by omega
  have hb2 : b < w.heap.size + 1 + 1 := by omega
  have hb3 : b < w.heap.size + 1 + 1 + 1 := by omega
  have hin : inside n 5 253 = true := by rw [inside_iff]; omega
  have hwi := withini_c n 5 253 (by decide) (by decide)
  have hwW := fun (W : World) (h1 : W.cell? ⟨b, off + 1, none⟩ = some (.int .u8 x1)) (h2 : W.cell? ⟨b, off + 1 + 1, none⟩ = some (.int .u8 x2)) => word_c b (off + 1) (n - 1) (cap - 1) x1 x2 W (by omega) hx1 hx2 h1 h2
  rw [hA'] at hwW
  clear hA' hx1 hx2
  go_enter Try.func24, Try.ntmps24
  go_upto_region 3 with (go_at_call 34; refine (hwi _).mono ?_; rintro e w' ⟨rfl, hw⟩; subst w'; rw [hin])
  clear hwi hin
  go_cut [4] from 7 (fun s4 wx => s4 = .pointer (some ⟨w.heap.size + 1 + 1, 0, none⟩) ∧ ∃ d, wx = (((w.alloc (.cells #[.int .u8 0, .int .u16 0, .int .u16 0, .int .u16 0, .slice none 0 0, .slice none 0 0] 26)).alloc (.cells #[.int .u16 5, .int .u16 253] 62)).alloc (.cells #[.int .u8 22, .int .u16 A, .int .u16 0, .int .u16 0, .slice none 0 0, .slice none 0 0] 26)).drewN d)
  case first =>
    have hsz : Hid (w.heap.size + 1 + 1 = ((w.alloc (.cells #[.int .u8 0, .int .u16 0, .int .u16 0, .int .u16 0, .slice none 0 0, .slice none 0 0] 26)).alloc (.cells #[.int .u16 5, .int .u16 253] 62)).heap.size) := show _ = _ by simp
    have hbn : ¬ (w.heap.size + 1 + 1 = b) := by omega
    have i0 : (0 : Int) < (n : Int) := by omega
    have i1 : (1 : Int) ≤ (n : Int) := by omega
    have j1 : 1 ≤ n := by omega
    have j2 : 1 < cap := by omega
    have j3 : ¬ cap = 1 := by omega
    have j4 : 1 ≤ cap := by omega
    have j5 : 0 < n := by omega
    go_region_held3 (fun w' => w'.cell? ⟨b, off, none⟩ = some (.int .u8 22)) (simp [World.cell?_alloc_past, World.cell?_setCell_far, hb, hb1, hb2, k0, hbn]) (first | (go_at_call 36; refine (hwW _ ?_ ?_).mono ?_; (simp [World.cell?_alloc_past, hb, hb1, hb2, k1]); (simp [World.cell?_alloc_past, hb, hb1, hb2, k2]); rintro e w' ⟨rfl, d, hw⟩; subst w'))
    all_goals (go_wp2_with fail; go_meet; refine And.intro rfl ?_; apply Exists.intro; first | rw [alloc_drewN] | rw [six_set _ _ _ hsz.out] | exact Eq.refl _)
  obtain ⟨rfl, d, hwc⟩ := hcut
  obtain ⟨z0, z2, k3, hs3⟩ := after_cut hwc
  have K3 : Hid (Below w.heap.size w wc) := k3
  have Z0 : Hid (wc.heap[w.heap.size]? = some (.cells #[.int .u8 0, .int .u16 0, .int .u16 0, .int .u16 0, .slice none 0 0, .slice none 0 0] 26 (0, 0))) := z0
  have Z2 : Hid (wc.heap[w.heap.size + 1 + 1]? = some (.cells #[.int .u8 22, .int .u16 A, .int .u16 0, .int .u16 0, .slice none 0 0, .slice none 0 0] 26 (0, 0))) := z2
  have S3 : Hid (Bs wc b off n cap bs) := HS.out.below k3
  clear hwW hwc z0 z2 k3 k0 k1 k2 hb1 hb2 hb3
  have h3 : ¬ cap = 3 := by omega
  have h3' : 3 ≤ n := by omega
  have h3i : (3 : Int) ≤ (n : Int) := by omega
  have h6e : ((((n - 3 : Nat) : Int) % 2) == 0) = decide ((n - 3) % 2 = 0) := by rw [Bool.eq_iff_iff]; simp; omega
  have T := hid_as (words_c (S3.out.drop 3 h3').bytes (S3.out.drop 3 h3').sl (by have := (S3.out.drop 3 h3').len; omega))
  obtain ⟨⟨c0, c1, c2, c3, c4, c5⟩, hf2⟩ := block6 Z2.out
  obtain ⟨⟨r0, r1, r2, r3, r4, r5⟩, hf0⟩ := block6 Z0.out
  have f0 := hf2 0
  have f1 := hf2 1
  have f2 := hf2 2
  have f3 := hf2 3
  have f4 := hf2 4
  have f5 := hf2 5
  have g0 := hf0 0
  have g1 := hf0 1
  have g2 := hf0 2
  have g3 := hf0 3
  have g4 := hf0 4
  have g5 := hf0 5
  clear hf0 hf2
  go_wp2_with fail
  refine T.out.mono ?_
  rintro e w2 ⟨v2, rfl, own2, k2⟩
  obtain ⟨so, sc, hv⟩ := own_shape2 own2
  subst hv
  have Y0 := (k2.block w.heap.size (by omega)).trans Z0.out
  have Y2 := (k2.block (w.heap.size + 1 + 1) hs3).trans Z2.out
  have K2 : Hid (Below w.heap.size w w2) := below_and K3.out k2
  have OWN : Hid (w2.ownsRow wc.heap.size 22 1 (.slice so (ws (bs.drop 3)).length sc) (ws (bs.drop 3)).length (u16s (ws (bs.drop 3)))) := own2
  clear own2 k2 T c0 c1 c2 c3 c4 c5 r0 r1 r2 r3 r4 r5 f0 f1 f2 f3 f4 f5 g0 g1 g2 g3 g4 g5
  obtain ⟨⟨c0, c1, c2, c3, c4, c5⟩, hf2⟩ := block6 Y2
  obtain ⟨⟨r0, r1, r2, r3, r4, r5⟩, hf0⟩ := block6 Y0
  have f0 := hf2 0
  have f1 := hf2 1
  have f2 := hf2 2
  have f3 := hf2 3
  have f4 := hf2 4
  have f5 := hf2 5
  have g0 := hf0 0
  have g1 := hf0 1
  have g2 := hf0 2
  have g3 := hf0 3
  have g4 := hf0 4
  have g5 := hf0 5
  clear hf0 hf2
  clear Y0 Y2
  go_wp2
  have BF := set_box ((Box.mk r0 r1 r2 r3 r4 r5).far (p := ⟨w.heap.size + 1 + 1, 5, none⟩) (by simp; omega) (.slice so (ws (bs.drop 3)).length sc)) (.int .u8 22) (.int .u16 A) (.int .u16 0) (.int .u16 0) (.slice none 0 0) (.slice so (ws (bs.drop 3)).length sc)
  obtain ⟨e0, e1, e2, e3, e4, e5⟩ := BF
  refine bodyPost_ret (v := .tuple #[.agg #[.int .u8 22, .int .u16 A, .int .u16 0, .int .u16 0, .slice none 0 0, .slice so (ws (bs.drop 3)).length sc], .bool (decide ((n - 3) % 2 = 0))]) (by simp [results, Try.results24, go_sem, e0, e1, e2, e3, e4, e5]) rfl ⟨?_, _, _, ⟨22, A, 0, 0, [], ws (bs.drop 3)⟩, rfl, ⟨rq_ok (by decide) hA16 (by decide) (by decide) (ws_words (HS.out.bytes.drop 3)), _, _, rfl, Sl.nil _, own_sl (own_six (own_set OWN.out (p := ⟨w.heap.size + 1 + 1, 5, none⟩) (by simp; omega) _) (by omega) _ _ _ _ _ _), new_nil, new_own OWN.out (by omega)⟩, ?_⟩
  · exact below_six (Below.setCell K2.out (by simp; omega) _) (Nat.le_refl _) _ _ _ _ _ _
  · exact took_6 ⟨HS.out.len, hn, hn2, HFN.out, HA.out, HV.out⟩ (by omega) (decide_eq_true_iff)
end Go.Proofs.Ytehbbkdiekgpbab
