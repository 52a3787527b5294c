/- The walk: a request is taken apart: function 5. -/
import Derived.Test.YtehbbkdiekgpbabJ3
namespace Go.Proofs.Ytehbbkdiekgpbab
open Go.RowKit
open Pdu
set_option linter.unusedSimpArgs false in
set_option linter.unusedVariables false in
set_option maxRecDepth 100000 in
set_option maxHeartbeats 1600000 in
theorem tk5_n (b off n cap V : Nat) (bs : List Nat) (w : World) (hS : Bs w b off n cap bs) (hn : 5 ≤ n) (hn2 : n ≤ 253) (hfn : bs.getD 0 0 = 5) (hV : V = wordAt bs 3) (hT : n ≠ 5) :
    Calls Try.prog 24 #[.slice (some ⟨b, off, none⟩) n cap] w fun e w' => TookEnd bs w e w' := by
  have HV : Hid (V = wordAt bs 3) := hV
  have hV16 : V < 65536 := by rw [hV]; exact wordAt_lt hS.bytes 3
  clear hV
  have HT := hid_as hT
  have h5 : (((n - 3 : Nat) : Int) == 2) = false := by rw [beq_eq_false_iff_ne]; omega
  obtain ⟨on, hon⟩ : ∃ on, on = decide (V = 65280) := ⟨_, rfl⟩
  have hon1 : ((V : Int) == 65280) = on := by rw [hon, Bool.eq_iff_iff]; simp; omega
  have HON := hid_as hon
  clear hon hT
  obtain ⟨x1, hx1e⟩ : ∃ x, x = bs.getD 1 0 := ⟨_, rfl⟩
  obtain ⟨x2, hx2e⟩ : ∃ x, x = bs.getD 2 0 := ⟨_, rfl⟩
  obtain ⟨A, hA⟩ : ∃ A, A = wordAt bs 1 := ⟨_, rfl⟩
  have hA' : 256 * x1 + x2 = A := by rw [hA, hx1e, hx2e]; rfl
  have hx1 : x1 < 256 := by rw [hx1e]; exact hS.bytes.at 1
  have hx2 : x2 < 256 := by rw [hx2e]; exact hS.bytes.at 2
  have hA16 : A < 65536 := by omega
  have HA : Hid (A = wordAt bs 1) := hA
  have k0 : w.cell? ⟨b, off, none⟩ = some (.int .u8 5) := by have h := hS.at 0 (by omega); rw [hfn] at h; exact h
  have k1 : w.cell? ⟨b, off + 1, none⟩ = some (.int .u8 x1) := by rw [hx1e]; exact hS.at 1 (by omega)
  have k2 : w.cell? ⟨b, off + 2, none⟩ = some (.int .u8 x2) := by rw [hx2e]; exact hS.at 2 (by omega)
  have hcap : n ≤ cap := hS.cap
  have HS : Hid (Bs w b off n cap bs) := hS
  have HFN : Hid (bs.getD 0 0 = 5) := hfn
  clear hS hfn hx1e hx2e hA
  have hb : b < w.heap.size := lt_of_cell k0
  have hb1 : b < w.heap.size + 1 := by omega
  have hb2 : b < w.heap.size + 1 + 1 := by omega
  have hb3 : b < w.heap.size + 1 + 1 + 1 := by omega
  have hin : inside n 5 253 = true := by rw [inside_iff]; omega
  have hwi := withini_c n 5 253 (by decide) (by decide)
  have hwW := fun (W : World) (h1 : W.cell? ⟨b, off + 1, none⟩ = some (.int .u8 x1)) (h2 : W.cell? ⟨b, off + 1 + 1, none⟩ = some (.int .u8 x2)) => word_c b (off + 1) (n - 1) (cap - 1) x1 x2 W (by omega) hx1 hx2 h1 h2
  rw [hA'] at hwW
  clear hA' hx1 hx2
  go_enter Try.func24, Try.ntmps24
  go_upto_region 3 with (go_at_call 34; refine (hwi _).mono ?_; rintro e w' ⟨rfl, hw⟩; subst w'; rw [hin])
  clear hwi hin
  go_cut [4] from 7 (fun s4 wx => s4 = .pointer (some ⟨w.heap.size + 1 + 1, 0, none⟩) ∧ ∃ d, wx = (((w.alloc (.cells #[.int .u8 0, .int .u16 0, .int .u16 0, .int .u16 0, .slice none 0 0, .slice none 0 0] 26)).alloc (.cells #[.int .u16 5, .int .u16 253] 62)).alloc (.cells #[.int .u8 5, .int .u16 A, .int .u16 0, .int .u16 0, .slice none 0 0, .slice none 0 0] 26)).drewN d)
  case first =>
    have hsz : Hid (w.heap.size + 1 + 1 = ((w.alloc (.cells #[.int .u8 0, .int .u16 0, .int .u16 0, .int .u16 0, .slice none 0 0, .slice none 0 0] 26)).alloc (.cells #[.int .u16 5, .int .u16 253] 62)).heap.size) := show _ = _ by simp
    have hbn : ¬ (w.heap.size + 1 + 1 = b) := by omega
    have i0 : (0 : Int) < (n : Int) := by omega
    have i1 : (1 : Int) ≤ (n : Int) := by omega
    have j1 : 1 ≤ n := by omega
    have j2 : 1 < cap := by omega
    have j3 : ¬ cap = 1 := by omega
    have j4 : 1 ≤ cap := by omega
    have j5 : 0 < n := by omega
    go_region_held3 (fun w' => w'.cell? ⟨b, off, none⟩ = some (.int .u8 5)) (simp [World.cell?_alloc_past, World.cell?_setCell_far, hb, hb1, hb2, k0, hbn]) (first | (go_at_call 36; refine (hwW _ ?_ ?_).mono ?_; (simp [World.cell?_alloc_past, hb, hb1, hb2, k1]); (simp [World.cell?_alloc_past, hb, hb1, hb2, k2]); rintro e w' ⟨rfl, d, hw⟩; subst w'))
    all_goals (go_wp2_with fail; go_meet; refine And.intro rfl ?_; apply Exists.intro; first | rw [alloc_drewN] | rw [six_set _ _ _ hsz.out] | exact Eq.refl _)
  obtain ⟨rfl, d, hwc⟩ := hcut
  obtain ⟨z0, z2, k3, hs3⟩ := after_cut hwc
  have K3 : Hid (Below w.heap.size w wc) := k3
  have Z0 : Hid (wc.heap[w.heap.size]? = some (.cells #[.int .u8 0, .int .u16 0, .int .u16 0, .int .u16 0, .slice none 0 0, .slice none 0 0] 26 (0, 0))) := z0
  have Z2 : Hid (wc.heap[w.heap.size + 1 + 1]? = some (.cells #[.int .u8 5, .int .u16 A, .int .u16 0, .int .u16 0, .slice none 0 0, .slice none 0 0] 26 (0, 0))) := z2
  have S3 : Hid (Bs wc b off n cap bs) := HS.out.below k3
  clear hwW hwc z0 z2 k3 k0 k1 k2 hb1 hb2 hb3
  have h3 : ¬ cap = 3 := by omega
  have h3' : 3 ≤ n := by omega
  have h3i : (3 : Int) ≤ (n : Int) := by omega
  have T := S3.out.word 3 (by omega) wc (Below.refl _ _)
  rw [← HV.out] at T
  have T := hid_as T
  obtain ⟨⟨c0, c1, c2, c3, c4, c5⟩, hf2⟩ := block6 Z2.out
  obtain ⟨⟨r0, r1, r2, r3, r4, r5⟩, hf0⟩ := block6 Z0.out
  have f0 := hf2 0
  have f1 := hf2 1
  have f2 := hf2 2
  have f3 := hf2 3
  have f4 := hf2 4
  have f5 := hf2 5
  have g0 := hf0 0
  have g1 := hf0 1
  have g2 := hf0 2
  have g3 := hf0 3
  have g4 := hf0 4
  have g5 := hf0 5
  clear hf0 hf2
  go_wp2_with fail
  refine T.out.mono ?_
  rintro e w2 ⟨rfl, d2, hw2⟩
  have Y0 : w2.heap[w.heap.size]? = some (.cells #[.int .u8 0, .int .u16 0, .int .u16 0, .int .u16 0, .slice none 0 0, .slice none 0 0] 26 (0, 0)) := by rw [hw2]; exact Z0.out
  have Y2 : w2.heap[w.heap.size + 1 + 1]? = some (.cells #[.int .u8 5, .int .u16 A, .int .u16 0, .int .u16 0, .slice none 0 0, .slice none 0 0] 26 (0, 0)) := by rw [hw2]; exact Z2.out
  have K2 : Hid (Below w.heap.size w w2) := by rw [hw2]; exact below_drewN K3.out _
  have hs2 : w.heap.size + 1 + 1 < w2.heap.size := by rw [hw2]; exact hs3
  clear hw2 T c0 c1 c2 c3 c4 c5 r0 r1 r2 r3 r4 r5 f0 f1 f2 f3 f4 f5 g0 g1 g2 g3 g4 g5
  obtain ⟨⟨c0, c1, c2, c3, c4, c5⟩, hf2⟩ := block6 Y2
  obtain ⟨⟨r0, r1, r2, r3, r4, r5⟩, hf0⟩ := block6 Y0
  have f0 := hf2 0
  have f1 := hf2 1
  have f2 := hf2 2
  have f3 := hf2 3
  have f4 := hf2 4
  have f5 := hf2 5
  have g0 := hf0 0
  have g1 := hf0 1
  have g2 := hf0 2
  have g3 := hf0 3
  have g4 := hf0 4
  have g5 := hf0 5
  clear hf0 hf2
  have hlt1 : w.heap.size < w2.heap.size := by omega
  go_wp2
  have hsU : ∀ (a : Addr) (v : Value), (w2.setCell a v).heap.size = w2.heap.size := fun a v => by simp [World.setCell]
  generalize hY : World.alloc (World.setCell w2 _ _) _ = Y
  have b4 : Y.cell? ⟨w.heap.size + 1 + 1, 4, none⟩ = some (.slice (some ⟨w2.heap.size, 0, none⟩) 1 1) := by rw [← hY]; exact (World.cell?_alloc_past _ _ _ (by rw [hsU]; exact hs2)).trans (set_same c4)
  have b0 : Y.cell? ⟨w.heap.size + 1 + 1, 0, none⟩ = some (.int .u8 5) := by rw [← hY]; exact (World.cell?_alloc_past _ _ _ (by rw [hsU]; exact hs2)).trans (set_else c0 (by decide))
  have b1 : Y.cell? ⟨w.heap.size + 1 + 1, 1, none⟩ = some (.int .u16 A) := by rw [← hY]; exact (World.cell?_alloc_past _ _ _ (by rw [hsU]; exact hs2)).trans (set_else c1 (by decide))
  have b2 : Y.cell? ⟨w.heap.size + 1 + 1, 2, none⟩ = some (.int .u16 0) := by rw [← hY]; exact (World.cell?_alloc_past _ _ _ (by rw [hsU]; exact hs2)).trans (set_else c2 (by decide))
  have b3 : Y.cell? ⟨w.heap.size + 1 + 1, 3, none⟩ = some (.int .u16 0) := by rw [← hY]; exact (World.cell?_alloc_past _ _ _ (by rw [hsU]; exact hs2)).trans (set_else c3 (by decide))
  have b5 : Y.cell? ⟨w.heap.size + 1 + 1, 5, none⟩ = some (.slice none 0 0) := by rw [← hY]; exact (World.cell?_alloc_past _ _ _ (by rw [hsU]; exact hs2)).trans (set_else c5 (by decide))
  have bl : Y.cell? ⟨w2.heap.size, 0, none⟩ = some (.bool on) := by
    rw [← hY]
    have h := World.cell?_alloc_new (w2.setCell ⟨w.heap.size + 1 + 1, 4, none⟩ (.slice (some ⟨w2.heap.size, 0, none⟩) 1 1)) #[.bool on] 4 0
    rw [hsU] at h
    exact h
  have y0 : Y.heap[w.heap.size]? = some (.cells #[.int .u8 0, .int .u16 0, .int .u16 0, .int .u16 0, .slice none 0 0, .slice none 0 0] 26 (0, 0)) := by rw [← hY]; exact (Below.heap_alloc _ _ _ (by rw [hsU]; exact hlt1)).trans ((Below.heap_setCell _ _ _ _ (by simp; omega)).trans Y0)
  have KY : Hid (Below w.heap.size w Y) := by rw [← hY]; exact below_new (Below.setCell K2.out (by simp; omega) _) _
  have SY : Hid (Bs Y b off n cap bs) := HS.out.below KY.out
  have hsY : w2.heap.size < Y.heap.size := lt_of_cell bl
  clear hY Y0 Y2 c0 c1 c2 c3 c4 c5 r0 r1 r2 r3 r4 r5 f0 f1 f2 f3 f4 f5 g0 g1 g2 g3 g4 g5
  obtain ⟨⟨r0, r1, r2, r3, r4, r5⟩, hf0⟩ := block6 y0
  have g0 := hf0 0
  have g1 := hf0 1
  have g2 := hf0 2
  have g3 := hf0 3
  have g4 := hf0 4
  have g5 := hf0 5
  clear hf0 y0
  go_quiet (fail)
  go_wp2
  have BF := set_box ((Box.mk r0 r1 r2 r3 r4 r5).drewN nq) (.int .u8 5) (.int .u16 A) (.int .u16 0) (.int .u16 0) (.slice (some ⟨w2.heap.size, 0, none⟩) 1 1) (.slice none 0 0)
  obtain ⟨e0, e1, e2, e3, e4, e5⟩ := BF
  refine bodyPost_ret (v := .tuple #[.agg #[.int .u8 5, .int .u16 A, .int .u16 0, .int .u16 0, .slice (some ⟨w2.heap.size, 0, none⟩) 1 1, .slice none 0 0], .bool false]) (by simp [results, Try.results24, go_sem, e0, e1, e2, e3, e4, e5]) rfl ⟨?_, _, _, ⟨5, A, 0, 0, [on], []⟩, rfl, ⟨rq_ok (by decide) hA16 (by decide) (by decide) no_words, _, _, rfl, sl_one (six_far (Y := Y.drewN _) bl (by simp; omega) _ _ _ _ _ _), Sl.nil _, new_at (by omega), new_nil⟩, ?_⟩
  · exact below_six (below_drewN KY.out _) (Nat.le_refl _) _ _ _ _ _ _
  · have h := took_5 (t := false) ⟨HS.out.len, hn, hn2, HFN.out, HA.out, HV.out⟩ (by simp [HT.out]); rw [← HON.out] at h; exact h
set_option linter.unusedSimpArgs false in
set_option linter.unusedVariables false in
set_option maxRecDepth 100000 in
set_option maxHeartbeats 1600000 in
theorem tk5_y (b off n cap V : Nat) (bs : List Nat) (w : World) (hS : Bs w b off n cap bs) (hn : 5 ≤ n) (hn2 : n ≤ 253) (hfn : bs.getD 0 0 = 5) (hV : V = wordAt bs 3) (hT : n = 5) :
    Calls Try.prog 24 #[.slice (some ⟨b, off, none⟩) n cap] w fun e w' => TookEnd bs w e w' := by
  have HV : Hid (V = wordAt bs 3) := hV
  have hV16 : V < 65536 := by rw [hV]; exact wordAt_lt hS.bytes 3
  clear hV
  have HT := hid_as hT
  have h5 : (((n - 3 : Nat) : Int) == 2) = true := by rw [beq_iff_eq]; omega
  obtain ⟨on, hon⟩ : ∃ on, on = decide (V = 65280) := ⟨_, rfl⟩
  have hon1 : ((V : Int) == 65280) = on := by rw [hon, Bool.eq_iff_iff]; simp; omega
  have HON := hid_as hon
  clear hon hT
  obtain ⟨x1, hx1e⟩ : ∃ x, x = bs.getD 1 0 := ⟨_, rfl⟩
  obtain ⟨x2, hx2e⟩ : ∃ x, x = bs.getD 2 0 := ⟨_, rfl⟩
  obtain ⟨A, hA⟩ : ∃ A, A = wordAt bs 1 := ⟨_, rfl⟩
  have hA' : 256 * x1 + x2 = A := by rw [hA, hx1e, hx2e]; rfl
  have hx1 : x1 < 256 := by rw [hx1e]; exact hS.bytes.at 1
  have hx2 : x2 < 256 := by rw [hx2e]; exact hS.bytes.at 2
  have hA16 : A < 65536 := by omega
  have HA : Hid (A = wordAt bs 1) := hA
  have k0 : w.cell? ⟨b, off, none⟩ = some (.int .u8 5) := by have h := hS.at 0 (by omega); rw [hfn] at h; exact h
  have k1 : w.cell? ⟨b, off + 1, none⟩ = some (.int .u8 x1) := by rw [hx1e]; exact hS.at 1 (by omega)
  have k2 : w.cell? ⟨b, off + 2, none⟩ = some (.int .u8 x2) := by rw [hx2e]; exact hS.at 2 (by omega)
  have hcap : n ≤ cap := hS.cap
  have HS : Hid (Bs w b off n cap bs) := hS
  have HFN : Hid (bs.getD 0 0 = 5) := hfn
  clear hS hfn hx1e hx2e hA
  have hb : b < w.heap.size := lt_of_cell k0
  have hb1 : b < w.heap.size + 1 := by omega
  have hb2 : b < w.heap.size + 1 + 1 := by omega
  have hb3 : b < w.heap.size + 1 + 1 + 1 := by omega
  have hin : inside n 5 253 = true := by rw [inside_iff]; omega
  have hwi := withini_c n 5 253 (by decide) (by decide)
  have hwW := fun (W : World) (h1 : W.cell? ⟨b, off + 1, none⟩ = some (.int .u8 x1)) (h2 : W.cell? ⟨b, off + 1 + 1, none⟩ = some (.int .u8 x2)) => word_c b (off + 1) (n - 1) (cap - 1) x1 x2 W (by omega) hx1 hx2 h1 h2
  rw [hA'] at hwW
  clear hA' hx1 hx2
  go_enter Try.func24, Try.ntmps24
  go_upto_region 3 with (go_at_call 34; refine (hwi _).mono ?_; rintro e w' ⟨rfl, hw⟩; subst w'; rw [hin])
  clear hwi hin
  go_cut [4] from 7 (fun s4 wx => s4 = .pointer (some ⟨w.heap.size + 1 + 1, 0, none⟩) ∧ ∃ d, wx = (((w.alloc (.cells #[.int .u8 0, .int .u16 0, .int .u16 0, .int .u16 0, .slice none 0 0, .slice none 0 0] 26)).alloc (.cells #[.int .u16 5, .int .u16 253] 62)).alloc (.cells #[.int .u8 5, .int .u16 A, .int .u16 0, .int .u16 0, .slice none 0 0, .slice none 0 0] 26)).drewN d)
  case first =>
    have hsz : Hid (w.heap.size + 1 + 1 = ((w.alloc (.cells #[.int .u8 0, .int .u16 0, .int .u16 0, .int .u16 0, .slice none 0 0, .slice none 0 0] 26)).alloc (.cells #[.int .u16 5, .int .u16 253] 62)).heap.size) := show _ = _ by simp
    have hbn : ¬ (w.heap.size + 1 + 1 = b) := by omega
    have i0 : (0 : Int) < (n : Int) := by omega
    have i1 : (1 : Int) ≤ (n : Int) := by omega
    have j1 : 1 ≤ n := by omega
    have j2 : 1 < cap := by omega
    have j3 : ¬ cap = 1 := by omega
    have j4 : 1 ≤ cap := by omega
    have j5 : 0 < n := by omega
    go_region_held3 (fun w' => w'.cell? ⟨b, off, none⟩ = some (.int .u8 5)) (simp [World.cell?_alloc_past, World.cell?_setCell_far, hb, hb1, hb2, k0, hbn]) (first | (go_at_call 36; refine (hwW _ ?_ ?_).mono ?_; (simp [World.cell?_alloc_past, hb, hb1, hb2, k1]); (simp [World.cell?_alloc_past, hb, hb1, hb2, k2]); rintro e w' ⟨rfl, d, hw⟩; subst w'))
    all_goals (go_wp2_with fail; go_meet; refine And.intro rfl ?_; apply Exists.intro; first | rw [alloc_drewN] | rw [six_set _ _ _ hsz.out] | exact Eq.refl _)
  obtain ⟨rfl, d, hwc⟩ := hcut
  obtain ⟨z0, z2, k3, hs3⟩ := after_cut hwc
  have K3 : Hid (Below w.heap.size w wc) := k3
  have Z0 : Hid (wc.heap[w.heap.size]? = some (.cells #[.int .u8 0, .int .u16 0, .int .u16 0, .int .u16 0, .slice none 0 0, .slice none 0 0] 26 (0, 0))) := z0
  have Z2 : Hid (wc.heap[w.heap.size + 1 + 1]? = some (.cells #[.int .u8 5, .int .u16 A, .int .u16 0, .int .u16 0, .slice none 0 0, .slice none 0 0] 26 (0, 0))) := z2
  have S3 : Hid (Bs wc b off n cap bs) := HS.out.below k3
  clear hwW hwc z0 z2 k3 k0 k1 k2 hb1 hb2 hb3
  have h3 : ¬ cap = 3 := by omega
  have h3' : 3 ≤ n := by omega
  have h3i : (3 : Int) ≤ (n : Int) := by omega
  have T := S3.out.word 3 (by omega) wc (Below.refl _ _)
  rw [← HV.out] at T
  have T := hid_as T
  obtain ⟨⟨c0, c1, c2, c3, c4, c5⟩, hf2⟩ := block6 Z2.out
  obtain ⟨⟨r0, r1, r2, r3, r4, r5⟩, hf0⟩ := block6 Z0.out
  have f0 := hf2 0
  have f1 := hf2 1
  have f2 := hf2 2
  have f3 := hf2 3
  have f4 := hf2 4
  have f5 := hf2 5
  have g0 := hf0 0
  have g1 := hf0 1
  have g2 := hf0 2
  have g3 := hf0 3
  have g4 := hf0 4
  have g5 := hf0 5
  clear hf0 hf2
  go_wp2_with fail
  refine T.out.mono ?_
  rintro e w2 ⟨rfl, d2, hw2⟩
  have Y0 : w2.heap[w.heap.size]? = some (.cells #[.int .u8 0, .int .u16 0, .int .u16 0, .int .u16 0, .slice none 0 0, .slice none 0 0] 26 (0, 0)) := by rw [hw2]; exact Z0.out
  have Y2 : w2.heap[w.heap.size + 1 + 1]? = some (.cells #[.int .u8 5, .int .u16 A, .int .u16 0, .int .u16 0, .slice none 0 0, .slice none 0 0] 26 (0, 0)) := by rw [hw2]; exact Z2.out
  have K2 : Hid (Below w.heap.size w w2) := by rw [hw2]; exact below_drewN K3.out _
  have hs2 : w.heap.size + 1 + 1 < w2.heap.size := by rw [hw2]; exact hs3
  clear hw2 T c0 c1 c2 c3 c4 c5 r0 r1 r2 r3 r4 r5 f0 f1 f2 f3 f4 f5 g0 g1 g2 g3 g4 g5
  obtain ⟨⟨c0, c1, c2, c3, c4, c5⟩, hf2⟩ := block6 Y2
  obtain ⟨⟨r0, r1, r2, r3, r4, r5⟩, hf0⟩ := block6 Y0
  have f0 := hf2 0
  have f1 := hf2 1
  have f2 := hf2 2
  have f3 := hf2 3
  have f4 := hf2 4
  have f5 := hf2 5
  have g0 := hf0 0
  have g1 := hf0 1
  have g2 := hf0 2
  have g3 := hf0 3
  have g4 := hf0 4
  have g5 := hf0 5
  clear hf0 hf2
  have hlt1 : w.heap.size < w2.heap.size := by omega
  go_wp2
  have hsU : ∀ (a : Addr) (v : Value), (w2.setCell a v).heap.size = w2.heap.size := fun a v => by simp [World.setCell]
  generalize hY : World.alloc (World.setCell w2 _ _) _ = Y
  have b4 : Y.cell? ⟨w.heap.size + 1 + 1, 4, none⟩ = some (.slice (some ⟨w2.heap.size, 0, none⟩) 1 1) := by rw [← hY]; exact (World.cell?_alloc_past _ _ _ (by rw [hsU]; exact hs2)).trans (set_same c4)
  have b0 : Y.cell? ⟨w.heap.size + 1 + 1, 0, none⟩ = some (.int .u8 5) := by rw [← hY]; exact (World.cell?_alloc_past _ _ _ (by rw [hsU]; exact hs2)).trans (set_else c0 (by decide))
  have b1 : Y.cell? ⟨w.heap.size + 1 + 1, 1, none⟩ = some (.int .u16 A) := by rw [← hY]; exact (World.cell?_alloc_past _ _ _ (by rw [hsU]; exact hs2)).trans (set_else c1 (by decide))
  have b2 : Y.cell? ⟨w.heap.size + 1 + 1, 2, none⟩ = some (.int .u16 0) := by rw [← hY]; exact (World.cell?_alloc_past _ _ _ (by rw [hsU]; exact hs2)).trans (set_else c2 (by decide))
  have b3 : Y.cell? ⟨w.heap.size + 1 + 1, 3, none⟩ = some (.int .u16 0) := by rw [← hY]; exact (World.cell?_alloc_past _ _ _ (by rw [hsU]; exact hs2)).trans (set_else c3 (by decide))
  have b5 : Y.cell? ⟨w.heap.size + 1 + 1, 5, none⟩ = some (.slice none 0 0) := by rw [← hY]; exact (World.cell?_alloc_past _ _ _ (by rw [hsU]; exact hs2)).trans (set_else c5 (by decide))
  have bl : Y.cell? ⟨w2.heap.size, 0, none⟩ = some (.bool on) := by
    rw [← hY]
    have h := World.cell?_alloc_new (w2.setCell ⟨w.heap.size + 1 + 1, 4, none⟩ (.slice (some ⟨w2.heap.size, 0, none⟩) 1 1)) #[.bool on] 4 0
    rw [hsU] at h
    exact h
  have y0 : Y.heap[w.heap.size]? = some (.cells #[.int .u8 0, .int .u16 0, .int .u16 0, .int .u16 0, .slice none 0 0, .slice none 0 0] 26 (0, 0)) := by rw [← hY]; exact (Below.heap_alloc _ _ _ (by rw [hsU]; exact hlt1)).trans ((Below.heap_setCell _ _ _ _ (by simp; omega)).trans Y0)
  have KY : Hid (Below w.heap.size w Y) := by rw [← hY]; exact below_new (Below.setCell K2.out (by simp; omega) _) _
  have SY : Hid (Bs Y b off n cap bs) := HS.out.below KY.out
  have hsY : w2.heap.size < Y.heap.size := lt_of_cell bl
  clear hY Y0 Y2 c0 c1 c2 c3 c4 c5 r0 r1 r2 r3 r4 r5 f0 f1 f2 f3 f4 f5 g0 g1 g2 g3 g4 g5
  obtain ⟨⟨r0, r1, r2, r3, r4, r5⟩, hf0⟩ := block6 y0
  have g0 := hf0 0
  have g1 := hf0 1
  have g2 := hf0 2
  have g3 := hf0 3
  have g4 := hf0 4
  have g5 := hf0 5
  clear hf0 y0
  have TW := SY.out.word 3 (by omega)
  rw [← HV.out] at TW
  have TW := hid_as TW
  go_quiet (first | (go_at_call 36; exact Calls.quiet_of (TW.out _ (by first | exact Below.refl _ _ | exact below_drewN (Below.refl _ _) _))) | (go_at_call 19; exact Calls.quiet_of_same (coil_c on _)))
  go_wp2
  have BF := set_box ((Box.mk r0 r1 r2 r3 r4 r5).drewN nq) (.int .u8 5) (.int .u16 A) (.int .u16 0) (.int .u16 0) (.slice (some ⟨w2.heap.size, 0, none⟩) 1 1) (.slice none 0 0)
  obtain ⟨e0, e1, e2, e3, e4, e5⟩ := BF
  refine bodyPost_ret (v := .tuple #[.agg #[.int .u8 5, .int .u16 A, .int .u16 0, .int .u16 0, .slice (some ⟨w2.heap.size, 0, none⟩) 1 1, .slice none 0 0], .bool ((V : Int) == (coil on : Nat))]) (by simp [results, Try.results24, go_sem, e0, e1, e2, e3, e4, e5]) rfl ⟨?_, _, _, ⟨5, A, 0, 0, [on], []⟩, rfl, ⟨rq_ok (by decide) hA16 (by decide) (by decide) no_words, _, _, rfl, sl_one (six_far (Y := Y.drewN _) bl (by simp; omega) _ _ _ _ _ _), Sl.nil _, new_at (by omega), new_nil⟩, ?_⟩
  · exact below_six (below_drewN KY.out _) (Nat.le_refl _) _ _ _ _ _ _
  · have h := took_5 (t := ((V : Int) == (coil on : Nat))) ⟨HS.out.len, hn, hn2, HFN.out, HA.out, HV.out⟩ (by rw [beq_iff_eq]; have h1 := HON.out; have h2 := HT.out; by_cases hv : V = 65280 <;> simp [hv] at h1 <;> subst h1 <;> simp [coil, hv] <;> omega); rw [← HON.out] at h; exact h
end Go.Proofs.Ytehbbkdiekgpbab
