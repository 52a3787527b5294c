/- The walk: a request is taken apart: function 23. -/
import Derived.Test.YtehbbkdiekgpbabJ3
namespace Go.Proofs.Ytehbbkdiekgpbab
open Go.RowKit
open Pdu
set_option linter.unusedSimpArgs false in
set_option linter.unusedVariables false in
set_option maxRecDepth 100000 in
set_option maxHeartbeats 1600000 in
theorem tk23_s (b off n cap V : Nat) (bs : List Nat) (w : World) (hS : Bs w b off n cap bs) (hn : 5 ≤ n) (hn2 : n ≤ 253) (hfn : bs.getD 0 0 = 23) (hV : V = wordAt bs 3) (hT : n < 9) :
    Calls Try.prog 24 #[.slice (some ⟨b, off, none⟩) n cap] w fun e w' => TookEnd bs w e w' := by
  have HV : Hid (V = wordAt bs 3) := hV
  have hV16 : V < 65536 := by rw [hV]; exact wordAt_lt hS.bytes 3
  clear hV
  have h6 : decide ((6 : Int) ≤ ((n - 3 : Nat) : Int)) = false := decide_eq_false (by omega)
  have HT := hid_as hT
  clear hT
  obtain ⟨x1, hx1e⟩ : ∃ x, x = bs.getD 1 0 := ⟨_, rfl⟩
  obtain ⟨x2, hx2e⟩ : ∃ x, x = bs.getD 2 0 := ⟨_, rfl⟩
  obtain ⟨A, hA⟩ : ∃ A, A = wordAt bs 1 := ⟨_, rfl⟩
  have hA' : 256 * x1 + x2 = A := by rw [hA, hx1e, hx2e]; rfl
  have hx1 : x1 < 256 := by rw [hx1e]; exact hS.bytes.at 1
  have hx2 : x2 < 256 := by rw [hx2e]; exact hS.bytes.at 2
  have hA16 : A < 65536 := by omega
  have HA : Hid (A = wordAt bs 1) := hA
  have k0 : w.cell? ⟨b, off, none⟩ = some (.int .u8 23) := by have h := hS.at 0 (by omega); rw [hfn] at h; exact h
  have k1 : w.cell? ⟨b, off + 1, none⟩ = some (.int .u8 x1) := by rw [hx1e]; exact hS.at 1 (by omega)
  have k2 : w.cell? ⟨b, off + 2, none⟩ = some (.int .u8 x2) := by rw [hx2e]; exact hS.at 2 (by omega)
  have hcap : n ≤ cap := hS.cap
  have HS : Hid (Bs w b off n cap bs) := hS
  have HFN : Hid (bs.getD 0 0 = 23) := hfn
  clear hS hfn hx1e hx2e hA
  have hb : b < w.heap.size := lt_of_cell k0
  have hb1 : b < w.heap.size + 1 := by omega
  have hb2 : b < w.heap.size + 1 + 1 := by omega
  have hb3 : b < w.heap.size + 1 + 1 + 1 := by omega
  have hin : inside n 5 253 = true := by rw [inside_iff]; omega
  have hwi := withini_c n 5 253 (by decide) (by decide)
  have hwW := fun (W : World) (h1 : W.cell? ⟨b, off + 1, none⟩ = some (.int .u8 x1)) (h2 : W.cell? ⟨b, off + 1 + 1, none⟩ = some (.int .u8 x2)) => word_c b (off + 1) (n - 1) (cap - 1) x1 x2 W (by omega) hx1 hx2 h1 h2
  rw [hA'] at hwW
  clear hA' hx1 hx2
  go_enter Try.func24, Try.ntmps24
  go_upto_region 3 with (go_at_call 34; refine (hwi _).mono ?_; rintro e w' ⟨rfl, hw⟩; subst w'; rw [hin])
  clear hwi hin
  go_cut [4] from 7 (fun s4 wx => s4 = .pointer (some ⟨w.heap.size + 1 + 1, 0, none⟩) ∧ ∃ d, wx = (((w.alloc (.cells #[.int .u8 0, .int .u16 0, .int .u16 0, .int .u16 0, .slice none 0 0, .slice none 0 0] 26)).alloc (.cells #[.int .u16 5, .int .u16 253] 62)).alloc (.cells #[.int .u8 23, .int .u16 A, .int .u16 0, .int .u16 0, .slice none 0 0, .slice none 0 0] 26)).drewN d)
  case first =>
    have hsz : Hid (w.heap.size + 1 + 1 = ((w.alloc (.cells #[.int .u8 0, .int .u16 0, .int .u16 0, .int .u16 0, .slice none 0 0, .slice none 0 0] 26)).alloc (.cells #[.int .u16 5, .int .u16 253] 62)).heap.size) := show _ = _ by simp
    have hbn : ¬ (w.heap.size + 1 + 1 = b) := by omega
    have i0 : (0 : Int) < (n : Int) := by omega
    have i1 : (1 : Int) ≤ (n : Int) := by omega
    have j1 : 1 ≤ n := by omega
    have j2 : 1 < cap := by omega
    have j3 : ¬ cap = 1 := by omega
    have j4 : 1 ≤ cap := by omega
    have j5 : 0 < n := by omega
    go_region_held3 (fun w' => w'.cell? ⟨b, off, none⟩ = some (.int .u8 23)) (simp [World.cell?_alloc_past, World.cell?_setCell_far, hb, hb1, hb2, k0, hbn]) (first | (go_at_call 36; refine (hwW _ ?_ ?_).mono ?_; (simp [World.cell?_alloc_past, hb, hb1, hb2, k1]); (simp [World.cell?_alloc_past, hb, hb1, hb2, k2]); rintro e w' ⟨rfl, d, hw⟩; subst w'))
    all_goals (go_wp2_with fail; go_meet; refine And.intro rfl ?_; apply Exists.intro; first | rw [alloc_drewN] | rw [six_set _ _ _ hsz.out] | exact Eq.refl _)
  obtain ⟨rfl, d, hwc⟩ := hcut
  obtain ⟨z0, z2, k3, hs3⟩ := after_cut hwc
  have K3 : Hid (Below w.heap.size w wc) := k3
  have Z0 : Hid (wc.heap[w.heap.size]? = some (.cells #[.int .u8 0, .int .u16 0, .int .u16 0, .int .u16 0, .slice none 0 0, .slice none 0 0] 26 (0, 0))) := z0
  have Z2 : Hid (wc.heap[w.heap.size + 1 + 1]? = some (.cells #[.int .u8 23, .int .u16 A, .int .u16 0, .int .u16 0, .slice none 0 0, .slice none 0 0] 26 (0, 0))) := z2
  have S3 : Hid (Bs wc b off n cap bs) := HS.out.below k3
  clear hwW hwc z0 z2 k3 k0 k1 k2 hb1 hb2 hb3
  have h3 : ¬ cap = 3 := by omega
  have h3' : 3 ≤ n := by omega
  have h3i : (3 : Int) ≤ (n : Int) := by omega
  obtain ⟨⟨c0, c1, c2, c3, c4, c5⟩, hf2⟩ := block6 Z2.out
  obtain ⟨⟨r0, r1, r2, r3, r4, r5⟩, hf0⟩ := block6 Z0.out
  have f0 := hf2 0
  have f1 := hf2 1
  have f2 := hf2 2
  have f3 := hf2 3
  have f4 := hf2 4
  have f5 := hf2 5
  have g0 := hf0 0
  have g1 := hf0 1
  have g2 := hf0 2
  have g3 := hf0 3
  have g4 := hf0 4
  have g5 := hf0 5
  clear hf0 hf2
  go_wp2
  have BF := set_box (Box.mk r0 r1 r2 r3 r4 r5) (.int .u8 23) (.int .u16 A) (.int .u16 0) (.int .u16 0) (.slice none 0 0) (.slice none 0 0)
  obtain ⟨e0, e1, e2, e3, e4, e5⟩ := BF
  refine bodyPost_ret (v := .tuple #[.agg #[.int .u8 23, .int .u16 A, .int .u16 0, .int .u16 0, .slice none 0 0, .slice none 0 0], .bool false]) (by simp [results, Try.results24, go_sem, e0, e1, e2, e3, e4, e5]) rfl ⟨?_, _, _, ⟨23, A, 0, 0, [], []⟩, rfl, ⟨rq_ok (by decide) hA16 (by decide) (by decide) no_words, _, _, rfl, Sl.nil _, Sl.nil _, new_nil, new_nil⟩, ?_⟩
  · exact below_six K3.out (Nat.le_refl _) _ _ _ _ _ _
  · exact took_none (fun hr => by have h := ((pl_23 (A2 := 0) hn hn2).1 ((Says.iff ⟨HS.out.len, hn, hn2, HFN.out, HA.out, HV.out⟩).1 hr)).1; have := HT.out; omega)
set_option linter.unusedSimpArgs false in
set_option linter.unusedVariables false in
set_option maxRecDepth 100000 in
set_option maxHeartbeats 1600000 in
theorem tk23_y (b off n cap V A2 C : Nat) (bs : List Nat) (w : World) (hS : Bs w b off n cap bs) (hn : 5 ≤ n) (hn2 : n ≤ 253) (hfn : bs.getD 0 0 = 23) (hV : V = wordAt bs 3) (hn9 : 9 ≤ n) (hA2 : A2 = wordAt bs 5) (hC : C = wordAt bs 7) (hT : n = 10 + 2 * C ∧ bs.getD 9 0 = 2 * C) :
    Calls Try.prog 24 #[.slice (some ⟨b, off, none⟩) n cap] w fun e w' => TookEnd bs w e w' := by
  have HV : Hid (V = wordAt bs 3) := hV
  have hV16 : V < 65536 := by rw [hV]; exact wordAt_lt hS.bytes 3
  clear hV
  have h6 : decide ((6 : Int) ≤ ((n - 3 : Nat) : Int)) = true := decide_eq_true (by omega)
  have HT := hid_as hT
  have HC := hid_as hC
  have HA2 := hid_as hA2
  have hA2l : A2 < 65536 := by rw [hA2]; exact wordAt_lt hS.bytes 5
  clear hT hC hA2
  obtain ⟨x1, hx1e⟩ : ∃ x, x = bs.getD 1 0 := ⟨_, rfl⟩
  obtain ⟨x2, hx2e⟩ : ∃ x, x = bs.getD 2 0 := ⟨_, rfl⟩
  obtain ⟨A, hA⟩ : ∃ A, A = wordAt bs 1 := ⟨_, rfl⟩
  have hA' : 256 * x1 + x2 = A := by rw [hA, hx1e, hx2e]; rfl
  have hx1 : x1 < 256 := by rw [hx1e]; exact hS.bytes.at 1
  have hx2 : x2 < 256 := by rw [hx2e]; exact hS.bytes.at 2
  have hA16 : A < 65536 := by omega
  have HA : Hid (A = wordAt bs 1) := hA
  have k0 : w.cell? ⟨b, off, none⟩ = some (.int .u8 23) := by have h := hS.at 0 (by omega); rw [hfn] at h; exact h
  have k1 : w.cell? ⟨b, off + 1, none⟩ = some (.int .u8 x1) := by rw [hx1e]; exact hS.at 1 (by omega)
  have k2 : w.cell? ⟨b, off + 2, none⟩ = some (.int .u8 x2) := by rw [hx2e]; exact hS.at 2 (by omega)
  have hcap : n ≤ cap := hS.cap
  have HS : Hid (Bs w b off n cap bs) := hS
  have HFN : Hid (bs.getD 0 0 = 23) := hfn
  clear hS hfn hx1e hx2e hA
  have hb : b < w.heap.size := lt_of_cell k0
  have hb1 : b < w.heap.size + 1 := by omega
  have hb2 : b < w.heap.size + 1 + 1 := by omega
  have hb3 : b < w.heap.size + 1 + 1 + 1 := by omega
  have hin : inside n 5 253 = true := by rw [inside_iff]; omega
  have hwi := withini_c n 5 253 (by decide) (by decide)
  have hwW := fun (W : World) (h1 : W.cell? ⟨b, off + 1, none⟩ = some (.int .u8 x1)) (h2 : W.cell? ⟨b, off + 1 + 1, none⟩ = some (.int .u8 x2)) => word_c b (off + 1) (n - 1) (cap - 1) x1 x2 W (by omega) hx1 hx2 h1 h2
  rw [hA'] at hwW
  clear hA' hx1 hx2
  go_enter Try.func24, Try.ntmps24
  go_upto_region 3 with (go_at_call 34; refine (hwi _).mono ?_; rintro e w' ⟨rfl, hw⟩; subst w'; rw [hin])
  clear hwi hin
  go_cut [4] from 7 (fun s4 wx => s4 = .pointer (some ⟨w.heap.size + 1 + 1, 0, none⟩) ∧ ∃ d, wx = (((w.alloc (.cells #[.int .u8 0, .int .u16 0, .int .u16 0, .int .u16 0, .slice none 0 0, .slice none 0 0] 26)).alloc (.cells #[.int .u16 5, .int .u16 253] 62)).alloc (.cells #[.int .u8 23, .int .u16 A, .int .u16 0, .int .u16 0, .slice none 0 0, .slice none 0 0] 26)).drewN d)
  case first =>
    have hsz : Hid (w.heap.size + 1 + 1 = ((w.alloc (.cells #[.int .u8 0, .int .u16 0, .int .u16 0, .int .u16 0, .slice none 0 0, .slice none 0 0] 26)).alloc (.cells #[.int .u16 5, .int .u16 253] 62)).heap.size) := show _ = _ by simp
    have hbn : ¬ (w.heap.size + 1 + 1 = b) := by omega
    have i0 : (0 : Int) < (n : Int) := by omega
    have i1 : (1 : Int) ≤ (n : Int) := by omega
    have j1 : 1 ≤ n := by omega
    have j2 : 1 < cap := by omega
    have j3 : ¬ cap = 1 := by omega
    have j4 : 1 ≤ cap := by omega
    have j5 : 0 < n := by omega
    go_region_held3 (fun w' => w'.cell? ⟨b, off, none⟩ = some (.int .u8 23)) (simp [World.cell?_alloc_past, World.cell?_setCell_far, hb, hb1, hb2, k0, hbn]) (first | (go_at_call 36; refine (hwW _ ?_ ?_).mono ?_; (simp [World.cell?_alloc_past, hb, hb1, hb2, k1]); (simp [World.cell?_alloc_past, hb, hb1, hb2, k2]); rintro e w' ⟨rfl, d, hw⟩; subst w'))
    all_goals (go_wp2_with fail; go_meet; refine And.intro rfl ?_; apply Exists.intro; first | rw [alloc_drewN] | rw [six_set _ _ _ hsz.out] | exact Eq.refl _)
  obtain ⟨rfl, d, hwc⟩ := hcut
  obtain ⟨z0, z2, k3, hs3⟩ := after_cut hwc
  have K3 : Hid (Below w.heap.size w wc) := k3
  have Z0 : Hid (wc.heap[w.heap.size]? = some (.cells #[.int .u8 0, .int .u16 0, .int .u16 0, .int .u16 0, .slice none 0 0, .slice none 0 0] 26 (0, 0))) := z0
  have Z2 : Hid (wc.heap[w.heap.size + 1 + 1]? = some (.cells #[.int .u8 23, .int .u16 A, .int .u16 0, .int .u16 0, .slice none 0 0, .slice none 0 0] 26 (0, 0))) := z2
  have S3 : Hid (Bs wc b off n cap bs) := HS.out.below k3
  clear hwW hwc z0 z2 k3 k0 k1 k2 hb1 hb2 hb3
  have h3 : ¬ cap = 3 := by omega
  have h3' : 3 ≤ n := by omega
  have h3i : (3 : Int) ≤ (n : Int) := by omega
  have a2 : ¬ cap - 3 = 2 := by omega
  have a2' : 2 ≤ n - 3 := by omega
  have a2i : (2 : Int) ≤ ((n - 3 : Nat) : Int) := by omega
  have a4 : ¬ cap - 3 = 4 := by omega
  have a4' : 4 ≤ n - 3 := by omega
  have a4i : (4 : Int) ≤ ((n - 3 : Nat) : Int) := by omega
  have u1 : n - 3 - 2 = n - 5 := by omega
  have u2 : cap - 3 - 2 = cap - 5 := by omega
  have u3 : n - 3 - 4 = n - 7 := by omega
  have u4 : cap - 3 - 4 = cap - 7 := by omega
  have T3 := S3.out.word 3 (by omega)
  rw [← HV.out] at T3
  have T3 := hid_as T3
  have T5 := S3.out.word 5 (by omega)
  rw [← HA2.out] at T5
  have T5 := hid_as T5
  obtain ⟨⟨c0, c1, c2, c3, c4, c5⟩, hf2⟩ := block6 Z2.out
  obtain ⟨⟨r0, r1, r2, r3, r4, r5⟩, hf0⟩ := block6 Z0.out
  have f0 := hf2 0
  have f1 := hf2 1
  have f2 := hf2 2
  have f3 := hf2 3
  have f4 := hf2 4
  have f5 := hf2 5
  have g0 := hf0 0
  have g1 := hf0 1
  have g2 := hf0 2
  have g3 := hf0 3
  have g4 := hf0 4
  have g5 := hf0 5
  clear hf0 hf2
  go_upto_region 23 with fail
  go_region_held3 (fun _ => True) (trivial) (first | (go_at_call 36; with_reducible refine (T3.out _ ?_).mono ?_; (first | exact Below.refl _ _ | exact (Below.refl _ _).drew | exact below_drewN (Below.refl _ _) _ | exact below_drewN (Below.refl _ _).drew _); rintro e w' ⟨rfl, d3, hw⟩; subst w') | (go_at_call 36; with_reducible refine (T5.out _ ?_).mono ?_; (first | exact Below.refl _ _ | exact (Below.refl _ _).drew | exact below_drewN (Below.refl _ _) _ | exact below_drewN (Below.refl _ _).drew _); rintro e w' ⟨rfl, d5, hw⟩; subst w'))
  have hsU : ∀ (W : World) (a : Addr) (v : Value), (W.setCell a v).heap.size = W.heap.size := fun W a v => by simp [World.setCell]
  generalize hY : World.setCell (World.setCell (World.drewN wc _) _ _) _ _ = Y
  have b0 : Y.cell? ⟨w.heap.size + 1 + 1, 0, none⟩ = some (.int .u8 23) := by rw [← hY]; exact set_else (set_else c0 (by decide)) (by decide)
  have b1 : Y.cell? ⟨w.heap.size + 1 + 1, 1, none⟩ = some (.int .u16 A) := by rw [← hY]; exact set_else (set_else c1 (by decide)) (by decide)
  have b2 : Y.cell? ⟨w.heap.size + 1 + 1, 2, none⟩ = some (.int .u16 V) := by rw [← hY]; exact set_else (set_same c2) (by decide)
  have b3 : Y.cell? ⟨w.heap.size + 1 + 1, 3, none⟩ = some (.int .u16 A2) := by rw [← hY]; exact set_same (set_else c3 (by decide))
  have b4 : Y.cell? ⟨w.heap.size + 1 + 1, 4, none⟩ = some (.slice none 0 0) := by rw [← hY]; exact set_else (set_else c4 (by decide)) (by decide)
  have b5 : Y.cell? ⟨w.heap.size + 1 + 1, 5, none⟩ = some (.slice none 0 0) := by rw [← hY]; exact set_else (set_else c5 (by decide)) (by decide)
  have y5 : Y.frozen? ⟨w.heap.size + 1 + 1, 5, none⟩ = false := by rw [← hY]; simp; exact f5
  have Y0 : Hid (Y.heap[w.heap.size]? = some (.cells #[.int .u8 0, .int .u16 0, .int .u16 0, .int .u16 0, .slice none 0 0, .slice none 0 0] 26 (0, 0))) := by rw [← hY]; exact (Below.heap_setCell _ _ _ _ (by simp; omega)).trans ((Below.heap_setCell _ _ _ _ (by simp; omega)).trans Z0.out)
  have KY : Hid (Below w.heap.size w Y) := by rw [← hY]; exact Below.setCell (Below.setCell (below_drewN K3.out _) (by simp; omega) _) (by simp; omega) _
  have hsY : w.heap.size + 1 + 1 < Y.heap.size := lt_of_cell b0
  have SY : Hid (Bs Y b off n cap bs) := HS.out.below KY.out
  clear hY T3 T5 c0 c1 c2 c3 c4 c5 r0 r1 r2 r3 r4 r5 f0 f1 f2 f3 f4 f5 g0 g1 g2 g3 g4 g5
  have D7 := SY.out.drop 7 (by omega)
  have T := hid_as (takeRegs_y b (off + 7) (n - 7) (cap - 7) C (bs.drop 7) Y D7.len D7.cap (by omega) D7.bytes D7.lies (by rw [wordAt_drop]; exact HC.out) (by have := HT.out.1; omega) (by rw [getD_drop]; exact HT.out.2))
  clear D7
  go_wp2_with fail
  refine T.out.mono ?_
  rintro e w3 ⟨v3, rfl, own3, k3⟩
  simp only [List.drop_drop, Nat.reduceAdd] at own3
  obtain ⟨so, sc, hv⟩ := own_shape2 own3
  subst hv
  have W0 := (k3.block w.heap.size (by omega)).trans Y0.out
  have x0 := (k3.cell (p := ⟨w.heap.size + 1 + 1, 0, none⟩) hsY).trans b0
  have x1 := (k3.cell (p := ⟨w.heap.size + 1 + 1, 1, none⟩) hsY).trans b1
  have x2 := (k3.cell (p := ⟨w.heap.size + 1 + 1, 2, none⟩) hsY).trans b2
  have x3 := (k3.cell (p := ⟨w.heap.size + 1 + 1, 3, none⟩) hsY).trans b3
  have x4 := (k3.cell (p := ⟨w.heap.size + 1 + 1, 4, none⟩) hsY).trans b4
  have x5 := (k3.cell (p := ⟨w.heap.size + 1 + 1, 5, none⟩) hsY).trans b5
  have z5 := (k3.frozen (p := ⟨w.heap.size + 1 + 1, 5, none⟩) hsY).trans y5
  have K4 : Hid (Below w.heap.size w w3) := below_and KY.out k3
  have OWN : Hid (w3.ownsRow Y.heap.size 22 1 (.slice so (ws (bs.drop 10)).length sc) (ws (bs.drop 10)).length (u16s (ws (bs.drop 10)))) := own3
  clear own3 k3 T b0 b1 b2 b3 b4 b5 y5
  obtain ⟨⟨r0, r1, r2, r3, r4, r5⟩, hf0⟩ := block6 W0
  have g0 := hf0 0
  have g1 := hf0 1
  have g2 := hf0 2
  have g3 := hf0 3
  have g4 := hf0 4
  have g5 := hf0 5
  clear hf0 W0
  go_wp2
  have BF := set_box ((Box.mk r0 r1 r2 r3 r4 r5).far (p := ⟨w.heap.size + 1 + 1, 5, none⟩) (by simp; omega) (.slice so (ws (bs.drop 10)).length sc)) (.int .u8 23) (.int .u16 A) (.int .u16 V) (.int .u16 A2) (.slice none 0 0) (.slice so (ws (bs.drop 10)).length sc)
  obtain ⟨e0, e1, e2, e3, e4, e5⟩ := BF
  refine bodyPost_ret (v := .tuple #[.agg #[.int .u8 23, .int .u16 A, .int .u16 V, .int .u16 A2, .slice none 0 0, .slice so (ws (bs.drop 10)).length sc], .bool true]) (by simp [results, Try.results24, go_sem, e0, e1, e2, e3, e4, e5]) rfl ⟨?_, _, _, ⟨23, A, V, A2, [], (ws (bs.drop 10))⟩, rfl, ⟨rq_ok (by decide) hA16 hV16 hA2l (ws_words (HS.out.bytes.drop 10)), _, _, rfl, Sl.nil _, own_sl (own_six (own_set OWN.out (p := ⟨w.heap.size + 1 + 1, 5, none⟩) (by simp; omega) _) (by omega) _ _ _ _ _ _), new_nil, new_own OWN.out (by omega)⟩, ?_⟩
  · exact below_six (Below.setCell K4.out (by simp; omega) _) (Nat.le_refl _) _ _ _ _ _ _
  · exact took_23 ⟨HS.out.len, hn, hn2, HFN.out, HA.out, HV.out⟩ HA2.out HC.out hn9 HT.out
set_option linter.unusedSimpArgs false in
set_option linter.unusedVariables false in
set_option maxRecDepth 100000 in
set_option maxHeartbeats 1600000 in
theorem tk23_n (b off n cap V A2 C : Nat) (bs : List Nat) (w : World) (hS : Bs w b off n cap bs) (hn : 5 ≤ n) (hn2 : n ≤ 253) (hfn : bs.getD 0 0 = 23) (hV : V = wordAt bs 3) (hn9 : 9 ≤ n) (hA2 : A2 = wordAt bs 5) (hC : C = wordAt bs 7) (hT : ¬ (n = 10 + 2 * C ∧ bs.getD 9 0 = 2 * C)) :
    Calls Try.prog 24 #[.slice (some ⟨b, off, none⟩) n cap] w fun e w' => TookEnd bs w e w' := by
  have HV : Hid (V = wordAt bs 3) := hV
  have hV16 : V < 65536 := by rw [hV]; exact wordAt_lt hS.bytes 3
  clear hV
  have h6 : decide ((6 : Int) ≤ ((n - 3 : Nat) : Int)) = true := decide_eq_true (by omega)
  have HT := hid_as hT
  have HC := hid_as hC
  have HA2 := hid_as hA2
  have hA2l : A2 < 65536 := by rw [hA2]; exact wordAt_lt hS.bytes 5
  clear hT hC hA2
  obtain ⟨x1, hx1e⟩ : ∃ x, x = bs.getD 1 0 := ⟨_, rfl⟩
  obtain ⟨x2, hx2e⟩ : ∃ x, x = bs.getD 2 0 := ⟨_, rfl⟩
  obtain ⟨A, hA⟩ : ∃ A, A = wordAt bs 1 := ⟨_, rfl⟩
  have hA' : 256 * x1 + x2 = A := by rw [hA, hx1e, hx2e]; rfl
  have hx1 : x1 < 256 := by rw [hx1e]; exact hS.bytes.at 1
  have hx2 : x2 < 256 := by rw [hx2e]; exact hS.bytes.at 2
  have hA16 : A < 65536 := by omega
  have HA : Hid (A = wordAt bs 1) := hA
  have k0 : w.cell? ⟨b, off, none⟩ = some (.int .u8 23) := by have h := hS.at 0 (by omega); rw [hfn] at h; exact h
  have k1 : w.cell? ⟨b, off + 1, none⟩ = some (.int .u8 x1) := by rw [hx1e]; exact hS.at 1 (by omega)
  have k2 : w.cell? ⟨b, off + 2, none⟩ = some (.int .u8 x2) := by rw [hx2e]; exact hS.at 2 (by omega)
  have hcap : n ≤ cap := hS.cap
  have HS : Hid (Bs w b off n cap bs) := hS
  have HFN : Hid (bs.getD 0 0 = 23) := hfn
  clear hS hfn hx1e hx2e hA
  have hb : b < w.heap.size := lt_of_cell k0
  have hb1 : b < w.heap.size + 1 := by omega
  have hb2 : b < w.heap.size + 1 + 1 := by omega
  have hb3 : b < w.heap.size + 1 + 1 + 1 := by omega
  have hin : inside n 5 253 = true := by rw [inside_iff]; omega
  have hwi := withini_c n 5 253 (by decide) (by decide)
  have hwW := fun (W : World) (h1 : W.cell? ⟨b, off + 1, none⟩ = some (.int .u8 x1)) (h2 : W.cell? ⟨b, off + 1 + 1, none⟩ = some (.int .u8 x2)) => word_c b (off + 1) (n - 1) (cap - 1) x1 x2 W (by omega) hx1 hx2 h1 h2
  rw [hA'] at hwW
  clear hA' hx1 hx2
  go_enter Try.func24, Try.ntmps24
  go_upto_region 3 with (go_at_call 34; refine (hwi _).mono ?_; rintro e w' ⟨rfl, hw⟩; subst w'; rw [hin])
  clear hwi hin
  go_cut [4] from 7 (fun s4 wx => s4 = .pointer (some ⟨w.heap.size + 1 + 1, 0, none⟩) ∧ ∃ d, wx = (((w.alloc (.cells #[.int .u8 0, .int .u16 0, .int .u16 0, .int .u16 0, .slice none 0 0, .slice none 0 0] 26)).alloc (.cells #[.int .u16 5, .int .u16 253] 62)).alloc (.cells #[.int .u8 23, .int .u16 A, .int .u16 0, .int .u16 0, .slice none 0 0, .slice none 0 0] 26)).drewN d)
  case first =>
    have hsz : Hid (w.heap.size + 1 + 1 = ((w.alloc (.cells #[.int .u8 0, .int .u16 0, .int .u16 0, .int .u16 0, .slice none 0 0, .slice none 0 0] 26)).alloc (.cells #[.int .u16 5, .int .u16 253] 62)).heap.size) := show _ = _ by simp
    have hbn : ¬ (w.heap.size + 1 + 1 = b) := by omega
    have i0 : (0 : Int) < (n : Int) := by omega
    have i1 : (1 : Int) ≤ (n : Int) := by omega
    have j1 : 1 ≤ n := by omega
    have j2 : 1 < cap := by omega
    have j3 : ¬ cap = 1 := by omega
    have j4 : 1 ≤ cap := by omega
    have j5 : 0 < n := by omega
    go_region_held3 (fun w' => w'.cell? ⟨b, off, none⟩ = some (.int .u8 23)) (simp [World.cell?_alloc_past, World.cell?_setCell_far, hb, hb1, hb2, k0, hbn]) (first | (go_at_call 36; refine (hwW _ ?_ ?_).mono ?_; (simp [World.cell?_alloc_past, hb, hb1, hb2, k1]); (simp [World.cell?_alloc_past, hb, hb1, hb2, k2]); rintro e w' ⟨rfl, d, hw⟩; subst w'))
    all_goals (go_wp2_with fail; go_meet; refine And.intro rfl ?_; apply Exists.intro; first | rw [alloc_drewN] | rw [six_set _ _ _ hsz.out] | exact Eq.refl _)
  obtain ⟨rfl, d, hwc⟩ := hcut
  obtain ⟨z0, z2, k3, hs3⟩ := after_cut hwc
  have K3 : Hid (Below w.heap.size w wc) := k3
  have Z0 : Hid (wc.heap[w.heap.size]? = some (.cells #[.int .u8 0, .int .u16 0, .int .u16 0, .int .u16 0, .slice none 0 0, .slice none 0 0] 26 (0, 0))) := z0
  have Z2 : Hid (wc.heap[w.heap.size + 1 + 1]? = some (.cells #[.int .u8 23, .int .u16 A, .int .u16 0, .int .u16 0, .slice none 0 0, .slice none 0 0] 26 (0, 0))) := z2
  have S3 : Hid (Bs wc b off n cap bs) := HS.out.below k3
  clear hwW hwc z0 z2 k3 k0 k1 k2 hb1 hb2 hb3
  have h3 : ¬ cap = 3 := by omega
  have h3' : 3 ≤ n := by omega
  have h3i : (3 : Int) ≤ (n : Int) := by omega
  have a2 : ¬ cap - 3 = 2 := by omega
  have a2' : 2 ≤ n - 3 := by omega
  have a2i : (2 : Int) ≤ ((n - 3 : Nat) : Int) := by omega
  have a4 : ¬ cap - 3 = 4 := by omega
  have a4' : 4 ≤ n - 3 := by omega
  have a4i : (4 : Int) ≤ ((n - 3 : Nat) : Int) := by omega
  have u1 : n - 3 - 2 = n - 5 := by omega
  have u2 : cap - 3 - 2 = cap - 5 := by omega
  have u3 : n - 3 - 4 = n - 7 := by omega
  have u4 : cap - 3 - 4 = cap - 7 := by omega
  have T3 := S3.out.word 3 (by omega)
  rw [← HV.out] at T3
  have T3 := hid_as T3
  have T5 := S3.out.word 5 (by omega)
  rw [← HA2.out] at T5
  have T5 := hid_as T5
  obtain ⟨⟨c0, c1, c2, c3, c4, c5⟩, hf2⟩ := block6 Z2.out
  obtain ⟨⟨r0, r1, r2, r3, r4, r5⟩, hf0⟩ := block6 Z0.out
  have f0 := hf2 0
  have f1 := hf2 1
  have f2 := hf2 2
  have f3 := hf2 3
  have f4 := hf2 4
  have f5 := hf2 5
  have g0 := hf0 0
  have g1 := hf0 1
  have g2 := hf0 2
  have g3 := hf0 3
  have g4 := hf0 4
  have g5 := hf0 5
  clear hf0 hf2
  go_upto_region 23 with fail
  go_region_held3 (fun _ => True) (trivial) (first | (go_at_call 36; with_reducible refine (T3.out _ ?_).mono ?_; (first | exact Below.refl _ _ | exact (Below.refl _ _).drew | exact below_drewN (Below.refl _ _) _ | exact below_drewN (Below.refl _ _).drew _); rintro e w' ⟨rfl, d3, hw⟩; subst w') | (go_at_call 36; with_reducible refine (T5.out _ ?_).mono ?_; (first | exact Below.refl _ _ | exact (Below.refl _ _).drew | exact below_drewN (Below.refl _ _) _ | exact below_drewN (Below.refl _ _).drew _); rintro e w' ⟨rfl, d5, hw⟩; subst w'))
  have hsU : ∀ (W : World) (a : Addr) (v : Value), (W.setCell a v).heap.size = W.heap.size := fun W a v => by simp [World.setCell]
  generalize hY : World.setCell (World.setCell (World.drewN wc _) _ _) _ _ = Y
  have b0 : Y.cell? ⟨w.heap.size + 1 + 1, 0, none⟩ = some (.int .u8 23) := by rw [← hY]; exact set_else (set_else c0 (by decide)) (by decide)
  have b1 : Y.cell? ⟨w.heap.size + 1 + 1, 1, none⟩ = some (.int .u16 A) := by rw [← hY]; exact set_else (set_else c1 (by decide)) (by decide)
  have b2 : Y.cell? ⟨w.heap.size + 1 + 1, 2, none⟩ = some (.int .u16 V) := by rw [← hY]; exact set_else (set_same c2) (by decide)
  have b3 : Y.cell? ⟨w.heap.size + 1 + 1, 3, none⟩ = some (.int .u16 A2) := by rw [← hY]; exact set_same (set_else c3 (by decide))
  have b4 : Y.cell? ⟨w.heap.size + 1 + 1, 4, none⟩ = some (.slice none 0 0) := by rw [← hY]; exact set_else (set_else c4 (by decide)) (by decide)
  have b5 : Y.cell? ⟨w.heap.size + 1 + 1, 5, none⟩ = some (.slice none 0 0) := by rw [← hY]; exact set_else (set_else c5 (by decide)) (by decide)
  have y5 : Y.frozen? ⟨w.heap.size + 1 + 1, 5, none⟩ = false := by rw [← hY]; simp; exact f5
  have Y0 : Hid (Y.heap[w.heap.size]? = some (.cells #[.int .u8 0, .int .u16 0, .int .u16 0, .int .u16 0, .slice none 0 0, .slice none 0 0] 26 (0, 0))) := by rw [← hY]; exact (Below.heap_setCell _ _ _ _ (by simp; omega)).trans ((Below.heap_setCell _ _ _ _ (by simp; omega)).trans Z0.out)
  have KY : Hid (Below w.heap.size w Y) := by rw [← hY]; exact Below.setCell (Below.setCell (below_drewN K3.out _) (by simp; omega) _) (by simp; omega) _
  have hsY : w.heap.size + 1 + 1 < Y.heap.size := lt_of_cell b0
  have SY : Hid (Bs Y b off n cap bs) := HS.out.below KY.out
  clear hY T3 T5 c0 c1 c2 c3 c4 c5 r0 r1 r2 r3 r4 r5 f0 f1 f2 f3 f4 f5 g0 g1 g2 g3 g4 g5
  have D7 := SY.out.drop 7 (by omega)
  have T := hid_as (takeRegs_n b (off + 7) (n - 7) (cap - 7) C (bs.drop 7) Y D7.len (by omega) D7.cap (by omega) D7.bytes D7.lies (by rw [wordAt_drop]; exact HC.out) (fun h => HT.out ⟨by have := h.1; omega, by have := h.2; rw [getD_drop] at this; exact this⟩))
  clear D7
  go_wp2_with fail
  refine T.out.mono ?_
  rintro e w3 ⟨v3, rfl, own3, k3⟩
  obtain ⟨so, sc, hv⟩ := own_shape2 own3
  subst hv
  have W0 := (k3.block w.heap.size (by omega)).trans Y0.out
  have x0 := (k3.cell (p := ⟨w.heap.size + 1 + 1, 0, none⟩) hsY).trans b0
  have x1 := (k3.cell (p := ⟨w.heap.size + 1 + 1, 1, none⟩) hsY).trans b1
  have x2 := (k3.cell (p := ⟨w.heap.size + 1 + 1, 2, none⟩) hsY).trans b2
  have x3 := (k3.cell (p := ⟨w.heap.size + 1 + 1, 3, none⟩) hsY).trans b3
  have x4 := (k3.cell (p := ⟨w.heap.size + 1 + 1, 4, none⟩) hsY).trans b4
  have x5 := (k3.cell (p := ⟨w.heap.size + 1 + 1, 5, none⟩) hsY).trans b5
  have z5 := (k3.frozen (p := ⟨w.heap.size + 1 + 1, 5, none⟩) hsY).trans y5
  have K4 : Hid (Below w.heap.size w w3) := below_and KY.out k3
  have OWN : Hid (w3.ownsRow Y.heap.size 22 1 (.slice so 0 sc) 0 (u16s [])) := own3
  clear own3 k3 T b0 b1 b2 b3 b4 b5 y5
  obtain ⟨⟨r0, r1, r2, r3, r4, r5⟩, hf0⟩ := block6 W0
  have g0 := hf0 0
  have g1 := hf0 1
  have g2 := hf0 2
  have g3 := hf0 3
  have g4 := hf0 4
  have g5 := hf0 5
  clear hf0 W0
  go_wp2
  have BF := set_box ((Box.mk r0 r1 r2 r3 r4 r5).far (p := ⟨w.heap.size + 1 + 1, 5, none⟩) (by simp; omega) (.slice so 0 sc)) (.int .u8 23) (.int .u16 A) (.int .u16 V) (.int .u16 A2) (.slice none 0 0) (.slice so 0 sc)
  obtain ⟨e0, e1, e2, e3, e4, e5⟩ := BF
  refine bodyPost_ret (v := .tuple #[.agg #[.int .u8 23, .int .u16 A, .int .u16 V, .int .u16 A2, .slice none 0 0, .slice so 0 sc], .bool false]) (by simp [results, Try.results24, go_sem, e0, e1, e2, e3, e4, e5]) rfl ⟨?_, _, _, ⟨23, A, V, A2, [], []⟩, rfl, ⟨rq_ok (by decide) hA16 hV16 hA2l no_words, _, _, rfl, Sl.nil _, own_sl (own_six (own_set OWN.out (p := ⟨w.heap.size + 1 + 1, 5, none⟩) (by simp; omega) _) (by omega) _ _ _ _ _ _), new_nil, new_own OWN.out (by omega)⟩, ?_⟩
  · exact below_six (Below.setCell K4.out (by simp; omega) _) (Nat.le_refl _) _ _ _ _ _ _
  · exact took_none (fun hr => HT.out (by have h := ((pl_23 (A2 := 0) hn hn2).1 ((Says.iff ⟨HS.out.len, hn, hn2, HFN.out, HA.out, HV.out⟩).1 hr)).2.1; rw [← HC.out] at h; exact h))
end Go.Proofs.Ytehbbkdiekgpbab
