/- The walk: a request is taken apart: other functions, other lengths. -/
import Derived.Test.YtehbbkdiekgpbabJ3
namespace Go.Proofs.Ytehbbkdiekgpbab
open Go.RowKit
open Pdu
set_option linter.unusedSimpArgs false in
set_option linter.unusedVariables false in
set_option maxRecDepth 100000 in
set_option maxHeartbeats 1600000 in
theorem tk_other (b off n cap V f : Nat) (bs : List Nat) (w : World) (hS : Bs w b off n cap bs) (hn : 5 ≤ n) (hn2 : n ≤ 253) (hfn : bs.getD 0 0 = f) (hV : V = wordAt bs 3) (hk : f ≠ 1 ∧ f ≠ 2 ∧ f ≠ 3 ∧ f ≠ 4 ∧ f ≠ 5 ∧ f ≠ 6 ∧ f ≠ 15 ∧ f ≠ 16 ∧ f ≠ 22 ∧ f ≠ 23) :
    Calls Try.prog 24 #[.slice (some ⟨b, off, none⟩) n cap] w fun e w' => TookEnd bs w e w' := by
  have HV : Hid (V = wordAt bs 3) := hV
  have hV16 : V < 65536 := by rw [hV]; exact wordAt_lt hS.bytes 3
  clear hV
  have y1 : ((f : Int) == 1) = false := by rw [beq_eq_false_iff_ne]; omega
  have y2 : ((f : Int) == 2) = false := by rw [beq_eq_false_iff_ne]; omega
  have y3 : ((f : Int) == 3) = false := by rw [beq_eq_false_iff_ne]; omega
  have y4 : ((f : Int) == 4) = false := by rw [beq_eq_false_iff_ne]; omega
  have y5 : ((f : Int) == 5) = false := by rw [beq_eq_false_iff_ne]; omega
  have y6 : ((f : Int) == 6) = false := by rw [beq_eq_false_iff_ne]; omega
  have y15 : ((f : Int) == 15) = false := by rw [beq_eq_false_iff_ne]; omega
  have y16 : ((f : Int) == 16) = false := by rw [beq_eq_false_iff_ne]; omega
  have y22 : ((f : Int) == 22) = false := by rw [beq_eq_false_iff_ne]; omega
  have y23 : ((f : Int) == 23) = false := by rw [beq_eq_false_iff_ne]; omega
  have HK := hid_as hk
  have hf8 : f < 256 := by rw [← hfn]; exact hS.bytes.at 0
  clear hk
  obtain ⟨x1, hx1e⟩ : ∃ x, x = bs.getD 1 0 := ⟨_, rfl⟩
  obtain ⟨x2, hx2e⟩ : ∃ x, x = bs.getD 2 0 := ⟨_, rfl⟩
  obtain ⟨A, hA⟩ : ∃ A, A = wordAt bs 1 := ⟨_, rfl⟩
  have hA' : 256 * x1 + x2 = A := by rw [hA, hx1e, hx2e]; rfl
  have hx1 : x1 < 256 := by rw [hx1e]; exact hS.bytes.at 1
  have hx2 : x2 < 256 := by rw [hx2e]; exact hS.bytes.at 2
  have hA16 : A < 65536 := by omega
  have HA : Hid (A = wordAt bs 1) := hA
  have k0 : w.cell? ⟨b, off, none⟩ = some (.int .u8 f) := by have h := hS.at 0 (by omega); rw [hfn] at h; exact h
  have k1 : w.cell? ⟨b, off + 1, none⟩ = some (.int .u8 x1) := by rw [hx1e]; exact hS.at 1 (by omega)
  have k2 : w.cell? ⟨b, off + 2, none⟩ = some (.int .u8 x2) := by rw [hx2e]; exact hS.at 2 (by omega)
  have hcap : n ≤ cap := hS.cap
  have HS : Hid (Bs w b off n cap bs) := hS
  have HFN : Hid (bs.getD 0 0 = f) := hfn
  clear hS hfn hx1e hx2e hA
  have hb : b < w.heap.size := lt_of_cell k0
  have hb1 : b < w.heap.size + 1 := by omega
  have hb2 : b < w.heap.size + 1 + 1 := by omega
  have hb3 : b < w.heap.size + 1 + 1 + 1 := by omega
  have hin : inside n 5 253 = true := by rw [inside_iff]; omega
  have hwi := withini_c n 5 253 (by decide) (by decide)
  have hwW := fun (W : World) (h1 : W.cell? ⟨b, off + 1, none⟩ = some (.int .u8 x1)) (h2 : W.cell? ⟨b, off + 1 + 1, none⟩ = some (.int .u8 x2)) => word_c b (off + 1) (n - 1) (cap - 1) x1 x2 W (by omega) hx1 hx2 h1 h2
  rw [hA'] at hwW
  clear hA' hx1 hx2
  go_enter Try.func24, Try.ntmps24
  go_upto_region 3 with (go_at_call 34; refine (hwi _).mono ?_; rintro e w' ⟨rfl, hw⟩; subst w'; rw [hin])
  clear hwi hin
  go_cut [4] from 7 (fun s4 wx => s4 = .pointer (some ⟨w.heap.size + 1 + 1, 0, none⟩) ∧ ∃ d, wx = (((w.alloc (.cells #[.int .u8 0, .int .u16 0, .int .u16 0, .int .u16 0, .slice none 0 0, .slice none 0 0] 26)).alloc (.cells #[.int .u16 5, .int .u16 253] 62)).alloc (.cells #[.int .u8 f, .int .u16 A, .int .u16 0, .int .u16 0, .slice none 0 0, .slice none 0 0] 26)).drewN d)
  case first =>
    have hsz : Hid (w.heap.size + 1 + 1 = ((w.alloc (.cells #[.int .u8 0, .int .u16 0, .int .u16 0, .int .u16 0, .slice none 0 0, .slice none 0 0] 26)).alloc (.cells #[.int .u16 5, .int .u16 253] 62)).heap.size) := show _ = _ by simp
    have hbn : ¬ (w.heap.size + 1 + 1 = b) := by omega
    have i0 : (0 : Int) < (n : Int) := by omega
    have i1 : (1 : Int) ≤ (n : Int) := by omega
    have j1 : 1 ≤ n := by omega
    have j2 : 1 < cap := by omega
    have j3 : ¬ cap = 1 := by omega
    have j4 : 1 ≤ cap := by omega
    have j5 : 0 < n := by omega
    go_region_held3 (fun w' => w'.cell? ⟨b, off, none⟩ = some (.int .u8 f)) (simp [World.cell?_alloc_past, World.cell?_setCell_far, hb, hb1, hb2, k0, hbn]) (first | (go_at_call 36; refine (hwW _ ?_ ?_).mono ?_; (simp [World.cell?_alloc_past, hb, hb1, hb2, k1]); (simp [World.cell?_alloc_past, hb, hb1, hb2, k2]); rintro e w' ⟨rfl, d, hw⟩; subst w'))
    all_goals (go_wp2_with fail; go_meet; refine And.intro rfl ?_; apply Exists.intro; first | rw [alloc_drewN] | rw [six_set _ _ _ hsz.out] | exact Eq.refl _)
  obtain ⟨rfl, d, hwc⟩ := hcut
  obtain ⟨z0, z2, k3, hs3⟩ := after_cut hwc
  have K3 : Hid (Below w.heap.size w wc) := k3
  have Z0 : Hid (wc.heap[w.heap.size]? = some (.cells #[.int .u8 0, .int .u16 0, .int .u16 0, .int .u16 0, .slice none 0 0, .slice none 0 0] 26 (0, 0))) := z0
  have Z2 : Hid (wc.heap[w.heap.size + 1 + 1]? = some (.cells #[.int .u8 f, .int .u16 A, .int .u16 0, .int .u16 0, .slice none 0 0, .slice none 0 0] 26 (0, 0))) := z2
  have S3 : Hid (Bs wc b off n cap bs) := HS.out.below k3
  clear hwW hwc z0 z2 k3 k0 k1 k2 hb1 hb2 hb3
  have h3 : ¬ cap = 3 := by omega
  have h3' : 3 ≤ n := by omega
  have h3i : (3 : Int) ≤ (n : Int) := by omega
  obtain ⟨⟨c0, c1, c2, c3, c4, c5⟩, hf2⟩ := block6 Z2.out
  obtain ⟨⟨r0, r1, r2, r3, r4, r5⟩, hf0⟩ := block6 Z0.out
  have f0 := hf2 0
  have f1 := hf2 1
  have f2 := hf2 2
  have f3 := hf2 3
  have f4 := hf2 4
  have f5 := hf2 5
  have g0 := hf0 0
  have g1 := hf0 1
  have g2 := hf0 2
  have g3 := hf0 3
  have g4 := hf0 4
  have g5 := hf0 5
  clear hf0 hf2
  go_wp2
  have BF := set_box (Box.mk r0 r1 r2 r3 r4 r5) (.int .u8 f) (.int .u16 A) (.int .u16 0) (.int .u16 0) (.slice none 0 0) (.slice none 0 0)
  obtain ⟨e0, e1, e2, e3, e4, e5⟩ := BF
  refine bodyPost_ret (v := .tuple #[.agg #[.int .u8 f, .int .u16 A, .int .u16 0, .int .u16 0, .slice none 0 0, .slice none 0 0], .bool false]) (by simp [results, Try.results24, go_sem, e0, e1, e2, e3, e4, e5]) rfl ⟨?_, _, _, ⟨f, A, 0, 0, [], []⟩, rfl, ⟨rq_ok hf8 hA16 (by decide) (by decide) no_words, _, _, rfl, Sl.nil _, Sl.nil _, new_nil, new_nil⟩, ?_⟩
  · exact below_six K3.out (Nat.le_refl _) _ _ _ _ _ _
  · exact took_none (fun hr => pl_other HK.out ((Says.iff ⟨HS.out.len, hn, hn2, HFN.out, HA.out, HV.out⟩).1 hr))
set_option linter.unusedSimpArgs false in
set_option linter.unusedVariables false in
set_option maxRecDepth 100000 in
set_option maxHeartbeats 1600000 in
theorem tk_short (ao : Option Addr) (n cap : Nat) (bs : List Nat) (w : World) (hl : n = bs.length) (h : ¬ (5 ≤ n ∧ n ≤ 253)) :
    Calls Try.prog 24 #[.slice ao n cap] w fun e w' => TookEnd bs w e w' := by
  have hin : inside n 5 253 = false := by rw [← Bool.not_eq_true, inside_iff]; exact h
  have HN : Hid (¬ IsReq bs) := fun hr => h (by rw [hl]; exact ⟨hr.1, hr.2.1⟩)
  clear h hl
  go_enter Try.func24, Try.ntmps24
  go_wp2_with fail
  refine (withini_c n 5 253 (by decide) (by decide) _).mono ?_
  rintro e w1 ⟨rfl, hw⟩
  subst w1
  rw [hin]
  go_wp2
  have BF := (Box.new w (.int .u8 0) (.int .u16 0) (.int .u16 0) (.int .u16 0) (.slice none 0 0) (.slice none 0 0) 26).grow (.cells #[.int .u16 5, .int .u16 253] 62)
  obtain ⟨e0, e1, e2, e3, e4, e5⟩ := BF
  refine bodyPost_ret (v := .tuple #[.agg #[.int .u8 0, .int .u16 0, .int .u16 0, .int .u16 0, .slice none 0 0, .slice none 0 0], .bool false]) (by simp [results, Try.results24, go_sem, e0, e1, e2, e3, e4, e5]) rfl ⟨?_, _, _, ⟨0, 0, 0, 0, [], []⟩, rfl, ⟨rq_ok (by decide) (by decide) (by decide) (by decide) no_words, _, _, rfl, Sl.nil _, Sl.nil _, new_nil, new_nil⟩, took_none HN.out⟩
  exact below_new (below_new (Below.refl _ w) _) _
end Go.Proofs.Ytehbbkdiekgpbab
