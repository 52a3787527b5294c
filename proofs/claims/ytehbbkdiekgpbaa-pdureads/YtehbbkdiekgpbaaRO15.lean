/- The walk: the reference reads a request: function 15. -/
import Derived.Test.YtehbbkdiekgpbaaTKAll
import Derived.Test.YtehbbkdiekgpbaaRReqAll
import Derived.Test.YtehbbkdiekgpbaaROB
namespace Go.Proofs.Ytehbbkdiekgpbaa
open Go.RowKit
open Pdu
set_option linter.unusedSimpArgs false in
set_option linter.unusedVariables false in
set_option maxRecDepth 100000 in
set_option maxHeartbeats 1600000 in
theorem ro15_s (b off n cap V : Nat) (bs : List Nat) (w : World) (hS : Bs w b off n cap bs) (hn : 5 ≤ n) (hn4 : n ≤ 400) (hfn : bs.getD 0 0 = 15) (hV : V = wordAt bs 3) (hT : n < 6) :
    Calls Try.prog 17 #[.slice (some ⟨b, off, none⟩) n cap] w fun e w' => OpenEnd bs w e w' := by
  have HT := hid_as hT
  have l6 : decide ((n : Int) < 6) = true := decide_eq_true (by omega)
  clear hT
  obtain ⟨A, hA⟩ : ∃ A, A = wordAt bs 1 := ⟨_, rfl⟩
  have hA16 : A < 65536 := by rw [hA]; exact wordAt_lt hS.bytes 1
  have hV16 : V < 65536 := by rw [hV]; exact wordAt_lt hS.bytes 3
  have HA : Hid (A = wordAt bs 1) := hA
  have HV : Hid (V = wordAt bs 3) := hV
  have k0 : w.cell? ⟨b, off, none⟩ = some (.int .u8 15) := by have h := hS.at 0 (by omega); rw [hfn] at h; exact h
  have hcap : n ≤ cap := hS.cap
  have HS : Hid (Bs w b off n cap bs) := hS
  have HFN : Hid (bs.getD 0 0 = 15) := hfn
  clear hS hfn hA hV
  have hb : b < w.heap.size := lt_of_cell k0
  have hb1 : b < w.heap.size + 1 := by omega
  have hbn : ¬ (w.heap.size + 1 = b) := by omega
  have T1 := fun (W : World) (h : Below w.heap.size w W) => HS.out.atw 1 1 rfl (by omega) (by omega) W h
  rw [← HA.out] at T1
  have T1 := hid_as T1
  have l5 : decide ((n : Int) < 5) = false := decide_eq_false (by omega)
  have i0 : (0 : Int) < (n : Int) := by omega
  have j5 : 0 < n := by omega
  go_enter Try.func17, Try.ntmps17
  go_upto_region 3 with fail
  go_cut [4] from 10 (fun s4 wx => s4 = .pointer (some ⟨w.heap.size + 1, 0, none⟩) ∧ ∃ d, wx = ((w.alloc (.cells #[.int .u8 0, .int .u16 0, .int .u16 0, .int .u16 0, .slice none 0 0, .slice none 0 0] 26)).alloc (.cells #[.int .u8 15, .int .u16 A, .int .u16 0, .int .u16 0, .slice none 0 0, .slice none 0 0] 26)).drewN d)
  case first =>
    have hsz : Hid (w.heap.size + 1 = (w.alloc (.cells #[.int .u8 0, .int .u16 0, .int .u16 0, .int .u16 0, .slice none 0 0, .slice none 0 0] 26)).heap.size) := show _ = _ by simp
    go_region_held3 (fun w' => w'.cell? ⟨b, off, none⟩ = some (.int .u8 15)) (simp [World.cell?_alloc_past, World.cell?_setCell_far, hb, hb1, k0, hbn]) (first | (go_at_call 41; with_reducible refine (T1.out _ ?_).mono ?_; (first | exact (below_new (Below.refl _ _) _).drew | exact (below_new (below_new (Below.refl _ _) _) _).drew); rintro e w' ⟨rfl, d, hw⟩; subst w'))
    all_goals (go_wp2_with fail; go_meet; refine And.intro rfl ?_; apply Exists.intro; first | rw [alloc_drewN] | rw [six_set _ _ _ hsz.out] | exact Eq.refl _)
  obtain ⟨rfl, d, hwc⟩ := hcut
  obtain ⟨z0, z2, k3, hs3⟩ := after_cut2 hwc
  have K3 : Hid (Below w.heap.size w wc) := k3
  have S3 : Hid (Bs wc b off n cap bs) := HS.out.below k3
  clear hwc k3 k0 hb1
  have T3 := S3.out.atw 3 3 rfl (by omega) (by omega) wc (Below.refl _ _)
  rw [← HV.out] at T3
  have T3 := hid_as T3
  go_wp2_with fail
  refine T3.out.mono ?_
  rintro e w2 ⟨rfl, d2, hw2⟩
  have Z0 : Hid (w2.heap[w.heap.size]? = some (.cells #[.int .u8 0, .int .u16 0, .int .u16 0, .int .u16 0, .slice none 0 0, .slice none 0 0] 26 (0, 0))) := by rw [hw2]; exact z0
  have Z2 : Hid (w2.heap[w.heap.size + 1]? = some (.cells #[.int .u8 15, .int .u16 A, .int .u16 0, .int .u16 0, .slice none 0 0, .slice none 0 0] 26 (0, 0))) := by rw [hw2]; exact z2
  have K2 : Hid (Below w.heap.size w w2) := by rw [hw2]; exact below_drewN K3.out _
  have hs2 : w.heap.size + 1 < w2.heap.size := by rw [hw2]; exact hs3
  have S2 : Hid (Bs w2 b off n cap bs) := HS.out.below K2.out
  clear hw2 T3 T1 z0 z2 K3 S3 hs3
  obtain ⟨⟨c0, c1, c2, c3, c4, c5⟩, hf2⟩ := block6 Z2.out
  obtain ⟨⟨r0, r1, r2, r3, r4, r5⟩, hf0⟩ := block6 Z0.out
  have f0 := hf2 0
  have f1 := hf2 1
  have f2 := hf2 2
  have f3 := hf2 3
  have f4 := hf2 4
  have f5 := hf2 5
  have g0 := hf0 0
  have g1 := hf0 1
  have g2 := hf0 2
  have g3 := hf0 3
  have g4 := hf0 4
  have g5 := hf0 5
  clear hf0 hf2
  go_wp2
  have BF := set_box (Box.mk r0 r1 r2 r3 r4 r5) (.int .u8 0) (.int .u16 0) (.int .u16 0) (.int .u16 0) (.slice none 0 0) (.slice none 0 0)
  obtain ⟨e0, e1, e2, e3, e4, e5⟩ := BF
  refine bodyPost_ret (v := .tuple #[.agg #[.int .u8 0, .int .u16 0, .int .u16 0, .int .u16 0, .slice none 0 0, .slice none 0 0], .int .i64 30]) (by simp [results, Try.results17, go_sem, e0, e1, e2, e3, e4, e5]) rfl ⟨below_six K2.out (Nat.le_refl _) _ _ _ _ _ _, Or.inr ⟨fun hr => by have h := (isReq_iff bs).1 hr; rw [HFN.out, ← HV.out, ← HS.out.len] at h; unfold IsReqN at h; have := HT.out; omega, rfl⟩⟩
set_option linter.unusedSimpArgs false in
set_option linter.unusedVariables false in
set_option maxRecDepth 100000 in
set_option maxHeartbeats 1600000 in
theorem ro15_a (b off n cap V : Nat) (bs : List Nat) (w : World) (hS : Bs w b off n cap bs) (hn : 5 ≤ n) (hn4 : n ≤ 400) (hfn : bs.getD 0 0 = 15) (hV : V = wordAt bs 3) (h6 : 6 ≤ n) (hT : V < 1) :
    Calls Try.prog 17 #[.slice (some ⟨b, off, none⟩) n cap] w fun e w' => OpenEnd bs w e w' := by
  have HT := hid_as hT
  have l6 : decide ((n : Int) < 6) = false := decide_eq_false (by omega)
  have l1 : decide ((V : Int) < 1) = true := decide_eq_true (by omega)
  clear hT
  obtain ⟨A, hA⟩ : ∃ A, A = wordAt bs 1 := ⟨_, rfl⟩
  have hA16 : A < 65536 := by rw [hA]; exact wordAt_lt hS.bytes 1
  have hV16 : V < 65536 := by rw [hV]; exact wordAt_lt hS.bytes 3
  have HA : Hid (A = wordAt bs 1) := hA
  have HV : Hid (V = wordAt bs 3) := hV
  have k0 : w.cell? ⟨b, off, none⟩ = some (.int .u8 15) := by have h := hS.at 0 (by omega); rw [hfn] at h; exact h
  have hcap : n ≤ cap := hS.cap
  have HS : Hid (Bs w b off n cap bs) := hS
  have HFN : Hid (bs.getD 0 0 = 15) := hfn
  clear hS hfn hA hV
  have hb : b < w.heap.size := lt_of_cell k0
  have hb1 : b < w.heap.size + 1 := by omega
  have hbn : ¬ (w.heap.size + 1 = b) := by omega
  have T1 := fun (W : World) (h : Below w.heap.size w W) => HS.out.atw 1 1 rfl (by omega) (by omega) W h
  rw [← HA.out] at T1
  have T1 := hid_as T1
  have l5 : decide ((n : Int) < 5) = false := decide_eq_false (by omega)
  have i0 : (0 : Int) < (n : Int) := by omega
  have j5 : 0 < n := by omega
  go_enter Try.func17, Try.ntmps17
  go_upto_region 3 with fail
  go_cut [4] from 10 (fun s4 wx => s4 = .pointer (some ⟨w.heap.size + 1, 0, none⟩) ∧ ∃ d, wx = ((w.alloc (.cells #[.int .u8 0, .int .u16 0, .int .u16 0, .int .u16 0, .slice none 0 0, .slice none 0 0] 26)).alloc (.cells #[.int .u8 15, .int .u16 A, .int .u16 0, .int .u16 0, .slice none 0 0, .slice none 0 0] 26)).drewN d)
  case first =>
    have hsz : Hid (w.heap.size + 1 = (w.alloc (.cells #[.int .u8 0, .int .u16 0, .int .u16 0, .int .u16 0, .slice none 0 0, .slice none 0 0] 26)).heap.size) := show _ = _ by simp
    go_region_held3 (fun w' => w'.cell? ⟨b, off, none⟩ = some (.int .u8 15)) (simp [World.cell?_alloc_past, World.cell?_setCell_far, hb, hb1, k0, hbn]) (first | (go_at_call 41; with_reducible refine (T1.out _ ?_).mono ?_; (first | exact (below_new (Below.refl _ _) _).drew | exact (below_new (below_new (Below.refl _ _) _) _).drew); rintro e w' ⟨rfl, d, hw⟩; subst w'))
    all_goals (go_wp2_with fail; go_meet; refine And.intro rfl ?_; apply Exists.intro; first | rw [alloc_drewN] | rw [six_set _ _ _ hsz.out] | exact Eq.refl _)
  obtain ⟨rfl, d, hwc⟩ := hcut
  obtain ⟨z0, z2, k3, hs3⟩ := after_cut2 hwc
  have K3 : Hid (Below w.heap.size w wc) := k3
  have S3 : Hid (Bs wc b off n cap bs) := HS.out.below k3
  clear hwc k3 k0 hb1
  have T3 := S3.out.atw 3 3 rfl (by omega) (by omega) wc (Below.refl _ _)
  rw [← HV.out] at T3
  have T3 := hid_as T3
  go_wp2_with fail
  refine T3.out.mono ?_
  rintro e w2 ⟨rfl, d2, hw2⟩
  have Z0 : Hid (w2.heap[w.heap.size]? = some (.cells #[.int .u8 0, .int .u16 0, .int .u16 0, .int .u16 0, .slice none 0 0, .slice none 0 0] 26 (0, 0))) := by rw [hw2]; exact z0
  have Z2 : Hid (w2.heap[w.heap.size + 1]? = some (.cells #[.int .u8 15, .int .u16 A, .int .u16 0, .int .u16 0, .slice none 0 0, .slice none 0 0] 26 (0, 0))) := by rw [hw2]; exact z2
  have K2 : Hid (Below w.heap.size w w2) := by rw [hw2]; exact below_drewN K3.out _
  have hs2 : w.heap.size + 1 < w2.heap.size := by rw [hw2]; exact hs3
  have S2 : Hid (Bs w2 b off n cap bs) := HS.out.below K2.out
  clear hw2 T3 T1 z0 z2 K3 S3 hs3
  obtain ⟨⟨c0, c1, c2, c3, c4, c5⟩, hf2⟩ := block6 Z2.out
  obtain ⟨⟨r0, r1, r2, r3, r4, r5⟩, hf0⟩ := block6 Z0.out
  have f0 := hf2 0
  have f1 := hf2 1
  have f2 := hf2 2
  have f3 := hf2 3
  have f4 := hf2 4
  have f5 := hf2 5
  have g0 := hf0 0
  have g1 := hf0 1
  have g2 := hf0 2
  have g3 := hf0 3
  have g4 := hf0 4
  have g5 := hf0 5
  clear hf0 hf2
  go_wp2
  have BF := set_box (Box.mk r0 r1 r2 r3 r4 r5) (.int .u8 0) (.int .u16 0) (.int .u16 0) (.int .u16 0) (.slice none 0 0) (.slice none 0 0)
  obtain ⟨e0, e1, e2, e3, e4, e5⟩ := BF
  refine bodyPost_ret (v := .tuple #[.agg #[.int .u8 0, .int .u16 0, .int .u16 0, .int .u16 0, .slice none 0 0, .slice none 0 0], .int .i64 30]) (by simp [results, Try.results17, go_sem, e0, e1, e2, e3, e4, e5]) rfl ⟨below_six K2.out (Nat.le_refl _) _ _ _ _ _ _, Or.inr ⟨fun hr => by have h := (isReq_iff bs).1 hr; rw [HFN.out, ← HV.out, ← HS.out.len] at h; unfold IsReqN at h; have := HT.out; omega, rfl⟩⟩
set_option linter.unusedSimpArgs false in
set_option linter.unusedVariables false in
set_option maxRecDepth 100000 in
set_option maxHeartbeats 1600000 in
theorem ro15_b (b off n cap V : Nat) (bs : List Nat) (w : World) (hS : Bs w b off n cap bs) (hn : 5 ≤ n) (hn4 : n ≤ 400) (hfn : bs.getD 0 0 = 15) (hV : V = wordAt bs 3) (h6 : 6 ≤ n) (v1 : 1 ≤ V) (hT : 1968 < V) :
    Calls Try.prog 17 #[.slice (some ⟨b, off, none⟩) n cap] w fun e w' => OpenEnd bs w e w' := by
  have HT := hid_as hT
  have l6 : decide ((n : Int) < 6) = false := decide_eq_false (by omega)
  have l1 : decide ((V : Int) < 1) = false := decide_eq_false (by omega)
  have l2 : decide ((1968 : Int) < (V : Int)) = true := decide_eq_true (by omega)
  clear hT
  obtain ⟨A, hA⟩ : ∃ A, A = wordAt bs 1 := ⟨_, rfl⟩
  have hA16 : A < 65536 := by rw [hA]; exact wordAt_lt hS.bytes 1
  have hV16 : V < 65536 := by rw [hV]; exact wordAt_lt hS.bytes 3
  have HA : Hid (A = wordAt bs 1) := hA
  have HV : Hid (V = wordAt bs 3) := hV
  have k0 : w.cell? ⟨b, off, none⟩ = some (.int .u8 15) := by have h := hS.at 0 (by omega); rw [hfn] at h; exact h
  have hcap : n ≤ cap := hS.cap
  have HS : Hid (Bs w b off n cap bs) := hS
  have HFN : Hid (bs.getD 0 0 = 15) := hfn
  clear hS hfn hA hV
  have hb : b < w.heap.size := lt_of_cell k0
  have hb1 : b < w.heap.size + 1 := by omega
  have hbn : ¬ (w.heap.size + 1 = b) := by omega
  have T1 := fun (W : World) (h : Below w.heap.size w W) => HS.out.atw 1 1 rfl (by omega) (by omega) W h
  rw [← HA.out] at T1
  have T1 := hid_as T1
  have l5 : decide ((n : Int) < 5) = false := decide_eq_false (by omega)
  have i0 : (0 : Int) < (n : Int) := by omega
  have j5 : 0 < n := by omega
  go_enter Try.func17, Try.ntmps17
  go_upto_region 3 with fail
  go_cut [4] from 10 (fun s4 wx => s4 = .pointer (some ⟨w.heap.size + 1, 0, none⟩) ∧ ∃ d, wx = ((w.alloc (.cells #[.int .u8 0, .int .u16 0, .int .u16 0, .int .u16 0, .slice none 0 0, .slice none 0 0] 26)).alloc (.cells #[.int .u8 15, .int .u16 A, .int .u16 0, .int .u16 0, .slice none 0 0, .slice none 0 0] 26)).drewN d)
  case first =>
    have hsz : Hid (w.heap.size + 1 = (w.alloc (.cells #[.int .u8 0, .int .u16 0, .int .u16 0, .int .u16 0, .slice none 0 0, .slice none 0 0] 26)).heap.size) := show _ = _ by simp
    go_region_held3 (fun w' => w'.cell? ⟨b, off, none⟩ = some (.int .u8 15)) (simp [World.cell?_alloc_past, World.cell?_setCell_far, hb, hb1, k0, hbn]) (first | (go_at_call 41; with_reducible refine (T1.out _ ?_).mono ?_; (first | exact (below_new (Below.refl _ _) _).drew | exact (below_new (below_new (Below.refl _ _) _) _).drew); rintro e w' ⟨rfl, d, hw⟩; subst w'))
    all_goals (go_wp2_with fail; go_meet; refine And.intro rfl ?_; apply Exists.intro; first | rw [alloc_drewN] | rw [six_set _ _ _ hsz.out] | exact Eq.refl _)
  obtain ⟨rfl, d, hwc⟩ := hcut
  obtain ⟨z0, z2, k3, hs3⟩ := after_cut2 hwc
  have K3 : Hid (Below w.heap.size w wc) := k3
  have S3 : Hid (Bs wc b off n cap bs) := HS.out.below k3
  clear hwc k3 k0 hb1
  have T3 := S3.out.atw 3 3 rfl (by omega) (by omega) wc (Below.refl _ _)
  rw [← HV.out] at T3
  have T3 := hid_as T3
  go_wp2_with fail
  refine T3.out.mono ?_
  rintro e w2 ⟨rfl, d2, hw2⟩
  have Z0 : Hid (w2.heap[w.heap.size]? = some (.cells #[.int .u8 0, .int .u16 0, .int .u16 0, .int .u16 0, .slice none 0 0, .slice none 0 0] 26 (0, 0))) := by rw [hw2]; exact z0
  have Z2 : Hid (w2.heap[w.heap.size + 1]? = some (.cells #[.int .u8 15, .int .u16 A, .int .u16 0, .int .u16 0, .slice none 0 0, .slice none 0 0] 26 (0, 0))) := by rw [hw2]; exact z2
  have K2 : Hid (Below w.heap.size w w2) := by rw [hw2]; exact below_drewN K3.out _
  have hs2 : w.heap.size + 1 < w2.heap.size := by rw [hw2]; exact hs3
  have S2 : Hid (Bs w2 b off n cap bs) := HS.out.below K2.out
  clear hw2 T3 T1 z0 z2 K3 S3 hs3
  obtain ⟨⟨c0, c1, c2, c3, c4, c5⟩, hf2⟩ := block6 Z2.out
  obtain ⟨⟨r0, r1, r2, r3, r4, r5⟩, hf0⟩ := block6 Z0.out
  have f0 := hf2 0
  have f1 := hf2 1
  have f2 := hf2 2
  have f3 := hf2 3
  have f4 := hf2 4
  have f5 := hf2 5
  have g0 := hf0 0
  have g1 := hf0 1
  have g2 := hf0 2
  have g3 := hf0 3
  have g4 := hf0 4
  have g5 := hf0 5
  clear hf0 hf2
  go_wp2
  have BF := set_box (Box.mk r0 r1 r2 r3 r4 r5) (.int .u8 0) (.int .u16 0) (.int .u16 0) (.int .u16 0) (.slice none 0 0) (.slice none 0 0)
  obtain ⟨e0, e1, e2, e3, e4, e5⟩ := BF
  refine bodyPost_ret (v := .tuple #[.agg #[.int .u8 0, .int .u16 0, .int .u16 0, .int .u16 0, .slice none 0 0, .slice none 0 0], .int .i64 30]) (by simp [results, Try.results17, go_sem, e0, e1, e2, e3, e4, e5]) rfl ⟨below_six K2.out (Nat.le_refl _) _ _ _ _ _ _, Or.inr ⟨fun hr => by have h := (isReq_iff bs).1 hr; rw [HFN.out, ← HV.out, ← HS.out.len] at h; unfold IsReqN at h; have := HT.out; omega, rfl⟩⟩
set_option linter.unusedSimpArgs false in
set_option linter.unusedVariables false in
set_option maxRecDepth 100000 in
set_option maxHeartbeats 1600000 in
theorem ro15_c (b off n cap V : Nat) (bs : List Nat) (w : World) (hS : Bs w b off n cap bs) (hn : 5 ≤ n) (hn4 : n ≤ 400) (hfn : bs.getD 0 0 = 15) (hV : V = wordAt bs 3) (h6 : 6 ≤ n) (v1 : 1 ≤ V) (v2 : V ≤ 1968) (hT : n ≠ 6 + bs.getD 5 0) :
    Calls Try.prog 17 #[.slice (some ⟨b, off, none⟩) n cap] w fun e w' => OpenEnd bs w e w' := by
  have HT := hid_as hT
  have l6 : decide ((n : Int) < 6) = false := decide_eq_false (by omega)
  have l1 : decide ((V : Int) < 1) = false := decide_eq_false (by omega)
  have l2 : decide ((1968 : Int) < (V : Int)) = false := decide_eq_false (by omega)
  obtain ⟨x5, hx5⟩ : ∃ x, x = bs.getD 5 0 := ⟨_, rfl⟩
  have hx5l : x5 < 256 := by rw [hx5]; exact hS.bytes.at 5
  have k5 : w.cell? ⟨b, off + 5, none⟩ = some (.int .u8 x5) := by rw [hx5]; exact hS.at 5 (by omega)
  have i5 : (5 : Int) < (n : Int) := by omega
  have i5' : 5 < n := by omega
  have hb5 : b < w.heap.size := lt_of_cell k5
  have l3 : ((n : Int) == 6 + (x5 : Int)) = false := by rw [beq_eq_false_iff_ne, hx5]; omega
  have K5C := hid_as k5
  clear k5 hx5
  clear hT
  obtain ⟨A, hA⟩ : ∃ A, A = wordAt bs 1 := ⟨_, rfl⟩
  have hA16 : A < 65536 := by rw [hA]; exact wordAt_lt hS.bytes 1
  have hV16 : V < 65536 := by rw [hV]; exact wordAt_lt hS.bytes 3
  have HA : Hid (A = wordAt bs 1) := hA
  have HV : Hid (V = wordAt bs 3) := hV
  have k0 : w.cell? ⟨b, off, none⟩ = some (.int .u8 15) := by have h := hS.at 0 (by omega); rw [hfn] at h; exact h
  have hcap : n ≤ cap := hS.cap
  have HS : Hid (Bs w b off n cap bs) := hS
  have HFN : Hid (bs.getD 0 0 = 15) := hfn
  clear hS hfn hA hV
  have hb : b < w.heap.size := lt_of_cell k0
  have hb1 : b < w.heap.size + 1 := by omega
  have hbn : ¬ (w.heap.size + 1 = b) := by omega
  have T1 := fun (W : World) (h : Below w.heap.size w W) => HS.out.atw 1 1 rfl (by omega) (by omega) W h
  rw [← HA.out] at T1
  have T1 := hid_as T1
  have l5 : decide ((n : Int) < 5) = false := decide_eq_false (by omega)
  have i0 : (0 : Int) < (n : Int) := by omega
  have j5 : 0 < n := by omega
  go_enter Try.func17, Try.ntmps17
  go_upto_region 3 with fail
  go_cut [4] from 10 (fun s4 wx => s4 = .pointer (some ⟨w.heap.size + 1, 0, none⟩) ∧ ∃ d, wx = ((w.alloc (.cells #[.int .u8 0, .int .u16 0, .int .u16 0, .int .u16 0, .slice none 0 0, .slice none 0 0] 26)).alloc (.cells #[.int .u8 15, .int .u16 A, .int .u16 0, .int .u16 0, .slice none 0 0, .slice none 0 0] 26)).drewN d)
  case first =>
    have hsz : Hid (w.heap.size + 1 = (w.alloc (.cells #[.int .u8 0, .int .u16 0, .int .u16 0, .int .u16 0, .slice none 0 0, .slice none 0 0] 26)).heap.size) := show _ = _ by simp
    go_region_held3 (fun w' => w'.cell? ⟨b, off, none⟩ = some (.int .u8 15)) (simp [World.cell?_alloc_past, World.cell?_setCell_far, hb, hb1, k0, hbn]) (first | (go_at_call 41; with_reducible refine (T1.out _ ?_).mono ?_; (first | exact (below_new (Below.refl _ _) _).drew | exact (below_new (below_new (Below.refl _ _) _) _).drew); rintro e w' ⟨rfl, d, hw⟩; subst w'))
    all_goals (go_wp2_with fail; go_meet; refine And.intro rfl ?_; apply Exists.intro; first | rw [alloc_drewN] | rw [six_set _ _ _ hsz.out] | exact Eq.refl _)
  obtain ⟨rfl, d, hwc⟩ := hcut
  obtain ⟨z0, z2, k3, hs3⟩ := after_cut2 hwc
  have K3 : Hid (Below w.heap.size w wc) := k3
  have S3 : Hid (Bs wc b off n cap bs) := HS.out.below k3
  clear hwc k3 k0 hb1
  have T3 := S3.out.atw 3 3 rfl (by omega) (by omega) wc (Below.refl _ _)
  rw [← HV.out] at T3
  have T3 := hid_as T3
  go_wp2_with fail
  refine T3.out.mono ?_
  rintro e w2 ⟨rfl, d2, hw2⟩
  have Z0 : Hid (w2.heap[w.heap.size]? = some (.cells #[.int .u8 0, .int .u16 0, .int .u16 0, .int .u16 0, .slice none 0 0, .slice none 0 0] 26 (0, 0))) := by rw [hw2]; exact z0
  have Z2 : Hid (w2.heap[w.heap.size + 1]? = some (.cells #[.int .u8 15, .int .u16 A, .int .u16 0, .int .u16 0, .slice none 0 0, .slice none 0 0] 26 (0, 0))) := by rw [hw2]; exact z2
  have K2 : Hid (Below w.heap.size w w2) := by rw [hw2]; exact below_drewN K3.out _
  have hs2 : w.heap.size + 1 < w2.heap.size := by rw [hw2]; exact hs3
  have S2 : Hid (Bs w2 b off n cap bs) := HS.out.below K2.out
  clear hw2 T3 T1 z0 z2 K3 S3 hs3
  have k5 : w2.cell? ⟨b, off + 5, none⟩ = some (.int .u8 x5) := (K2.out.cell (p := ⟨b, off + 5, none⟩) hb).trans K5C.out
  obtain ⟨⟨c0, c1, c2, c3, c4, c5⟩, hf2⟩ := block6 Z2.out
  obtain ⟨⟨r0, r1, r2, r3, r4, r5⟩, hf0⟩ := block6 Z0.out
  have f0 := hf2 0
  have f1 := hf2 1
  have f2 := hf2 2
  have f3 := hf2 3
  have f4 := hf2 4
  have f5 := hf2 5
  have g0 := hf0 0
  have g1 := hf0 1
  have g2 := hf0 2
  have g3 := hf0 3
  have g4 := hf0 4
  have g5 := hf0 5
  clear hf0 hf2
  go_wp2
  have BF := set_box (Box.mk r0 r1 r2 r3 r4 r5) (.int .u8 0) (.int .u16 0) (.int .u16 0) (.int .u16 0) (.slice none 0 0) (.slice none 0 0)
  obtain ⟨e0, e1, e2, e3, e4, e5⟩ := BF
  refine bodyPost_ret (v := .tuple #[.agg #[.int .u8 0, .int .u16 0, .int .u16 0, .int .u16 0, .slice none 0 0, .slice none 0 0], .int .i64 30]) (by simp [results, Try.results17, go_sem, e0, e1, e2, e3, e4, e5]) rfl ⟨below_six K2.out (Nat.le_refl _) _ _ _ _ _ _, Or.inr ⟨fun hr => by have h := (isReq_iff bs).1 hr; rw [HFN.out, ← HV.out, ← HS.out.len] at h; unfold IsReqN at h; have := HT.out; omega, rfl⟩⟩
end Go.Proofs.Ytehbbkdiekgpbaa
