/- The walk: the reply to a request that only writes. -/
import Derived.Test.YtehbbkdiekgpbaaClone
namespace Go.Proofs.Ytehbbkdiekgpbaa
open Go.RowKit
open Pdu
theorem three_new (w : World) (o0 o1 o2 : Obj) : (((w.alloc o0).alloc o1).alloc o2).heap[w.heap.size]? = some o0 ∧ (((w.alloc o0).alloc o1).alloc o2).heap[w.heap.size + 1]? = some o1 ∧ (((w.alloc o0).alloc o1).alloc o2).heap[w.heap.size + 1 + 1]? = some o2 ∧ Below w.heap.size w (((w.alloc o0).alloc o1).alloc o2) ∧ w.heap.size + 1 + 1 < (((w.alloc o0).alloc o1).alloc o2).heap.size := by
  have e1 : (w.alloc o0).heap.size = w.heap.size + 1 := World.size_alloc _ _
  have e2 : ((w.alloc o0).alloc o1).heap.size = w.heap.size + 1 + 1 := by rw [World.size_alloc, e1]
  have e3 : (((w.alloc o0).alloc o1).alloc o2).heap.size = w.heap.size + 1 + 1 + 1 := by rw [World.size_alloc, e2]
  refine ⟨?_, ?_, ?_, below_new (below_new (below_new (Below.refl _ w) _) _) _, by rw [e3]; omega⟩
  · rw [Below.heap_alloc _ _ _ (by rw [e2]; omega), Below.heap_alloc _ _ _ (by rw [e1]; omega)]
    exact heap_alloc_new w o0
  · rw [Below.heap_alloc _ _ _ (by rw [e2]; omega)]
    have h := heap_alloc_new (w.alloc o0) o1
    rw [e1] at h
    exact h
  · have h := heap_alloc_new ((w.alloc o0).alloc o1) o2
    rw [e2] at h
    exact h
set_option linter.unusedSimpArgs false in
set_option linter.unusedVariables false in
set_option maxRecDepth 100000 in
set_option maxHeartbeats 1600000 in
theorem echo5 (a1 a2 a3 nb nr ac rc : Nat) (a4 : List Bool) (a5 : List Nat) (ao ro : Option Addr) (w : World) (h4 : Sl w (.slice ao nb ac) (bls a4)) (h5 : Sl w (.slice ro nr rc) (u16s a5)) (hb : nb = a4.length) (hr : nr = a5.length) (lb : nb ≤ 2000) (lr : nr ≤ 200) (hA : a1 < 65536) (hw : Words a5) :
    Calls Try.prog 57 #[.agg #[.int .u8 5, .int .u16 a1, .int .u16 a2, .int .u16 a3, .slice ao nb ac, .slice ro nr rc]] w fun e w' => ∃ v, e = .returned v ∧ IsRpN w.heap.size w' v (echo ⟨5, a1, a2, a3, a4, a5⟩) ∧ Below w.heap.size w w' := by
  have H4 := hid_as h4
  have H5 := hid_as h5
  have HB := hid_as hb
  have HR := hid_as hr
  have e1 : IntKind.u16.wrap (nb : Int) = (nb : Int) := by rw [IntKind.wrap_u16]; omega
  have e2 : IntKind.u16.wrap (nr : Int) = (nr : Int) := by rw [IntKind.wrap_u16]; omega
  clear h4 h5 hb hr
  go_enter Try.func57, Try.ntmps57
  go_wp2_with fail
  have TW := three_new w (.cells #[.int .u8 5, .int .u16 a1, .int .u16 a2, .int .u16 a3, .slice ao nb ac, .slice ro nr rc] 26) (.cells #[.int .u8 0, .int .u8 0, .int .u16 0, .int .u16 0, .slice none 0 0, .slice none 0 0] 44) (.cells #[.int .u8 5, .int .u8 0, .int .u16 a1, .int .u16 0, .slice none 0 0, .slice none 0 0] 44)
  generalize (((w.alloc (.cells #[.int .u8 5, .int .u16 a1, .int .u16 a2, .int .u16 a3, .slice ao nb ac, .slice ro nr rc] 26)).alloc (.cells #[.int .u8 0, .int .u8 0, .int .u16 0, .int .u16 0, .slice none 0 0, .slice none 0 0] 44)).alloc (.cells #[.int .u8 5, .int .u8 0, .int .u16 a1, .int .u16 0, .slice none 0 0, .slice none 0 0] 44)) = W at TW ⊢
  obtain ⟨q0, q1, q2, K, hs⟩ := TW
  refine (cloneb_c (H4.out.below K) (by have := HB.out; omega)).mono ?_
  rintro e w2 ⟨v2, rfl, own2, k2⟩
  obtain ⟨so, sc, hv⟩ := own_shape2 own2
  subst hv
  have p1 := (k2.block (w.heap.size + 1) (by omega)).trans q1
  have p2 := (k2.block (w.heap.size + 1 + 1) hs).trans q2
  have K2 : Hid (Below w.heap.size w w2) := below_and K k2
  have OWN : Hid (w2.ownsRow W.heap.size 4 1 (.slice so a4.length sc) a4.length (bls a4)) := own2
  obtain ⟨⟨r0, r1, r2, r3, r4, r5⟩, hf1⟩ := block6 p1
  obtain ⟨⟨d0, d1, d2, d3, d4, d5⟩, hf2⟩ := block6 p2
  have g0 := hf1 0
  have g1 := hf1 1
  have g2 := hf1 2
  have g3 := hf1 3
  have g4 := hf1 4
  have g5 := hf1 5
  have f0 := hf2 0
  have f1 := hf2 1
  have f2 := hf2 2
  have f3 := hf2 3
  have f4 := hf2 4
  have f5 := hf2 5
  clear hf1 hf2 p1 p2 q0 q1 q2 own2 k2 K
  go_wp2
  have BF := set_box ((Box.mk r0 r1 r2 r3 r4 r5).far (p := ⟨w.heap.size + 1 + 1, 4, none⟩) (by simp) (.slice so a4.length sc)) (.int .u8 5) (.int .u8 0) (.int .u16 a1) (.int .u16 0) (.slice so a4.length sc) (.slice none 0 0)
  obtain ⟨e0, e1, e2, e3, e4, e5⟩ := BF
  have he : echo ⟨5, a1, a2, a3, a4, a5⟩ = ⟨5, 0, a1, 0, a4, []⟩ := by simp [echo]
  rw [he]
  exact bodyPost_ret (v := .agg #[.int .u8 5, .int .u8 0, .int .u16 a1, .int .u16 0, .slice so a4.length sc, .slice none 0 0]) (by simp [results, Try.results57, go_sem, e0, e1, e2, e3, e4, e5]) rfl ⟨_, rfl, ⟨rp_ok (by decide) (by decide) hA (by decide) no_words, _, _, rfl, own_sl (own_six (own_set OWN.out (p := ⟨w.heap.size + 1 + 1, 4, none⟩) (by simp; omega) _) (by omega) _ _ _ _ _ _), Sl.nil _, new_own OWN.out (by omega), new_nil⟩, below_six (Below.setCell K2.out (by simp; omega) _) (Nat.le_succ _) _ _ _ _ _ _⟩
set_option linter.unusedSimpArgs false in
set_option linter.unusedVariables false in
set_option maxRecDepth 100000 in
set_option maxHeartbeats 1600000 in
theorem echo6 (a1 a2 a3 nb nr ac rc : Nat) (a4 : List Bool) (a5 : List Nat) (ao ro : Option Addr) (w : World) (h4 : Sl w (.slice ao nb ac) (bls a4)) (h5 : Sl w (.slice ro nr rc) (u16s a5)) (hb : nb = a4.length) (hr : nr = a5.length) (lb : nb ≤ 2000) (lr : nr ≤ 200) (hA : a1 < 65536) (hw : Words a5) :
    Calls Try.prog 57 #[.agg #[.int .u8 6, .int .u16 a1, .int .u16 a2, .int .u16 a3, .slice ao nb ac, .slice ro nr rc]] w fun e w' => ∃ v, e = .returned v ∧ IsRpN w.heap.size w' v (echo ⟨6, a1, a2, a3, a4, a5⟩) ∧ Below w.heap.size w w' := by
  have H4 := hid_as h4
  have H5 := hid_as h5
  have HB := hid_as hb
  have HR := hid_as hr
  have e1 : IntKind.u16.wrap (nb : Int) = (nb : Int) := by rw [IntKind.wrap_u16]; omega
  have e2 : IntKind.u16.wrap (nr : Int) = (nr : Int) := by rw [IntKind.wrap_u16]; omega
  clear h4 h5 hb hr
  go_enter Try.func57, Try.ntmps57
  go_wp2_with fail
  have TW := three_new w (.cells #[.int .u8 6, .int .u16 a1, .int .u16 a2, .int .u16 a3, .slice ao nb ac, .slice ro nr rc] 26) (.cells #[.int .u8 0, .int .u8 0, .int .u16 0, .int .u16 0, .slice none 0 0, .slice none 0 0] 44) (.cells #[.int .u8 6, .int .u8 0, .int .u16 a1, .int .u16 0, .slice none 0 0, .slice none 0 0] 44)
  generalize (((w.alloc (.cells #[.int .u8 6, .int .u16 a1, .int .u16 a2, .int .u16 a3, .slice ao nb ac, .slice ro nr rc] 26)).alloc (.cells #[.int .u8 0, .int .u8 0, .int .u16 0, .int .u16 0, .slice none 0 0, .slice none 0 0] 44)).alloc (.cells #[.int .u8 6, .int .u8 0, .int .u16 a1, .int .u16 0, .slice none 0 0, .slice none 0 0] 44)) = W at TW ⊢
  obtain ⟨q0, q1, q2, K, hs⟩ := TW
  refine (clonew_c (H5.out.below K) (by have := HR.out; omega)).mono ?_
  rintro e w2 ⟨v2, rfl, own2, k2⟩
  obtain ⟨so, sc, hv⟩ := own_shape2 own2
  subst hv
  have p1 := (k2.block (w.heap.size + 1) (by omega)).trans q1
  have p2 := (k2.block (w.heap.size + 1 + 1) hs).trans q2
  have K2 : Hid (Below w.heap.size w w2) := below_and K k2
  have OWN : Hid (w2.ownsRow W.heap.size 22 1 (.slice so a5.length sc) a5.length (u16s a5)) := own2
  obtain ⟨⟨r0, r1, r2, r3, r4, r5⟩, hf1⟩ := block6 p1
  obtain ⟨⟨d0, d1, d2, d3, d4, d5⟩, hf2⟩ := block6 p2
  have g0 := hf1 0
  have g1 := hf1 1
  have g2 := hf1 2
  have g3 := hf1 3
  have g4 := hf1 4
  have g5 := hf1 5
  have f0 := hf2 0
  have f1 := hf2 1
  have f2 := hf2 2
  have f3 := hf2 3
  have f4 := hf2 4
  have f5 := hf2 5
  clear hf1 hf2 p1 p2 q0 q1 q2 own2 k2 K
  go_wp2
  have BF := set_box ((Box.mk r0 r1 r2 r3 r4 r5).far (p := ⟨w.heap.size + 1 + 1, 5, none⟩) (by simp) (.slice so a5.length sc)) (.int .u8 6) (.int .u8 0) (.int .u16 a1) (.int .u16 0) (.slice none 0 0) (.slice so a5.length sc)
  obtain ⟨e0, e1, e2, e3, e4, e5⟩ := BF
  have he : echo ⟨6, a1, a2, a3, a4, a5⟩ = ⟨6, 0, a1, 0, [], a5⟩ := by simp [echo]
  rw [he]
  exact bodyPost_ret (v := .agg #[.int .u8 6, .int .u8 0, .int .u16 a1, .int .u16 0, .slice none 0 0, .slice so a5.length sc]) (by simp [results, Try.results57, go_sem, e0, e1, e2, e3, e4, e5]) rfl ⟨_, rfl, ⟨rp_ok (by decide) (by decide) hA (by decide) hw, _, _, rfl, Sl.nil _, own_sl (own_six (own_set OWN.out (p := ⟨w.heap.size + 1 + 1, 5, none⟩) (by simp; omega) _) (by omega) _ _ _ _ _ _), new_nil, new_own OWN.out (by omega)⟩, below_six (Below.setCell K2.out (by simp; omega) _) (Nat.le_succ _) _ _ _ _ _ _⟩
set_option linter.unusedSimpArgs false in
set_option linter.unusedVariables false in
set_option maxRecDepth 100000 in
set_option maxHeartbeats 1600000 in
theorem echo22 (a1 a2 a3 nb nr ac rc : Nat) (a4 : List Bool) (a5 : List Nat) (ao ro : Option Addr) (w : World) (h4 : Sl w (.slice ao nb ac) (bls a4)) (h5 : Sl w (.slice ro nr rc) (u16s a5)) (hb : nb = a4.length) (hr : nr = a5.length) (lb : nb ≤ 2000) (lr : nr ≤ 200) (hA : a1 < 65536) (hw : Words a5) :
    Calls Try.prog 57 #[.agg #[.int .u8 22, .int .u16 a1, .int .u16 a2, .int .u16 a3, .slice ao nb ac, .slice ro nr rc]] w fun e w' => ∃ v, e = .returned v ∧ IsRpN w.heap.size w' v (echo ⟨22, a1, a2, a3, a4, a5⟩) ∧ Below w.heap.size w w' := by
  have H4 := hid_as h4
  have H5 := hid_as h5
  have HB := hid_as hb
  have HR := hid_as hr
  have e1 : IntKind.u16.wrap (nb : Int) = (nb : Int) := by rw [IntKind.wrap_u16]; omega
  have e2 : IntKind.u16.wrap (nr : Int) = (nr : Int) := by rw [IntKind.wrap_u16]; omega
  clear h4 h5 hb hr
  go_enter Try.func57, Try.ntmps57
  go_wp2_with fail
  have TW := three_new w (.cells #[.int .u8 22, .int .u16 a1, .int .u16 a2, .int .u16 a3, .slice ao nb ac, .slice ro nr rc] 26) (.cells #[.int .u8 0, .int .u8 0, .int .u16 0, .int .u16 0, .slice none 0 0, .slice none 0 0] 44) (.cells #[.int .u8 22, .int .u8 0, .int .u16 a1, .int .u16 0, .slice none 0 0, .slice none 0 0] 44)
  generalize (((w.alloc (.cells #[.int .u8 22, .int .u16 a1, .int .u16 a2, .int .u16 a3, .slice ao nb ac, .slice ro nr rc] 26)).alloc (.cells #[.int .u8 0, .int .u8 0, .int .u16 0, .int .u16 0, .slice none 0 0, .slice none 0 0] 44)).alloc (.cells #[.int .u8 22, .int .u8 0, .int .u16 a1, .int .u16 0, .slice none 0 0, .slice none 0 0] 44)) = W at TW ⊢
  obtain ⟨q0, q1, q2, K, hs⟩ := TW
  refine (clonew_c (H5.out.below K) (by have := HR.out; omega)).mono ?_
  rintro e w2 ⟨v2, rfl, own2, k2⟩
  obtain ⟨so, sc, hv⟩ := own_shape2 own2
  subst hv
  have p1 := (k2.block (w.heap.size + 1) (by omega)).trans q1
  have p2 := (k2.block (w.heap.size + 1 + 1) hs).trans q2
  have K2 : Hid (Below w.heap.size w w2) := below_and K k2
  have OWN : Hid (w2.ownsRow W.heap.size 22 1 (.slice so a5.length sc) a5.length (u16s a5)) := own2
  obtain ⟨⟨r0, r1, r2, r3, r4, r5⟩, hf1⟩ := block6 p1
  obtain ⟨⟨d0, d1, d2, d3, d4, d5⟩, hf2⟩ := block6 p2
  have g0 := hf1 0
  have g1 := hf1 1
  have g2 := hf1 2
  have g3 := hf1 3
  have g4 := hf1 4
  have g5 := hf1 5
  have f0 := hf2 0
  have f1 := hf2 1
  have f2 := hf2 2
  have f3 := hf2 3
  have f4 := hf2 4
  have f5 := hf2 5
  clear hf1 hf2 p1 p2 q0 q1 q2 own2 k2 K
  go_wp2
  have BF := set_box ((Box.mk r0 r1 r2 r3 r4 r5).far (p := ⟨w.heap.size + 1 + 1, 5, none⟩) (by simp) (.slice so a5.length sc)) (.int .u8 22) (.int .u8 0) (.int .u16 a1) (.int .u16 0) (.slice none 0 0) (.slice so a5.length sc)
  obtain ⟨e0, e1, e2, e3, e4, e5⟩ := BF
  have he : echo ⟨22, a1, a2, a3, a4, a5⟩ = ⟨22, 0, a1, 0, [], a5⟩ := by simp [echo]
  rw [he]
  exact bodyPost_ret (v := .agg #[.int .u8 22, .int .u8 0, .int .u16 a1, .int .u16 0, .slice none 0 0, .slice so a5.length sc]) (by simp [results, Try.results57, go_sem, e0, e1, e2, e3, e4, e5]) rfl ⟨_, rfl, ⟨rp_ok (by decide) (by decide) hA (by decide) hw, _, _, rfl, Sl.nil _, own_sl (own_six (own_set OWN.out (p := ⟨w.heap.size + 1 + 1, 5, none⟩) (by simp; omega) _) (by omega) _ _ _ _ _ _), new_nil, new_own OWN.out (by omega)⟩, below_six (Below.setCell K2.out (by simp; omega) _) (Nat.le_succ _) _ _ _ _ _ _⟩
set_option linter.unusedSimpArgs false in
set_option linter.unusedVariables false in
set_option maxRecDepth 100000 in
set_option maxHeartbeats 1600000 in
theorem echo15 (a1 a2 a3 nb nr ac rc : Nat) (a4 : List Bool) (a5 : List Nat) (ao ro : Option Addr) (w : World) (h4 : Sl w (.slice ao nb ac) (bls a4)) (h5 : Sl w (.slice ro nr rc) (u16s a5)) (hb : nb = a4.length) (hr : nr = a5.length) (lb : nb ≤ 2000) (lr : nr ≤ 200) (hA : a1 < 65536) (hw : Words a5) :
    Calls Try.prog 57 #[.agg #[.int .u8 15, .int .u16 a1, .int .u16 a2, .int .u16 a3, .slice ao nb ac, .slice ro nr rc]] w fun e w' => ∃ v, e = .returned v ∧ IsRpN w.heap.size w' v (echo ⟨15, a1, a2, a3, a4, a5⟩) ∧ Below w.heap.size w w' := by
  have H4 := hid_as h4
  have H5 := hid_as h5
  have HB := hid_as hb
  have HR := hid_as hr
  have e1 : IntKind.u16.wrap (nb : Int) = (nb : Int) := by rw [IntKind.wrap_u16]; omega
  have e2 : IntKind.u16.wrap (nr : Int) = (nr : Int) := by rw [IntKind.wrap_u16]; omega
  clear h4 h5 hb hr
  go_enter Try.func57, Try.ntmps57
  go_wp2
  have TW := three_new w (.cells #[.int .u8 15, .int .u16 a1, .int .u16 a2, .int .u16 a3, .slice ao nb ac, .slice ro nr rc] 26) (.cells #[.int .u8 15, .int .u8 0, .int .u16 a1, .int .u16 nb, .slice none 0 0, .slice none 0 0] 44) (.cells #[.int .u8 15, .int .u8 0, .int .u16 a1, .int .u16 nb, .slice none 0 0, .slice none 0 0] 44)
  obtain ⟨_, q1, _, K, hs⟩ := TW
  obtain ⟨⟨e0, e1, e2, e3, e4, e5⟩, _⟩ := block6 q1
  have he : echo ⟨15, a1, a2, a3, a4, a5⟩ = ⟨15, 0, a1, a4.length, [], []⟩ := by simp [echo]
  rw [he, ← HB.out]
  exact bodyPost_ret (v := .agg #[.int .u8 15, .int .u8 0, .int .u16 a1, .int .u16 nb, .slice none 0 0, .slice none 0 0]) (by simp [results, Try.results57, go_sem, e0, e1, e2, e3, e4, e5]) rfl ⟨_, rfl, ⟨rp_ok (by decide) (by decide) hA (by omega) no_words, _, _, rfl, Sl.nil _, Sl.nil _, new_nil, new_nil⟩, K⟩
set_option linter.unusedSimpArgs false in
set_option linter.unusedVariables false in
set_option maxRecDepth 100000 in
set_option maxHeartbeats 1600000 in
theorem echo16 (a1 a2 a3 nb nr ac rc : Nat) (a4 : List Bool) (a5 : List Nat) (ao ro : Option Addr) (w : World) (h4 : Sl w (.slice ao nb ac) (bls a4)) (h5 : Sl w (.slice ro nr rc) (u16s a5)) (hb : nb = a4.length) (hr : nr = a5.length) (lb : nb ≤ 2000) (lr : nr ≤ 200) (hA : a1 < 65536) (hw : Words a5) :
    Calls Try.prog 57 #[.agg #[.int .u8 16, .int .u16 a1, .int .u16 a2, .int .u16 a3, .slice ao nb ac, .slice ro nr rc]] w fun e w' => ∃ v, e = .returned v ∧ IsRpN w.heap.size w' v (echo ⟨16, a1, a2, a3, a4, a5⟩) ∧ Below w.heap.size w w' := by
  have H4 := hid_as h4
  have H5 := hid_as h5
  have HB := hid_as hb
  have HR := hid_as hr
  have e1 : IntKind.u16.wrap (nb : Int) = (nb : Int) := by rw [IntKind.wrap_u16]; omega
  have e2 : IntKind.u16.wrap (nr : Int) = (nr : Int) := by rw [IntKind.wrap_u16]; omega
  clear h4 h5 hb hr
  go_enter Try.func57, Try.ntmps57
  go_wp2
  have TW := three_new w (.cells #[.int .u8 16, .int .u16 a1, .int .u16 a2, .int .u16 a3, .slice ao nb ac, .slice ro nr rc] 26) (.cells #[.int .u8 16, .int .u8 0, .int .u16 a1, .int .u16 nr, .slice none 0 0, .slice none 0 0] 44) (.cells #[.int .u8 16, .int .u8 0, .int .u16 a1, .int .u16 nr, .slice none 0 0, .slice none 0 0] 44)
  obtain ⟨_, q1, _, K, hs⟩ := TW
  obtain ⟨⟨e0, e1, e2, e3, e4, e5⟩, _⟩ := block6 q1
  have he : echo ⟨16, a1, a2, a3, a4, a5⟩ = ⟨16, 0, a1, a5.length, [], []⟩ := by simp [echo]
  rw [he, ← HR.out]
  exact bodyPost_ret (v := .agg #[.int .u8 16, .int .u8 0, .int .u16 a1, .int .u16 nr, .slice none 0 0, .slice none 0 0]) (by simp [results, Try.results57, go_sem, e0, e1, e2, e3, e4, e5]) rfl ⟨_, rfl, ⟨rp_ok (by decide) (by decide) hA (by omega) no_words, _, _, rfl, Sl.nil _, Sl.nil _, new_nil, new_nil⟩, K⟩
theorem echo_c {v : Value} {q : Rq} {w : World} (h : IsRq w v q) (hf : q.Fits) (hk : q.fn = 5 ∨ q.fn = 6 ∨ q.fn = 15 ∨ q.fn = 16 ∨ q.fn = 22) : Calls Try.prog 57 #[v] w fun e w' => ∃ v, e = .returned v ∧ IsRpN w.heap.size w' v (echo q) ∧ Below w.heap.size w w' := by
  obtain ⟨ok, bv, rv, rfl, h4, h5⟩ := h
  obtain ⟨a0, a1, a2, a3, a4, a5⟩ := q
  obtain ⟨ao, ac, rfl⟩ := h4.shape
  obtain ⟨ro, rc, rfl⟩ := h5.shape
  simp only at h4 h5 hk ok ⊢
  rw [bls_len] at h4 ⊢
  rw [u16s_len] at h5 ⊢
  unfold Rq.Fits FitsN at hf
  simp only at hf
  have lb : a4.length ≤ 2000 := by omega
  have lr : a5.length ≤ 200 := by omega
  rcases hk with rfl | rfl | rfl | rfl | rfl
  · exact echo5 a1 a2 a3 _ _ ac rc a4 a5 ao ro w h4 h5 rfl rfl lb lr ok.addr ok.regs
  · exact echo6 a1 a2 a3 _ _ ac rc a4 a5 ao ro w h4 h5 rfl rfl lb lr ok.addr ok.regs
  · exact echo15 a1 a2 a3 _ _ ac rc a4 a5 ao ro w h4 h5 rfl rfl lb lr ok.addr ok.regs
  · exact echo16 a1 a2 a3 _ _ ac rc a4 a5 ao ro w h4 h5 rfl rfl lb lr ok.addr ok.regs
  · exact echo22 a1 a2 a3 _ _ ac rc a4 a5 ao ro w h4 h5 rfl rfl lb lr ok.addr ok.regs
theorem echo_fits {q : Rq} (hf : q.Fits) (hk : q.fn = 5 ∨ q.fn = 6 ∨ q.fn = 15 ∨ q.fn = 16 ∨ q.fn = 22) : (echo q).Fits := by
  obtain ⟨a0, a1, a2, a3, a4, a5⟩ := q
  unfold Rq.Fits FitsN at hf
  unfold Rp.Fits RFitsN echo
  simp only at hf hk ⊢
  rcases hk with rfl | rfl | rfl | rfl | rfl <;> simp at hf ⊢ <;> omega
end Go.Proofs.Ytehbbkdiekgpbaa
