/- The walk: a request is taken apart, any bytes; a request is read, any bytes. -/
import Derived.Test.YtehbbkdiekgpbabTKr
import Derived.Test.YtehbbkdiekgpbabTKr2
import Derived.Test.YtehbbkdiekgpbabTK5
import Derived.Test.YtehbbkdiekgpbabTK6
import Derived.Test.YtehbbkdiekgpbabTK15
import Derived.Test.YtehbbkdiekgpbabTK16
import Derived.Test.YtehbbkdiekgpbabTK23
import Derived.Test.YtehbbkdiekgpbabTKo
namespace Go.Proofs.Ytehbbkdiekgpbab
open Go.RowKit
open Pdu
theorem IsRqN.plain {base : Nat} {w : World} {v : Value} {q : Rq} (h : IsRqN base w v q) : IsRq w v q := by
  obtain ⟨ok, bv, rv, rfl, h1, h2, _, _⟩ := h
  exact ⟨ok, bv, rv, rfl, h1, h2⟩
theorem IsRqN.six {base g : Nat} {w Y : World} {v : Value} {q : Rq} (h : IsRqN base w v q) (k : Below w.heap.size w Y) (hg : g < base) (y0 y1 y2 y3 y4 y5 : Value) : IsRq ((((((Y.setCell ⟨g, 0, none⟩ y0).setCell ⟨g, 1, none⟩ y1).setCell ⟨g, 2, none⟩ y2).setCell ⟨g, 3, none⟩ y3).setCell ⟨g, 4, none⟩ y4).setCell ⟨g, 5, none⟩ y5) v q := by
  obtain ⟨ok, bv, rv, rfl, h1, h2, n1, n2⟩ := h
  exact ⟨ok, bv, rv, rfl, sl_six (h1.below k) n1 hg _ _ _ _ _ _, sl_six (h2.below k) n2 hg _ _ _ _ _ _⟩
theorem take_c {v : Value} {bs : List Nat} {w : World} (h : Sl w v (u8s bs)) (hB : Bytes bs) : Calls Try.prog 24 #[v] w fun e w' => TookEnd bs w e w' := by
  by_cases hl : 5 ≤ bs.length ∧ bs.length ≤ 253
  case neg =>
    obtain ⟨ao, c, rfl⟩ := h.shape
    rw [u8s_len]
    exact tk_short ao bs.length c bs w rfl hl
  obtain ⟨h5, h253⟩ := hl
  rcases h with ⟨h, _⟩ | ⟨b, off, cap, rfl, hcap, hc⟩
  · have := congrArg List.length h
    rw [u8s_len, List.length_nil] at this
    omega
  rw [u8s_len] at hcap ⊢
  have S : Bs w b off bs.length cap bs := ⟨rfl, hcap, hB, hc⟩
  have hk : ∀ f, f = bs.getD 0 0 → (f = 1 ∨ f = 2 ∨ f = 3 ∨ f = 4 ∨ f = 5 ∨ f = 6 ∨ f = 15 ∨ f = 16 ∨ f = 22 ∨ f = 23) ∨ (f ≠ 1 ∧ f ≠ 2 ∧ f ≠ 3 ∧ f ≠ 4 ∧ f ≠ 5 ∧ f ≠ 6 ∧ f ≠ 15 ∧ f ≠ 16 ∧ f ≠ 22 ∧ f ≠ 23) := fun f _ => by omega
  rcases hk _ rfl with (e | e | e | e | e | e | e | e | e | e) | e
  · exact tk1 b off _ cap _ bs w S h5 h253 e rfl
  · exact tk2 b off _ cap _ bs w S h5 h253 e rfl
  · exact tk3 b off _ cap _ bs w S h5 h253 e rfl
  · exact tk4 b off _ cap _ bs w S h5 h253 e rfl
  · by_cases hn : bs.length = 5
    · exact tk5_y b off _ cap _ bs w S h5 h253 e rfl hn
    · exact tk5_n b off _ cap _ bs w S h5 h253 e rfl hn
  · exact tk6 b off _ cap _ bs w S h5 h253 e rfl
  · by_cases hT : bs.length = 6 + packed (wordAt bs 3) ∧ bs.getD 5 0 = packed (wordAt bs 3)
    · exact tk15_y b off _ cap _ bs w S h5 h253 e rfl hT
    · exact tk15_n b off _ cap _ bs w S h5 h253 e rfl hT
  · by_cases hT : bs.length = 6 + 2 * wordAt bs 3 ∧ bs.getD 5 0 = 2 * wordAt bs 3
    · exact tk16_y b off _ cap _ bs w S h5 h253 e rfl hT
    · exact tk16_n b off _ cap _ bs w S h5 h253 e rfl hT
  · exact tk22 b off _ cap _ bs w S h5 h253 e rfl
  · by_cases h9 : bs.length < 9
    · exact tk23_s b off _ cap _ bs w S h5 h253 e rfl h9
    · by_cases hT : bs.length = 10 + 2 * wordAt bs 7 ∧ bs.getD 9 0 = 2 * wordAt bs 7
      · exact tk23_y b off _ cap _ _ _ bs w S h5 h253 e rfl (by omega) rfl rfl hT
      · exact tk23_n b off _ cap _ _ _ bs w S h5 h253 e rfl (by omega) rfl rfl hT
  · exact tk_other b off _ cap _ (bs.getD 0 0) bs w S h5 h253 rfl rfl e
/-- How the reading of a request ends. -/
def OpenEnd (bs : List Nat) (w : World) (e : Ending) (w' : World) : Prop := Below w.heap.size w w' ∧ ((IsReq bs ∧ ∃ v, e = .returned (.tuple #[v, .int .i64 0]) ∧ IsRq w' v (readReq bs)) ∨ (¬ IsReq bs ∧ e = .returned (.tuple #[.agg #[.int .u8 0, .int .u16 0, .int .u16 0, .int .u16 0, .slice none 0 0, .slice none 0 0], .int .i64 30])))
set_option linter.unusedSimpArgs false in
set_option linter.unusedVariables false in
set_option maxRecDepth 100000 in
set_option maxHeartbeats 1600000 in
theorem open_c {so : Value} {bs : List Nat} {w : World} (h : Sl w so (u8s bs)) (hB : Bytes bs) : Calls Try.prog 10 #[so] w fun e w' => OpenEnd bs w e w' := by
  have TC := hid_as (take_c (h.below (below_new (Below.refl _ w) (.cells #[.int .u8 0, .int .u16 0, .int .u16 0, .int .u16 0, .slice none 0 0, .slice none 0 0] 26))) hB)
  clear h hB
  go_enter Try.func10, Try.ntmps10
  go_wp2_with fail
  refine TC.out.mono ?_
  rintro e w' ⟨hb1, v, t, q, rfl, hq, tk⟩
  have TK := hid_as tk
  have HQ := hid_as hq
  obtain ⟨q0, q1, q2, q3, q4, q5⟩ := q
  obtain ⟨_, bv, rv, hv, s1, s2, _, _⟩ := hq
  obtain ⟨ao, ac, rfl⟩ := s1.shape
  obtain ⟨ro, rc, rfl⟩ := s2.shape
  simp only at hv
  unfold rqV at hv
  subst hv
  rw [bls_len, u16s_len] at HQ
  rw [bls_len, u16s_len]
  simp only at HQ ⊢
  generalize q4.length = nb at HQ ⊢
  generalize q5.length = nr at HQ ⊢
  have q1' : w'.heap[w.heap.size]? = some (.cells #[.int .u8 0, .int .u16 0, .int .u16 0, .int .u16 0, .slice none 0 0, .slice none 0 0] 26 (0, 0)) := (hb1.block w.heap.size (by simp)).trans (heap_alloc_new w _)
  have hs1 : w.heap.size < w'.heap.size := box_lt hb1
  have K1 : Hid (Below w.heap.size w w') := below_and (below_new (Below.refl _ w) _) hb1
  have HB := HQ.out
  rw [World.size_alloc] at HB
  have HQ : Hid (IsRqN (w.heap.size + 1) w' (.agg #[.int .u8 q0, .int .u16 q1, .int .u16 q2, .int .u16 q3, .slice ao nb ac, .slice ro nr rc]) ⟨q0, q1, q2, q3, q4, q5⟩) := HB
  clear hb1 s1 s2 tk TC HB
  cases t
  case false =>
    obtain ⟨⟨c0, c1, c2, c3, c4, c5⟩, hfz⟩ := block6 q1'
    have f0 := hfz 0
    have f1 := hfz 1
    have f2 := hfz 2
    have f3 := hfz 3
    have f4 := hfz 4
    have f5 := hfz 5
    clear q1' hfz
    go_wp2
    have BF := fun o => (set_box (Box.mk c0 c1 c2 c3 c4 c5) (.int .u8 0) (.int .u16 0) (.int .u16 0) (.int .u16 0) (.slice none 0 0) (.slice none 0 0)).grow o
    have e0 := fun o => (BF o).c0
    have e1 := fun o => (BF o).c1
    have e2 := fun o => (BF o).c2
    have e3 := fun o => (BF o).c3
    have e4 := fun o => (BF o).c4
    have e5 := fun o => (BF o).c5
    refine bodyPost_ret (v := .tuple #[.agg #[.int .u8 0, .int .u16 0, .int .u16 0, .int .u16 0, .slice none 0 0, .slice none 0 0], .int .i64 30]) (by simp [results, Try.results10, go_sem, e0, e1, e2, e3, e4, e5]) rfl ⟨below_new (below_six K1.out (Nat.le_refl _) _ _ _ _ _ _) _, Or.inr ⟨fun hr => ?_, rfl⟩⟩
    have := (TK.out.1 hr).1
    cases this
  by_cases hf : Rq.Fits ⟨q0, q1, q2, q3, q4, q5⟩
  case neg =>
    have HF := hid_as hf
    have hd := decide_eq_false hf
    clear hf
    have FT := hid_as (fits_c (HQ.out.plain.below (below_new (Below.refl _ w') (.cells #[.int .u8 q0, .int .u16 q1, .int .u16 q2, .int .u16 q3, .slice ao nb ac, .slice ro nr rc] 26))))
    go_wp2_with fail
    refine FT.out.mono ?_
    rintro e w2 ⟨rfl, hb2⟩
    rw [hd]
    have K2 : Hid (Below w.heap.size w w2) := below_and K1.out (below_and (below_new (Below.refl _ w') _) hb2)
    have K3 : Hid (Below w'.heap.size w' w2) := below_and (below_new (Below.refl _ w') _) hb2
    have q2' : w2.heap[w.heap.size]? = some (.cells #[.int .u8 0, .int .u16 0, .int .u16 0, .int .u16 0, .slice none 0 0, .slice none 0 0] 26 (0, 0)) := (K3.out.block w.heap.size hs1).trans q1'
    have BX := (Box.new w' (.int .u8 q0) (.int .u16 q1) (.int .u16 q2) (.int .u16 q3) (.slice ao nb ac) (.slice ro nr rc) 26).below hb2 (by simp)
    obtain ⟨d0, d1, d2, d3, d4, d5⟩ := BX
    clear hb2 q1' FT
    obtain ⟨⟨c0, c1, c2, c3, c4, c5⟩, hfz⟩ := block6 q2'
    have f0 := hfz 0
    have f1 := hfz 1
    have f2 := hfz 2
    have f3 := hfz 3
    have f4 := hfz 4
    have f5 := hfz 5
    clear q2' hfz
    go_wp2
    have BF := set_box (Box.mk c0 c1 c2 c3 c4 c5) (.int .u8 0) (.int .u16 0) (.int .u16 0) (.int .u16 0) (.slice none 0 0) (.slice none 0 0)
    obtain ⟨e0, e1, e2, e3, e4, e5⟩ := BF
    refine bodyPost_ret (v := .tuple #[.agg #[.int .u8 0, .int .u16 0, .int .u16 0, .int .u16 0, .slice none 0 0, .slice none 0 0], .int .i64 30]) (by simp [results, Try.results10, go_sem, e0, e1, e2, e3, e4, e5]) rfl ⟨below_six K2.out (Nat.le_refl _) _ _ _ _ _ _, Or.inr ⟨fun hr => HF.out ?_, rfl⟩⟩
    rw [(TK.out.1 hr).2]
    exact read_fits hr
  have HF := hid_as hf
  have hd := decide_eq_true hf
  clear hf
  have FT := hid_as (fits_c (HQ.out.plain.below (below_new (Below.refl _ w') (.cells #[.int .u8 q0, .int .u16 q1, .int .u16 q2, .int .u16 q3, .slice ao nb ac, .slice ro nr rc] 26))))
  go_wp2_with fail
  refine FT.out.mono ?_
  rintro e w2 ⟨rfl, hb2⟩
  rw [hd]
  have K2 : Hid (Below w.heap.size w w2) := below_and K1.out (below_and (below_new (Below.refl _ w') _) hb2)
  have K3 : Hid (Below w'.heap.size w' w2) := below_and (below_new (Below.refl _ w') _) hb2
  have q2' : w2.heap[w.heap.size]? = some (.cells #[.int .u8 0, .int .u16 0, .int .u16 0, .int .u16 0, .slice none 0 0, .slice none 0 0] 26 (0, 0)) := (K3.out.block w.heap.size hs1).trans q1'
  have BX := (Box.new w' (.int .u8 q0) (.int .u16 q1) (.int .u16 q2) (.int .u16 q3) (.slice ao nb ac) (.slice ro nr rc) 26).below hb2 (by simp)
  obtain ⟨d0, d1, d2, d3, d4, d5⟩ := BX
  clear hb2 q1' FT
  obtain ⟨⟨c0, c1, c2, c3, c4, c5⟩, hfz⟩ := block6 q2'
  have f0 := hfz 0
  have f1 := hfz 1
  have f2 := hfz 2
  have f3 := hfz 3
  have f4 := hfz 4
  have f5 := hfz 5
  clear q2' hfz
  go_wp2
  have BF := set_box (Box.mk c0 c1 c2 c3 c4 c5) (.int .u8 q0) (.int .u16 q1) (.int .u16 q2) (.int .u16 q3) (.slice ao nb ac) (.slice ro nr rc)
  obtain ⟨e0, e1, e2, e3, e4, e5⟩ := BF
  have HR := TK.out.2 rfl HF.out
  refine bodyPost_ret (v := .tuple #[.agg #[.int .u8 q0, .int .u16 q1, .int .u16 q2, .int .u16 q3, .slice ao nb ac, .slice ro nr rc], .int .i64 0]) (by simp [results, Try.results10, go_sem, e0, e1, e2, e3, e4, e5]) rfl ⟨below_six K2.out (Nat.le_refl _) _ _ _ _ _ _, Or.inl ⟨HR, _, rfl, ?_⟩⟩
  rw [← (TK.out.1 HR).2]
  exact HQ.out.six K3.out (Nat.lt_succ_self _) _ _ _ _ _ _
end Go.Proofs.Ytehbbkdiekgpbab
