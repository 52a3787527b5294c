/- The walks: is it an exception? -/
import Derived.Test.YtehbbkdiekgpbaaTRr
namespace Go.Proofs.Ytehbbkdiekgpbaa
open Go.RowKit
open Pdu
theorem own_shape {w : World} {base n : Nat} {e : TypeId} {v : Value} {vs : List Value} (h : w.ownsRow base e 1 v n vs) : ∃ ao m c, v = .slice ao m c := by
  rcases h.2 with ⟨rfl, _⟩ | ⟨g, cap, cur, rfl, _⟩
  · exact ⟨_, _, _, rfl⟩
  · exact ⟨_, _, _, rfl⟩
def zRp : Array Value := #[.int .u8 0, .int .u8 0, .int .u16 0, .int .u16 0, .slice none 0 0, .slice none 0 0]
/-- A request's box and a reply's, empty, behind it. -/
structure Two (w W : World) (fn addr n addr2 : Nat) (bv rv : Value) : Prop where
  box : Box W w.heap.size (.int .u8 fn) (.int .u16 addr) (.int .u16 n) (.int .u16 addr2) bv rv
  res : W.heap[w.heap.size + 1]? = some (.cells #[.int .u8 0, .int .u8 0, .int .u16 0, .int .u16 0, .slice none 0 0, .slice none 0 0] 44 (0, 0))
  bel : Below w.heap.size w W
  siz : w.heap.size + 1 < W.heap.size
theorem two_new (w : World) (fn addr n addr2 : Nat) (bv rv : Value) : Two w ((w.alloc (.cells #[.int .u8 fn, .int .u16 addr, .int .u16 n, .int .u16 addr2, bv, rv] 26)).alloc (.cells #[.int .u8 0, .int .u8 0, .int .u16 0, .int .u16 0, .slice none 0 0, .slice none 0 0] 44)) fn addr n addr2 bv rv := by
  refine ⟨(Box.new w _ _ _ _ _ _ 26).grow _, ?_, below_new (below_new (Below.refl _ w) _) _, by simp⟩
  have h := heap_alloc_new (w.alloc (.cells #[.int .u8 fn, .int .u16 addr, .int .u16 n, .int .u16 addr2, bv, rv] 26)) (.cells #[.int .u8 0, .int .u8 0, .int .u16 0, .int .u16 0, .slice none 0 0, .slice none 0 0] 44)
  rw [World.size_alloc] at h
  exact h
set_option maxRecDepth 100000 in
set_option maxHeartbeats 600000 in
theorem te_other (fn addr n addr2 m cap : Nat) (bv rv : Value) (ao : Option Addr) (w : World) (hm : m ≠ 2) :
    Calls Try.prog 44 #[rqV fn addr n addr2 bv rv, .slice ao m cap] w fun e w' => e = .returned (.tuple #[.agg #[.int .u8 0, .int .u8 0, .int .u16 0, .int .u16 0, .slice none 0 0, .slice none 0 0], .bool false]) ∧ Below w.heap.size w w' := by
  have h' : ((m : Int) == 2) = false := by rw [beq_eq_false_iff_ne]; omega
  have h2' : ((m : Int) != 2) = true := by rw [bne_iff_ne]; omega
  have h3' : (m == 2) = false := by rw [beq_eq_false_iff_ne]; omega
  unfold rqV
  go_enter Try.func44, Try.ntmps44
  go_upto_region 1 with fail
  have TW := two_new w fn addr n addr2 bv rv
  generalize ((w.alloc (.cells #[.int .u8 fn, .int .u16 addr, .int .u16 n, .int .u16 addr2, bv, rv] 26)).alloc (.cells #[.int .u8 0, .int .u8 0, .int .u16 0, .int .u16 0, .slice none 0 0, .slice none 0 0] 44)) = W at TW ⊢
  obtain ⟨BX, q, K, hs⟩ := TW
  obtain ⟨c0, c1, c2, c3, c4, c5⟩ := BX
  obtain ⟨⟨d0, d1, d2, d3, d4, d5⟩, hfz⟩ := block6 q
  have f0 := hfz 0
  have f1 := hfz 1
  have f2 := hfz 2
  have f3 := hfz 3
  have f4 := hfz 4
  have f5 := hfz 5
  have K : Hid (Below w.heap.size w W) := K
  clear q hfz
  go_quiet (fail)
  go_wp2
  have BF := set_box (Box.drewN (Box.mk d0 d1 d2 d3 d4 d5) nq) (.int .u8 0) (.int .u8 0) (.int .u16 0) (.int .u16 0) (.slice none 0 0) (.slice none 0 0)
  obtain ⟨e0, e1, e2, e3, e4, e5⟩ := BF
  refine bodyPost_ret (v := .tuple #[.agg #[.int .u8 0, .int .u8 0, .int .u16 0, .int .u16 0, .slice none 0 0, .slice none 0 0], .bool false]) (by simp [results, Try.results44, go_sem, e0, e1, e2, e3, e4, e5]) rfl ⟨rfl, ?_⟩
  have hle : w.heap.size ≤ w.heap.size + 1 := by omega
  exact Below.setCell (Below.setCell (Below.setCell (Below.setCell (Below.setCell (Below.setCell (below_drewN K.out nq) hle _) hle _) hle _) hle _) hle _) hle _
set_option maxRecDepth 100000 in
set_option maxHeartbeats 1200000 in
theorem ta_3 (n N cap b off x1 : Nat) (bs : List Nat) (addr addr2 : Nat) (bv rv : Value) (w : World) (hN : N < 65536) (hl : n = bs.length) (hn : 2 ≤ n) (hn2 : n ≤ 300) (hcap : n ≤ cap) (hB : Bytes bs) (hL : Lies w b off (u8s bs)) (h0 : bs.getD 0 0 = 3) (h1 : bs.getD 1 0 = x1) (hT : n = 2 + 2 * N ∧ x1 = 2 * N) :
    Calls Try.prog 45 #[rqV 3 addr N addr2 bv rv, .slice (some ⟨b, off, none⟩) n cap] w fun e w' => ∃ v', e = .returned (.tuple #[rpV 3 0 0 0 (.slice none 0 0) v', .bool true]) ∧ w'.ownsRow w.heap.size 22 1 v' (ws (bs.drop 2)).length (u16s (ws (bs.drop 2))) ∧ Below w.heap.size w w' := by
  have k0 := hL.u8 0 (by omega)
  rw [h0, Nat.add_zero] at k0
  have hb : b < w.heap.size := lt_of_cell k0
  have hn3 : (n == 0) = false := by rw [beq_eq_false_iff_ne]; omega
  have hsl : Sl w (.slice (some ⟨b, off + 1, none⟩) (n - 1) (cap - 1)) (u8s (bs.drop 1)) := by
    have h := cut_sl (w := w) (b := b) (off := off) (n := n) (cap := cap) (k := 1) (vs := u8s bs) (by rw [u8s_len, hl]) hcap (by omega) hL
    rw [← u8s_drop] at h
    unfold cutV cutA at h
    rw [if_neg (by omega)] at h
    exact h
  have htc := fun (W : World) (h : Below w.heap.size w W) => tc_y (w := W) (m := 2 * N) (hsl.below h) (hB.drop 1) (by omega) ⟨by rw [List.length_drop]; omega, by rw [List.getD_eq_getElem?_getD, List.getElem?_drop, ← List.getD_eq_getElem?_getD, h1]; exact hT.2⟩
  rw [show ((2 * N : Nat) : Int) = 2 * (N : Int) by omega] at htc
  have HTC : Hid _ := htc
  have hj : 1 < cap := by omega
  have hj3 : ¬ cap = 1 := by omega
  have hj1 : 1 ≤ n := by omega
  have hii : (1 : Int) ≤ (n : Int) := by omega
  have HDB : Hid (Bytes ((bs.drop 1).drop 1)) := (hB.drop 1).drop 1
  have HLN : Hid (n = bs.length) := hl
  have h33 : ((3 : Int) != 3) = false := rfl
  clear hl h1 hT hL hB htc hsl
  have hn0 : ((n : Int) == 0) = false := by rw [beq_eq_false_iff_ne]; omega
  unfold rqV
  go_enter Try.func45, Try.ntmps45
  go_upto_region 1 with fail
  have TW := two_new w 3 addr N addr2 bv rv
  generalize ((w.alloc (.cells #[.int .u8 (3 : Nat), .int .u16 addr, .int .u16 N, .int .u16 addr2, bv, rv] 26)).alloc (.cells #[.int .u8 0, .int .u8 0, .int .u16 0, .int .u16 0, .slice none 0 0, .slice none 0 0] 44)) = W at TW ⊢
  obtain ⟨BX, q, K, hs⟩ := TW
  obtain ⟨c0, c1, c2, c3, c4, c5⟩ := BX
  obtain ⟨⟨d0, d1, d2, d3, d4, d5⟩, hfz⟩ := block6 q
  have f0 := hfz 0
  have f1 := hfz 1
  have f2 := hfz 2
  have f3 := hfz 3
  have f4 := hfz 4
  have f5 := hfz 5
  have k0' := (K.cell (p := ⟨b, off, none⟩) hb).trans k0
  have KK : Hid (Below w.heap.size w W) := K
  have hi0 : (0 : Int) < (n : Int) := by omega
  go_quiet (fail)
  go_wp2_with fail
  refine (HTC.out _ (by exact below_drewN KK.out nq)).mono ?_
  rintro e W1 ⟨⟨v1, rfl, hs1⟩, hW1⟩
  subst W1
  go_wp2_with fail
  have q2 : (W.drewN nq).heap[w.heap.size + 1]? = some (.cells #[.int .u8 0, .int .u8 0, .int .u16 0, .int .u16 0, .slice none 0 0, .slice none 0 0] 44 (0, 0)) := q
  have B2 : Box (W.drewN nq) w.heap.size (.int .u8 (3 : Nat)) (.int .u16 addr) (.int .u16 N) (.int .u16 addr2) bv rv := Box.drewN (Box.mk c0 c1 c2 c3 c4 c5) nq
  have K2 : Below w.heap.size w (W.drewN nq) := below_drewN KK.out nq
  have z2 : w.heap.size + 1 < (W.drewN nq).heap.size := hs
  clear c0 c1 c2 c3 c4 c5 d0 d1 d2 d3 d4 d5 f0 f1 f2 f3 f4 f5 hfz q k0' KK K hs
  generalize W.drewN nq = W2 at q2 B2 K2 z2 hs1 ⊢
  have hwd := words_c (w := W2.drew) (bs := (bs.drop 1).drop 1) HDB.out (show Sl W2.drew v1 _ from hs1) (by rw [List.length_drop, List.length_drop]; have := HLN.out; omega)
  rw [List.drop_drop] at hwd
  obtain ⟨c0, c1, c2, c3, c4, c5⟩ := B2
  obtain ⟨⟨d0, d1, d2, d3, d4, d5⟩, hfz⟩ := block6 q2
  have f0 := hfz 0
  have f1 := hfz 1
  have f2 := hfz 2
  have f3 := hfz 3
  have f4 := hfz 4
  have f5 := hfz 5
  have Q2 : Hid _ := q2
  have KK2 : Hid _ := K2
  clear hfz q2 K2
  go_region_with (go_at_call 52; refine hwd.mono ?_; rintro e w3 ⟨v3, rfl, own3, hb3⟩; have SH := own_shape own3; obtain ⟨ao3, m3, cp3, hv3⟩ := SH; subst hv3; have q3 := (hb3.block (w.heap.size + 1) z2).trans Q2.out; have P3 := block6 q3; obtain ⟨⟨g0, g1, g2, g3, g4, g5⟩, hf3⟩ := P3; have y0 := hf3 0; have y1 := hf3 1; have y2 := hf3 2; have y3 := hf3 3; have y4 := hf3 4; have y5 := hf3 5; have a0 := (hb3.cell (p := ⟨w.heap.size, 0, none⟩) (Nat.lt_of_succ_lt z2)).trans c0; have own3 : Hid _ := own3; have KK3 : Hid (Below w.heap.size w w3) := KK2.out.trans (Below.trans (Below.drew (Below.refl _ W2)) (hb3.mono (Nat.le_of_lt (Nat.lt_of_succ_lt z2)))); clear q3 hf3 hb3)
  all_goals
    go_wp2
    have BF := set_box (Box.mk g0 g1 g2 g3 g4 g5) (.int .u8 3) (.int .u8 0) (.int .u16 0) (.int .u16 0) (.slice none 0 0) (.slice ao3 m3 cp3)
    obtain ⟨e0, e1, e2, e3, e4, e5⟩ := BF
    refine bodyPost_ret (v := .tuple #[.agg #[.int .u8 3, .int .u8 0, .int .u16 0, .int .u16 0, .slice none 0 0, .slice ao3 m3 cp3], .bool true]) (by simp [results, Try.results45, go_sem, e0, e1, e2, e3, e4, e5]) rfl ⟨_, rfl, ?_, ?_⟩
    · exact own_base (own_six own3.out z2 _ _ _ _ _ _) (Nat.le_of_lt (Nat.lt_of_succ_lt z2))
    · exact below_six KK3.out (Nat.le_succ _) _ _ _ _ _ _
set_option maxRecDepth 100000 in
set_option maxHeartbeats 1200000 in
theorem ta_3n (n N cap b off x1 : Nat) (bs : List Nat) (addr addr2 : Nat) (bv rv : Value) (w : World) (hN : N < 65536) (hl : n = bs.length) (hn : 2 ≤ n) (hn2 : n ≤ 300) (hcap : n ≤ cap) (hB : Bytes bs) (hL : Lies w b off (u8s bs)) (h0 : bs.getD 0 0 = 3) (h1 : bs.getD 1 0 = x1) (hT : ¬ (n = 2 + 2 * N ∧ x1 = 2 * N)) :
    Calls Try.prog 45 #[rqV 3 addr N addr2 bv rv, .slice (some ⟨b, off, none⟩) n cap] w fun e w' => ∃ ao m c, e = .returned (.tuple #[rpV 3 0 0 0 (.slice none 0 0) (.slice ao m c), .bool false]) ∧ Below w.heap.size w w' := by
  have k0 := hL.u8 0 (by omega)
  rw [h0, Nat.add_zero] at k0
  have hb : b < w.heap.size := lt_of_cell k0
  have hn3 : (n == 0) = false := by rw [beq_eq_false_iff_ne]; omega
  have hsl : Sl w (.slice (some ⟨b, off + 1, none⟩) (n - 1) (cap - 1)) (u8s (bs.drop 1)) := by
    have h := cut_sl (w := w) (b := b) (off := off) (n := n) (cap := cap) (k := 1) (vs := u8s bs) (by rw [u8s_len, hl]) hcap (by omega) hL
    rw [← u8s_drop] at h
    unfold cutV cutA at h
    rw [if_neg (by omega)] at h
    exact h
  have htc := fun (W : World) (h : Below w.heap.size w W) => tc_n (w := W) (m := 2 * N) (hsl.below h) (hB.drop 1) (by omega) (by rw [List.length_drop, List.getD_eq_getElem?_getD, List.getElem?_drop, ← List.getD_eq_getElem?_getD, h1]; intro h; exact hT ⟨by omega, h.2⟩)
  rw [show ((2 * N : Nat) : Int) = 2 * (N : Int) by omega] at htc
  have HTC : Hid _ := htc
  have hj : 1 < cap := by omega
  have hj3 : ¬ cap = 1 := by omega
  have hj1 : 1 ≤ n := by omega
  have hii : (1 : Int) ≤ (n : Int) := by omega
  have HLN : Hid (n = bs.length) := hl
  have h33 : ((3 : Int) != 3) = false := rfl
  clear hl h1 hT hL hB htc hsl
  have hn0 : ((n : Int) == 0) = false := by rw [beq_eq_false_iff_ne]; omega
  unfold rqV
  go_enter Try.func45, Try.ntmps45
  go_upto_region 1 with fail
  have TW := two_new w 3 addr N addr2 bv rv
  generalize ((w.alloc (.cells #[.int .u8 (3 : Nat), .int .u16 addr, .int .u16 N, .int .u16 addr2, bv, rv] 26)).alloc (.cells #[.int .u8 0, .int .u8 0, .int .u16 0, .int .u16 0, .slice none 0 0, .slice none 0 0] 44)) = W at TW ⊢
  obtain ⟨BX, q, K, hs⟩ := TW
  obtain ⟨c0, c1, c2, c3, c4, c5⟩ := BX
  obtain ⟨⟨d0, d1, d2, d3, d4, d5⟩, hfz⟩ := block6 q
  have f0 := hfz 0
  have f1 := hfz 1
  have f2 := hfz 2
  have f3 := hfz 3
  have f4 := hfz 4
  have f5 := hfz 5
  have k0' := (K.cell (p := ⟨b, off, none⟩) hb).trans k0
  have KK : Hid (Below w.heap.size w W) := K
  have hi0 : (0 : Int) < (n : Int) := by omega
  go_quiet (fail)
  go_wp2_with fail
  refine (HTC.out _ (by exact below_drewN KK.out nq)).mono ?_
  rintro e W1 ⟨rfl, hW1⟩
  subst W1
  go_wp2_with fail
  have q2 : (W.drewN nq).heap[w.heap.size + 1]? = some (.cells #[.int .u8 0, .int .u8 0, .int .u16 0, .int .u16 0, .slice none 0 0, .slice none 0 0] 44 (0, 0)) := q
  have B2 : Box (W.drewN nq) w.heap.size (.int .u8 (3 : Nat)) (.int .u16 addr) (.int .u16 N) (.int .u16 addr2) bv rv := Box.drewN (Box.mk c0 c1 c2 c3 c4 c5) nq
  have K2 : Below w.heap.size w (W.drewN nq) := below_drewN KK.out nq
  have z2 : w.heap.size + 1 < (W.drewN nq).heap.size := hs
  clear c0 c1 c2 c3 c4 c5 d0 d1 d2 d3 d4 d5 f0 f1 f2 f3 f4 f5 hfz q k0' KK K hs
  generalize W.drewN nq = W2 at q2 B2 K2 z2 ⊢
  have hwd := words_none none 0 W2.drew
  obtain ⟨c0, c1, c2, c3, c4, c5⟩ := B2
  obtain ⟨⟨d0, d1, d2, d3, d4, d5⟩, hfz⟩ := block6 q2
  have f0 := hfz 0
  have f1 := hfz 1
  have f2 := hfz 2
  have f3 := hfz 3
  have f4 := hfz 4
  have f5 := hfz 5
  have Q2 : Hid _ := q2
  have KK2 : Hid _ := K2
  clear hfz q2 K2
  go_region_with (go_at_call 52; refine hwd.mono ?_; rintro e w3 ⟨v3, rfl, own3, hb3⟩; have SH := own_shape own3; obtain ⟨ao3, m3, cp3, hv3⟩ := SH; subst hv3; have q3 := (hb3.block (w.heap.size + 1) z2).trans Q2.out; have P3 := block6 q3; obtain ⟨⟨g0, g1, g2, g3, g4, g5⟩, hf3⟩ := P3; have y0 := hf3 0; have y1 := hf3 1; have y2 := hf3 2; have y3 := hf3 3; have y4 := hf3 4; have y5 := hf3 5; have a0 := (hb3.cell (p := ⟨w.heap.size, 0, none⟩) (Nat.lt_of_succ_lt z2)).trans c0; have KK3 : Hid (Below w.heap.size w w3) := KK2.out.trans (Below.trans (Below.drew (Below.refl _ W2)) (hb3.mono (Nat.le_of_lt (Nat.lt_of_succ_lt z2)))); clear q3 hf3 hb3 own3)
  all_goals
    go_wp2
    have BF := set_box (Box.mk g0 g1 g2 g3 g4 g5) (.int .u8 3) (.int .u8 0) (.int .u16 0) (.int .u16 0) (.slice none 0 0) (.slice ao3 m3 cp3)
    obtain ⟨e0, e1, e2, e3, e4, e5⟩ := BF
    refine bodyPost_ret (v := .tuple #[.agg #[.int .u8 3, .int .u8 0, .int .u16 0, .int .u16 0, .slice none 0 0, .slice ao3 m3 cp3], .bool false]) (by simp [results, Try.results45, go_sem, e0, e1, e2, e3, e4, e5]) rfl ⟨_, _, _, rfl, ?_⟩
    · exact below_six KK3.out (Nat.le_succ _) _ _ _ _ _ _
end Go.Proofs.Ytehbbkdiekgpbaa
