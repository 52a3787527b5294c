/- The walk: is it an exception?. -/
import Derived.Test.YtehbbkdiekgpbaaTAB
namespace Go.Proofs.Ytehbbkdiekgpbaa
open Go.RowKit
open Pdu
set_option linter.unusedSimpArgs false in
set_option linter.unusedVariables false in
set_option maxRecDepth 100000 in
set_option maxHeartbeats 1600000 in
theorem tx_n1 (fn addr n addr2 cap b off x0 x1 : Nat) (bits : List Bool) (regs : List Nat) (bv rv : Value) (bs : List Nat) (w : World) (hS : Bs w b off 2 cap bs) (hf : fn < 128) (h0 : x0 = bs.getD 0 0) (h1 : x1 = bs.getD 1 0) (hT : x0 ≠ fn + 128) :
    Calls Try.prog 44 #[rqV fn addr n addr2 bv rv, .slice (some ⟨b, off, none⟩) 2 cap] w fun e w' => Told (ExcIs ⟨fn, addr, n, addr2, bits, regs⟩ bs) (excOf ⟨fn, addr, n, addr2, bits, regs⟩ bs) w e w' := by
  have hor := or_128 hf
  have l0 : x0 < 256 := by rw [h0]; exact hS.bytes.at 0
  have l1 : x1 < 256 := by rw [h1]; exact hS.bytes.at 1
  have k0 : w.cell? ⟨b, off, none⟩ = some (.int .u8 x0) := by rw [h0]; exact hS.at 0 (by omega)
  have k1 : w.cell? ⟨b, off + 1, none⟩ = some (.int .u8 x1) := by rw [h1]; exact hS.at 1 (by omega)
  have H0 := hid_as h0
  have H1 := hid_as h1
  have HS := hid_as hS
  have hb : b < w.heap.size := lt_of_cell k0
  have e22 : ((2 : Int) != 2) = false := rfl
  have g1 : ((x0 : Int) != (fn : Int) + 128) = true := by rw [bne_iff_ne]; omega
  have HT := hid_as hT
  clear hT
  clear h0 h1 hS
  unfold rqV
  go_enter Try.func44, Try.ntmps44
  go_upto_region 1 with fail
  have TW := two_new w fn addr n addr2 bv rv
  generalize ((w.alloc (.cells #[.int .u8 (fn : Nat), .int .u16 addr, .int .u16 n, .int .u16 addr2, bv, rv] 26)).alloc (.cells #[.int .u8 0, .int .u8 0, .int .u16 0, .int .u16 0, .slice none 0 0, .slice none 0 0] 44)) = W at TW ⊢
  obtain ⟨BX, q, K, hs⟩ := TW
  obtain ⟨c0, c1, c2, c3, c4, c5⟩ := BX
  obtain ⟨⟨d0, d1, d2, d3, d4, d5⟩, hfz⟩ := block6 q
  have f0 := hfz 0
  have f1 := hfz 1
  have f2 := hfz 2
  have f3 := hfz 3
  have f4 := hfz 4
  have f5 := hfz 5
  have K : Hid (Below w.heap.size w W) := K
  clear hfz
  have k0' : W.cell? ⟨b, off, none⟩ = some (.int .u8 x0) := (K.out.cell (p := ⟨b, off, none⟩) hb).trans k0
  have k1' : W.cell? ⟨b, off + 1, none⟩ = some (.int .u8 x1) := (K.out.cell (p := ⟨b, off + 1, none⟩) hb).trans k1
  go_quiet (fail)
  go_wp2
  have BF := set_box (Box.drewN (Box.mk d0 d1 d2 d3 d4 d5) nq) (.int .u8 0) (.int .u8 0) (.int .u16 0) (.int .u16 0) (.slice none 0 0) (.slice none 0 0)
  obtain ⟨e0, e1, e2, e3, e4, e5⟩ := BF
  refine bodyPost_ret (v := .tuple #[.agg #[.int .u8 0, .int .u8 0, .int .u16 0, .int .u16 0, .slice none 0 0, .slice none 0 0], .bool false]) (by simp [results, Try.results44, go_sem, e0, e1, e2, e3, e4, e5]) rfl (Told.no (below_six (below_drewN K.out nq) (Nat.le_succ _) _ _ _ _ _ _) rfl ?_)
  exact fun h => HT.out (H0.out.trans h.2.1)
set_option linter.unusedSimpArgs false in
set_option linter.unusedVariables false in
set_option maxRecDepth 100000 in
set_option maxHeartbeats 1600000 in
theorem tx_n2 (fn addr n addr2 cap b off x0 x1 : Nat) (bits : List Bool) (regs : List Nat) (bv rv : Value) (bs : List Nat) (w : World) (hS : Bs w b off 2 cap bs) (hf : fn < 128) (h0 : x0 = bs.getD 0 0) (h1 : x1 = bs.getD 1 0) (hT : x0 = fn + 128) (hU : x1 = 0) :
    Calls Try.prog 44 #[rqV fn addr n addr2 bv rv, .slice (some ⟨b, off, none⟩) 2 cap] w fun e w' => Told (ExcIs ⟨fn, addr, n, addr2, bits, regs⟩ bs) (excOf ⟨fn, addr, n, addr2, bits, regs⟩ bs) w e w' := by
  have hor := or_128 hf
  have l0 : x0 < 256 := by rw [h0]; exact hS.bytes.at 0
  have l1 : x1 < 256 := by rw [h1]; exact hS.bytes.at 1
  have k0 : w.cell? ⟨b, off, none⟩ = some (.int .u8 x0) := by rw [h0]; exact hS.at 0 (by omega)
  have k1 : w.cell? ⟨b, off + 1, none⟩ = some (.int .u8 x1) := by rw [h1]; exact hS.at 1 (by omega)
  have H0 := hid_as h0
  have H1 := hid_as h1
  have HS := hid_as hS
  have hb : b < w.heap.size := lt_of_cell k0
  have e22 : ((2 : Int) != 2) = false := rfl
  have g1 : ((x0 : Int) != (fn : Int) + 128) = false := by rw [bne_eq_false_iff_eq]; omega
  have g2 : ((x1 : Int) == 0) = true := by rw [beq_iff_eq]; omega
  have HT := hid_as hT
  have HU := hid_as hU
  clear hT hU
  clear h0 h1 hS
  unfold rqV
  go_enter Try.func44, Try.ntmps44
  go_upto_region 1 with fail
  have TW := two_new w fn addr n addr2 bv rv
  generalize ((w.alloc (.cells #[.int .u8 (fn : Nat), .int .u16 addr, .int .u16 n, .int .u16 addr2, bv, rv] 26)).alloc (.cells #[.int .u8 0, .int .u8 0, .int .u16 0, .int .u16 0, .slice none 0 0, .slice none 0 0] 44)) = W at TW ⊢
  obtain ⟨BX, q, K, hs⟩ := TW
  obtain ⟨c0, c1, c2, c3, c4, c5⟩ := BX
  obtain ⟨⟨d0, d1, d2, d3, d4, d5⟩, hfz⟩ := block6 q
  have f0 := hfz 0
  have f1 := hfz 1
  have f2 := hfz 2
  have f3 := hfz 3
  have f4 := hfz 4
  have f5 := hfz 5
  have K : Hid (Below w.heap.size w W) := K
  clear hfz
  have k0' : W.cell? ⟨b, off, none⟩ = some (.int .u8 x0) := (K.out.cell (p := ⟨b, off, none⟩) hb).trans k0
  have k1' : W.cell? ⟨b, off + 1, none⟩ = some (.int .u8 x1) := (K.out.cell (p := ⟨b, off + 1, none⟩) hb).trans k1
  go_quiet (fail)
  go_wp2
  have BF := set_box (Box.drewN (Box.mk d0 d1 d2 d3 d4 d5) nq) (.int .u8 0) (.int .u8 0) (.int .u16 0) (.int .u16 0) (.slice none 0 0) (.slice none 0 0)
  obtain ⟨e0, e1, e2, e3, e4, e5⟩ := BF
  refine bodyPost_ret (v := .tuple #[.agg #[.int .u8 0, .int .u8 0, .int .u16 0, .int .u16 0, .slice none 0 0, .slice none 0 0], .bool false]) (by simp [results, Try.results44, go_sem, e0, e1, e2, e3, e4, e5]) rfl (Told.no (below_six (below_drewN K.out nq) (Nat.le_succ _) _ _ _ _ _ _) rfl ?_)
  exact fun h => h.2.2 (H1.out.symm.trans HU.out)
set_option linter.unusedSimpArgs false in
set_option linter.unusedVariables false in
set_option maxRecDepth 100000 in
set_option maxHeartbeats 1600000 in
theorem tx_y (fn addr n addr2 cap b off x0 x1 : Nat) (bits : List Bool) (regs : List Nat) (bv rv : Value) (bs : List Nat) (w : World) (hS : Bs w b off 2 cap bs) (hf : fn < 128) (h0 : x0 = bs.getD 0 0) (h1 : x1 = bs.getD 1 0) (hT : x0 = fn + 128) (hU : x1 ≠ 0) :
    Calls Try.prog 44 #[rqV fn addr n addr2 bv rv, .slice (some ⟨b, off, none⟩) 2 cap] w fun e w' => Told (ExcIs ⟨fn, addr, n, addr2, bits, regs⟩ bs) (excOf ⟨fn, addr, n, addr2, bits, regs⟩ bs) w e w' := by
  have hor := or_128 hf
  have l0 : x0 < 256 := by rw [h0]; exact hS.bytes.at 0
  have l1 : x1 < 256 := by rw [h1]; exact hS.bytes.at 1
  have k0 : w.cell? ⟨b, off, none⟩ = some (.int .u8 x0) := by rw [h0]; exact hS.at 0 (by omega)
  have k1 : w.cell? ⟨b, off + 1, none⟩ = some (.int .u8 x1) := by rw [h1]; exact hS.at 1 (by omega)
  have H0 := hid_as h0
  have H1 := hid_as h1
  have HS := hid_as hS
  have hb : b < w.heap.size := lt_of_cell k0
  have e22 : ((2 : Int) != 2) = false := rfl
  have g1 : ((x0 : Int) != (fn : Int) + 128) = false := by rw [bne_eq_false_iff_eq]; omega
  have g2 : ((x1 : Int) == 0) = false := by rw [beq_eq_false_iff_ne]; omega
  have HT := hid_as hT
  have HU := hid_as hU
  clear hT hU
  clear h0 h1 hS
  unfold rqV
  go_enter Try.func44, Try.ntmps44
  go_upto_region 1 with fail
  have TW := two_new w fn addr n addr2 bv rv
  generalize ((w.alloc (.cells #[.int .u8 (fn : Nat), .int .u16 addr, .int .u16 n, .int .u16 addr2, bv, rv] 26)).alloc (.cells #[.int .u8 0, .int .u8 0, .int .u16 0, .int .u16 0, .slice none 0 0, .slice none 0 0] 44)) = W at TW ⊢
  obtain ⟨BX, q, K, hs⟩ := TW
  obtain ⟨c0, c1, c2, c3, c4, c5⟩ := BX
  obtain ⟨⟨d0, d1, d2, d3, d4, d5⟩, hfz⟩ := block6 q
  have f0 := hfz 0
  have f1 := hfz 1
  have f2 := hfz 2
  have f3 := hfz 3
  have f4 := hfz 4
  have f5 := hfz 5
  have K : Hid (Below w.heap.size w W) := K
  clear hfz
  have k0' : W.cell? ⟨b, off, none⟩ = some (.int .u8 x0) := (K.out.cell (p := ⟨b, off, none⟩) hb).trans k0
  have k1' : W.cell? ⟨b, off + 1, none⟩ = some (.int .u8 x1) := (K.out.cell (p := ⟨b, off + 1, none⟩) hb).trans k1
  go_quiet (fail)
  go_wp2
  have y0 : (W.drewN nq).heap[w.heap.size + 1]? = some (.cells #[.int .u8 0, .int .u8 0, .int .u16 0, .int .u16 0, .slice none 0 0, .slice none 0 0] 44 (0, 0)) := q
  have u0 : (W.drewN nq).cell? ⟨w.heap.size, 0, none⟩ = some (.int .u8 fn) := c0
  have u1 : (W.drewN nq).cell? ⟨b, off + 1, none⟩ = some (.int .u8 x1) := k1'
  have KY : Hid (Below w.heap.size w (W.drewN nq)) := below_drewN K.out nq
  clear c0 c1 c2 c3 c4 c5 d0 d1 d2 d3 d4 d5 f0 f1 f2 f3 f4 f5 q k0' k1' K hs
  generalize W.drewN nq = Y at y0 u0 u1 KY ⊢
  obtain ⟨⟨d0, d1, d2, d3, d4, d5⟩, hfz⟩ := block6 y0
  have f0 := hfz 0
  have f1 := hfz 1
  have f2 := hfz 2
  have f3 := hfz 3
  have f4 := hfz 4
  have f5 := hfz 5
  clear hfz y0
  have hbn : ¬ (w.heap.size + 1 = b) := by omega
  go_region_held3 (fun w' => w'.cell? ⟨w.heap.size, 0, none⟩ = some (.int .u8 fn) ∧ w'.cell? ⟨b, off + 1, none⟩ = some (.int .u8 x1)) (first | (simp [World.cell?_setCell_far, hbn, u0, u1]; done) | exact ⟨u0, u1⟩) (fail)
  all_goals
    go_wp2
    have BF := set_box (Box.mk d0 d1 d2 d3 d4 d5) (.int .u8 fn) (.int .u8 x1) (.int .u16 0) (.int .u16 0) (.slice none 0 0) (.slice none 0 0)
    obtain ⟨e0, e1, e2, e3, e4, e5⟩ := BF
    refine bodyPost_ret (v := .tuple #[.agg #[.int .u8 fn, .int .u8 x1, .int .u16 0, .int .u16 0, .slice none 0 0, .slice none 0 0], .bool true]) (by simp [results, Try.results44, go_sem, e0, e1, e2, e3, e4, e5]) rfl ⟨(below_six KY.out (Nat.le_succ _) _ _ _ _ _ _).drew, _, _, ⟨fn, x1, 0, 0, [], []⟩, rfl, ⟨rp_ok (by omega) l1 (by decide) (by decide) no_words, _, _, rfl, Sl.nil _, Sl.nil _, new_nil, new_nil⟩, ?_, ?_⟩
    · exact ⟨fun _ => ⟨HS.out.len.symm, H0.out.symm.trans HT.out, fun h => HU.out (H1.out.trans h)⟩, fun _ => rfl⟩
    · intro _
      unfold excOf
      rw [← H1.out]
end Go.Proofs.Ytehbbkdiekgpbaa
