/- The walk: is it an answer? Of no bytes, of another function. -/
import Derived.Test.YtehbbkdiekgpbaaTAB
namespace Go.Proofs.Ytehbbkdiekgpbaa
open Go.RowKit
open Pdu
set_option linter.unusedSimpArgs false in
set_option linter.unusedVariables false in
set_option maxRecDepth 100000 in
set_option maxHeartbeats 1600000 in
theorem ta_none (fn addr n addr2 cap : Nat) (ao : Option Addr) (bits : List Bool) (regs : List Nat) (bv rv : Value) (bs : List Nat) (w : World) (hl : bs = []) :
    Calls Try.prog 45 #[rqV fn addr n addr2 bv rv, .slice ao 0 cap] w fun e w' => Told (AnsIs ⟨fn, addr, n, addr2, bits, regs⟩ bs) (ansOf ⟨fn, addr, n, addr2, bits, regs⟩ bs) w e w' := by
  have HL := hid_as hl
  clear hl
  unfold rqV
  go_enter Try.func45, Try.ntmps45
  go_upto_region 1 with fail
  have TW := two_new w fn addr n addr2 bv rv
  generalize ((w.alloc (.cells #[.int .u8 (fn : Nat), .int .u16 addr, .int .u16 n, .int .u16 addr2, bv, rv] 26)).alloc (.cells #[.int .u8 0, .int .u8 0, .int .u16 0, .int .u16 0, .slice none 0 0, .slice none 0 0] 44)) = W at TW ⊢
  obtain ⟨BX, q, K, hs⟩ := TW
  obtain ⟨c0, c1, c2, c3, c4, c5⟩ := BX
  obtain ⟨⟨d0, d1, d2, d3, d4, d5⟩, hfz⟩ := block6 q
  have f0 := hfz 0
  have f1 := hfz 1
  have f2 := hfz 2
  have f3 := hfz 3
  have f4 := hfz 4
  have f5 := hfz 5
  have K : Hid (Below w.heap.size w W) := K
  clear hfz
  go_quiet (fail)
  go_wp2
  have BF := set_box (Box.drewN (Box.mk d0 d1 d2 d3 d4 d5) nq) (.int .u8 0) (.int .u8 0) (.int .u16 0) (.int .u16 0) (.slice none 0 0) (.slice none 0 0)
  obtain ⟨e0, e1, e2, e3, e4, e5⟩ := BF
  refine bodyPost_ret (v := .tuple #[.agg #[.int .u8 0, .int .u8 0, .int .u16 0, .int .u16 0, .slice none 0 0, .slice none 0 0], .bool false]) (by simp [results, Try.results45, go_sem, e0, e1, e2, e3, e4, e5]) rfl (Told.no (below_six (below_drewN K.out nq) (Nat.le_succ _) _ _ _ _ _ _) rfl ?_)
  exact fun h => by have h1 := h.1; rw [HL.out] at h1; simp at h1
set_option linter.unusedSimpArgs false in
set_option linter.unusedVariables false in
set_option maxRecDepth 100000 in
set_option maxHeartbeats 1600000 in
theorem ta_other (fn addr n addr2 m cap b off x0 : Nat) (bits : List Bool) (regs : List Nat) (bv rv : Value) (bs : List Nat) (w : World) (hS : Bs w b off m cap bs) (hm : 1 ≤ m) (h0 : x0 = bs.getD 0 0) (hT : x0 ≠ fn) :
    Calls Try.prog 45 #[rqV fn addr n addr2 bv rv, .slice (some ⟨b, off, none⟩) m cap] w fun e w' => Told (AnsIs ⟨fn, addr, n, addr2, bits, regs⟩ bs) (ansOf ⟨fn, addr, n, addr2, bits, regs⟩ bs) w e w' := by
  have k0 : w.cell? ⟨b, off, none⟩ = some (.int .u8 x0) := by rw [h0]; exact hS.at 0 (by omega)
  have H0 := hid_as h0
  have HT := hid_as hT
  have hb : b < w.heap.size := lt_of_cell k0
  have g0 : ((m : Int) == 0) = false := by rw [beq_eq_false_iff_ne]; omega
  have g1 : ((x0 : Int) != (fn : Int)) = true := by rw [bne_iff_ne]; omega
  have i0 : (0 : Int) < (m : Int) := by omega
  clear h0 hT hS
  unfold rqV
  go_enter Try.func45, Try.ntmps45
  go_upto_region 1 with fail
  have TW := two_new w fn addr n addr2 bv rv
  generalize ((w.alloc (.cells #[.int .u8 (fn : Nat), .int .u16 addr, .int .u16 n, .int .u16 addr2, bv, rv] 26)).alloc (.cells #[.int .u8 0, .int .u8 0, .int .u16 0, .int .u16 0, .slice none 0 0, .slice none 0 0] 44)) = W at TW ⊢
  obtain ⟨BX, q, K, hs⟩ := TW
  obtain ⟨c0, c1, c2, c3, c4, c5⟩ := BX
  obtain ⟨⟨d0, d1, d2, d3, d4, d5⟩, hfz⟩ := block6 q
  have f0 := hfz 0
  have f1 := hfz 1
  have f2 := hfz 2
  have f3 := hfz 3
  have f4 := hfz 4
  have f5 := hfz 5
  have K : Hid (Below w.heap.size w W) := K
  clear hfz
  have k0' : W.cell? ⟨b, off, none⟩ = some (.int .u8 x0) := (K.out.cell (p := ⟨b, off, none⟩) hb).trans k0
  go_quiet (fail)
  go_wp2
  have BF := set_box (Box.drewN (Box.mk d0 d1 d2 d3 d4 d5) nq) (.int .u8 0) (.int .u8 0) (.int .u16 0) (.int .u16 0) (.slice none 0 0) (.slice none 0 0)
  obtain ⟨e0, e1, e2, e3, e4, e5⟩ := BF
  refine bodyPost_ret (v := .tuple #[.agg #[.int .u8 0, .int .u8 0, .int .u16 0, .int .u16 0, .slice none 0 0, .slice none 0 0], .bool false]) (by simp [results, Try.results45, go_sem, e0, e1, e2, e3, e4, e5]) rfl (Told.no (below_six (below_drewN K.out nq) (Nat.le_succ _) _ _ _ _ _ _) rfl ?_)
  exact fun h => HT.out (H0.out.trans h.2.1)
end Go.Proofs.Ytehbbkdiekgpbaa
