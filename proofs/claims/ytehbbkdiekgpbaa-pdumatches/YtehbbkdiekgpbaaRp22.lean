/- The walk: a reply's bytes, of a writing function. -/
import Derived.Test.YtehbbkdiekgpbaaWk16
namespace Go.Proofs.Ytehbbkdiekgpbaa
open Go.RowKit
open Pdu
set_option maxHeartbeats 1600000 in
theorem reply_22 (fn addr n : Nat) (bits : List Bool) (regs : List Nat) (bv rv : Value) (w : World) (ok : (Rp.mk fn 0 addr n bits regs).Ok) (hf : (Rp.mk fn 0 addr n bits regs).Fits) (h1 : Sl w bv (bls bits)) (h2 : Sl w rv (u16s regs)) (hfn : fn = 22) :
    Calls Try.prog 19 #[rpV fn 0 addr n bv rv] w fun e w' => ∃ v', e = .returned (.tuple #[v', .int .i64 0]) ∧ w'.ownsRow w.heap.size 5 1 v' (repBytes ⟨fn, 0, addr, n, bits, regs⟩).length (u8s (repBytes ⟨fn, 0, addr, n, bits, regs⟩)) ∧ Below w.heap.size w w' := by
  have HW : Hid (IsRp (w.alloc (.cells #[.int .u8 fn, .int .u8 0, .int .u16 addr, .int .u16 n, bv, rv] 44)) (rpV fn 0 addr n bv rv) ⟨fn, 0, addr, n, bits, regs⟩) := ⟨ok, bv, rv, rfl, h1.below ((Below.refl _ w).alloc (Nat.le_refl _) _), h2.below ((Below.refl _ w).alloc (Nat.le_refl _) _)⟩
  have hd := decide_eq_true hf
  have BX : Hid _ := Box.new w (.int .u8 fn) (.int .u8 0) (.int .u16 addr) (.int .u16 n) bv rv 44
  have hA : addr < 65536 := ok.addr
  have hN : n < 65536 := ok.n
  have hWR : Words regs := ok.regs
  have HF : Hid (RFitsN fn 0 addr n bits.length regs.length) := hf
  have hR : repBytes ⟨fn, 0, addr, n, bits, regs⟩ = (([fn] ++ wds [addr]) ++ wds regs) := by
    rcases hfn with rfl <;> simp [repBytes, rtail, wds_one]
  have HR : Hid _ := hR
  clear hR
  have hbl : bits.length ≤ 2000 ∧ regs.length ≤ 125 := by unfold Hid RFitsN at HF; omega
  have hrl2 : regs.length ≤ 2 := by unfold Hid RFitsN at HF; omega
  unfold rpV at HW ⊢
  have S1 : Hid (Sl w bv (bls bits)) := h1
  have S2 : Hid (Sl w rv (u16s regs)) := h2
  have Z1 : Hid (∀ base, w.heap.size ≤ base → Old base bv (bls bits)) := fun _ h => Sl.old h1 h
  have Z2 : Hid (∀ base, w.heap.size ≤ base → Old base rv (u16s regs)) := fun _ h => Sl.old h2 h
  clear h1 h2 ok hf
  rcases hfn with rfl
  all_goals
    go_enter Try.func19, Try.ntmps19
    go_wp2_with (go_at_call 43; refine (rfit_c HW.out).mono ?_; rintro e w1 ⟨rfl, hb⟩; rw [hd]; have B1 := BX.out.below hb (by simp); obtain ⟨c0, c1, c2, c3, c4, c5⟩ := B1; have hs := box_lt hb)
    have K1 : Hid (∀ w2, Below w1.heap.size w1 w2 → Below w.heap.size w w2) := fun w2 h => chain hb h
    have S1 : Hid (∀ w2, Below w1.heap.size w1 w2 → Sl w2 bv (bls bits)) := fun w2 h => S1.out.below (K1.out w2 h)
    have S2 : Hid (∀ w2, Below w1.heap.size w1 w2 → Sl w2 rv (u16s regs)) := fun w2 h => S2.out.below (K1.out w2 h)
    have O1 : Hid (Old w1.heap.size bv (bls bits)) := Z1.out _ (Nat.le_of_lt hs)
    have O2 : Hid (Old w1.heap.size rv (u16s regs)) := Z2.out _ (Nat.le_of_lt hs)
    have hnp := second_put_d (fn := 22) (l := [addr]) (n := 1) (a := #[.int .u16 (addr : Int)]) rfl rfl (words_one hA) (by simp) w1
    go_wp2
    go_region_with (first | (go_at_call_of 32 (Value.slice (some ⟨w1.heap.size, 0, none⟩) 1 1); refine hnp.mono ?_; rintro e w3 ⟨v3, rfl, own3, hb3⟩; have hb13 := (below_new (Below.refl _ w1) _).trans hb3; have B3 := (Box.mk c0 c1 c2 c3 c4 c5).below hb13 hs; obtain ⟨d0, d1, d2, d3, d4, d5⟩ := B3; have T2 := S2.out _ hb13; have hs3 := hb13.size) | (go_at_call_of 32 rv; refine (putWords_c (base := w1.heap.size) (bs := [22] ++ wds [addr]) (l := regs) hWR (by simp [wd, wds]; omega) own3 T2 (O2.out.off _) hs3).mono ?_; rintro e w4 ⟨v4, rfl, own4, hb4⟩; have K4 : Hid (Below w.heap.size w w4) := K1.out _ (hb13.trans hb4); have own4 : Hid (w4.ownsRow w1.heap.size 5 1 v4 _ _) := own4; clear hb4))
    all_goals
      clear hb
      go_wp2
      go_ret2
      refine ⟨_, rfl, ?_, K4⟩
      rw [HR.out]
      exact own_base own4.out (Nat.le_of_lt hs)
end Go.Proofs.Ytehbbkdiekgpbaa
