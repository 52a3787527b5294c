/- The walk: a request's bytes, of counted bits and words. -/
import Derived.Test.YtehbbkdiekgpbabWk13
import Derived.Deep.RegionHeld3
namespace Go.Proofs.Ytehbbkdiekgpbab
open Go.RowKit
open Pdu
set_option linter.unusedSimpArgs false in
set_option maxHeartbeats 1600000 in
theorem request_23 (fn addr n addr2 : Nat) (bits : List Bool) (regs : List Nat) (bv rv : Value) (w : World) (ok : (Rq.mk fn addr n addr2 bits regs).Ok) (hf : (Rq.mk fn addr n addr2 bits regs).Fits) (h1 : Sl w bv (bls bits)) (h2 : Sl w rv (u16s regs)) (hfn : fn = 23) :
    Calls Try.prog 7 #[rqV fn addr n addr2 bv rv] w fun e w' => ∃ v', e = .returned (.tuple #[v', .int .i64 0]) ∧ w'.ownsRow w.heap.size 5 1 v' (reqBytes ⟨fn, addr, n, addr2, bits, regs⟩).length (u8s (reqBytes ⟨fn, addr, n, addr2, bits, regs⟩)) ∧ Below w.heap.size w w' := by
  have HW : Hid (IsRq (w.alloc (.cells #[.int .u8 fn, .int .u16 addr, .int .u16 n, .int .u16 addr2, bv, rv] 26)) (rqV fn addr n addr2 bv rv) ⟨fn, addr, n, addr2, bits, regs⟩) := ⟨ok, bv, rv, rfl, h1.below ((Below.refl _ w).alloc (Nat.le_refl _) _), h2.below ((Below.refl _ w).alloc (Nat.le_refl _) _)⟩
  have hd := decide_eq_true hf
  have BX : Hid _ := Box.new w (.int .u8 fn) (.int .u16 addr) (.int .u16 n) (.int .u16 addr2) bv rv 26
  have hA : addr < 65536 := ok.addr
  have hN : n < 65536 := ok.n
  have hA2 : addr2 < 65536 := ok.addr2
  have hWR : Words regs := ok.regs
  have HF : Hid (FitsN fn n addr2 bits.length regs.length) := hf
  have hR : reqBytes ⟨fn, addr, n, addr2, bits, regs⟩ = (fn :: wd addr) ++ (wds [n, addr2, regs.length] ++ (2 * regs.length % 256 :: wds regs)) := by
    rcases hfn with rfl <;> simp [reqBytes, tail, wds_three]
  have HR : Hid _ := hR
  clear hR
  obtain ⟨xo, xc, hx⟩ := h2.shape
  obtain ⟨m, hm⟩ : ∃ m, m = regs.length := ⟨_, rfl⟩
  have hm2 : 1 ≤ m ∧ m ≤ 121 := by unfold Hid FitsN at HF; omega
  rw [u16s_len, ← hm] at hx
  have e1 : IntKind.u16.wrap (m : Int) = (m : Int) := by rw [IntKind.wrap_u16]; omega
  have HM : Hid (m = regs.length) := hm
  clear hm
  subst hx
  unfold rqV at HW ⊢
  have S1 : Hid (Sl w bv (bls bits)) := h1
  have S2 : Hid (Sl w (.slice xo m xc) (u16s regs)) := h2
  have Z1 : Hid (∀ base, w.heap.size ≤ base → Old base bv (bls bits)) := fun _ h => Sl.old h1 h
  have Z2 : Hid (∀ base, w.heap.size ≤ base → Old base (.slice xo m xc) (u16s regs)) := fun _ h => Sl.old h2 h
  clear h1 h2 ok hf
  rcases hfn with rfl
  all_goals
    go_enter Try.func7, Try.ntmps7
    go_wp2_with (go_at_call 17; refine (fits_c HW.out).mono ?_; rintro e w1 ⟨rfl, hb⟩; rw [hd]; have B1 := BX.out.below hb (by simp); obtain ⟨c0, c1, c2, c3, c4, c5⟩ := B1; have hs := box_lt hb)
    refine (first_put hA w1).mono ?_
    rintro e w2 ⟨v2, rfl, own2, hb2⟩
    have K2 : Hid (Below w.heap.size w w2) := chain hb hb2
    have S1 : Hid (Sl w2 bv (bls bits)) := S1.out.below K2.out
    have S2 : Hid (Sl w2 (.slice xo m xc) (u16s regs)) := S2.out.below K2.out
    have O1 : Hid (Old w1.heap.size bv (bls bits)) := Z1.out _ (Nat.le_of_lt hs)
    have O2 : Hid (Old w1.heap.size (.slice xo m xc) (u16s regs)) := Z2.out _ (Nat.le_of_lt hs)
    have B2 := (Box.mk c0 c1 c2 c3 c4 c5).below hb2 hs
    have hs12 : w1.heap.size ≤ w2.heap.size := hb2.size
    have hs2 : w.heap.size < w2.heap.size := Nat.lt_of_lt_of_le hs hs12
    have own2 : Hid (w2.ownsRow w1.heap.size 5 1 v2 3 (u8s (_ :: wd addr))) := own2
    clear c0 c1 c2 c3 c4 c5 hb2
    obtain ⟨c0, c1, c2, c3, c4, c5⟩ := B2
    go_wp2
    go_region_held3 (fun w' => w'.cell? ⟨w.heap.size, 2, none⟩ = some (.int .u16 n) ∧ w'.cell? ⟨w.heap.size, 3, none⟩ = some (.int .u16 addr2) ∧ w'.cell? ⟨w.heap.size, 5, none⟩ = some (.slice xo m xc)) (first | exact ⟨j2, j3, j5⟩ | exact ⟨d2, d3, d5⟩ | (simp [World.cell?_alloc_past, hs2, c2, c3, c5]; done)) (first | (go_at_call 18; refine (next_put_d (base := w1.heap.size) (bs := _ :: wd addr) (l := [n, addr2, m]) (n := 3) (a := #[.int .u16 (n : Int), .int .u16 (addr2 : Int), .int .u16 (m : Int)]) rfl rfl (by exact words_three hN hA2 (by omega)) (by simp [wd]) own2.out hs12).mono ?_; rintro e w3 ⟨v3, rfl, own3, hb3⟩; have B3 := (Box.mk c0 c1 c2 c3 c4 c5).below hb3 hs; obtain ⟨d0, d1, d2, d3, d4, d5⟩ := B3; have hs13 := Nat.le_trans hs12 hb3.size; have K3 := K2.out.trans (hb3.mono (Nat.le_of_lt hs)); have T1 := S2.out.keep O2.out hb3) | (go_at_call 21; refine (putRegs_c (base := w1.heap.size) hWR (by rw [← (show m = _ from HM)]; simp [wd, wds]; omega) own3 T1 O2.out hs13).mono ?_; rintro e w4 ⟨v4, rfl, own4, hb4⟩; have J4 := (Box.mk d0 d1 d2 d3 d4 d5).below hb4 hs; obtain ⟨j0, j1, j2, j3, j4, j5⟩ := J4; have K4 : Hid _ := K3.trans (hb4.mono (Nat.le_of_lt hs)); have own4 : Hid _ := own4; clear hb4))
    all_goals
      go_wp2
      go_ret2
      refine ⟨_, rfl, ?_, K4⟩
      have o4 := own4.out
      rw [show m = _ from HM] at o4
      rw [HR.out, ← List.append_assoc]
      exact own_base o4 (Nat.le_of_lt hs)

end Go.Proofs.Ytehbbkdiekgpbab
