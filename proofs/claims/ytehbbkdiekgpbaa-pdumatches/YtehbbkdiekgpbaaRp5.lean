/- The walk: a reply's bytes, of a writing function. -/
import Derived.Test.YtehbbkdiekgpbaaWk16
namespace Go.Proofs.Ytehbbkdiekgpbaa
open Go.RowKit
open Pdu
set_option maxHeartbeats 1600000 in
theorem reply_5 (fn addr n : Nat) (bits : List Bool) (regs : List Nat) (bv rv : Value) (w : World) (ok : (Rp.mk fn 0 addr n bits regs).Ok) (hf : (Rp.mk fn 0 addr n bits regs).Fits) (h1 : Sl w bv (bls bits)) (h2 : Sl w rv (u16s regs)) (hfn : fn = 5) :
    Calls Try.prog 19 #[rpV fn 0 addr n bv rv] w fun e w' => ∃ v', e = .returned (.tuple #[v', .int .i64 0]) ∧ w'.ownsRow w.heap.size 5 1 v' (repBytes ⟨fn, 0, addr, n, bits, regs⟩).length (u8s (repBytes ⟨fn, 0, addr, n, bits, regs⟩)) ∧ Below w.heap.size w w' := by
  have HW : Hid (IsRp (w.alloc (.cells #[.int .u8 fn, .int .u8 0, .int .u16 addr, .int .u16 n, bv, rv] 44)) (rpV fn 0 addr n bv rv) ⟨fn, 0, addr, n, bits, regs⟩) := ⟨ok, bv, rv, rfl, h1.below ((Below.refl _ w).alloc (Nat.le_refl _) _), h2.below ((Below.refl _ w).alloc (Nat.le_refl _) _)⟩
  have hd := decide_eq_true hf
  have BX : Hid _ := Box.new w (.int .u8 fn) (.int .u8 0) (.int .u16 addr) (.int .u16 n) bv rv 44
  have hA : addr < 65536 := ok.addr
  have hN : n < 65536 := ok.n
  have hWR : Words regs := ok.regs
  have HF : Hid (RFitsN fn 0 addr n bits.length regs.length) := hf
  have hR : repBytes ⟨fn, 0, addr, n, bits, regs⟩ = ([fn] ++ wds [addr, coil (bits.getD 0 false)]) := by
    rcases hfn with rfl <;> simp [repBytes, rtail, wds_two]
  have HR : Hid _ := hR
  clear hR
  obtain ⟨b, off, cap, hbv, hcell⟩ : ∃ b off cap, bv = .slice (some ⟨b, off, none⟩) 1 cap ∧ w.cell? ⟨b, off, none⟩ = some (.bool (bits.getD 0 false)) := by
    have hl : bits.length = 1 := by unfold Hid RFitsN at HF; omega
    rcases h1 with ⟨h1, _⟩ | ⟨b, off, cap, rfl, _, hc⟩
    · have := bls_nil h1
      rw [this] at hl
      simp at hl
    · exact ⟨b, off, cap, by rw [bls_len, hl], hc.bl 0 (by omega)⟩
  obtain ⟨on, hon⟩ : ∃ on, on = bits.getD 0 false := ⟨_, rfl⟩
  rw [← hon] at hcell HR
  clear hon
  subst hbv
  unfold rpV at HW ⊢
  have S2 : Hid (Sl w rv (u16s regs)) := h2
  have Z2 : Hid (∀ base, w.heap.size ≤ base → Old base rv (u16s regs)) := fun _ h => Sl.old h2 h
  clear h1 h2 ok hf
  rcases hfn with rfl
  all_goals
    go_enter Try.func19, Try.ntmps19
    go_wp2_with (go_at_call 43; refine (rfit_c HW.out).mono ?_; rintro e w1 ⟨rfl, hb⟩; rw [hd]; have B1 := BX.out.below hb (by simp); obtain ⟨c0, c1, c2, c3, c4, c5⟩ := B1; have hs := box_lt hb)
    have K1 : Hid (∀ w2, Below w1.heap.size w1 w2 → Below w.heap.size w w2) := fun w2 h => chain hb h
    have S2 : Hid (∀ w2, Below w1.heap.size w1 w2 → Sl w2 rv (u16s regs)) := fun w2 h => S2.out.below (K1.out w2 h)
    have O2 : Hid (Old w1.heap.size rv (u16s regs)) := Z2.out _ (Nat.le_of_lt hs)
    have hcell2 : w1.cell? ⟨b, off, none⟩ = some (.bool on) := ((K1.out w1 (Below.refl _ _)).cell (p := ⟨b, off, none⟩) (lt_of_cell hcell)).trans hcell
    have hbs : b < w1.heap.size := lt_of_cell hcell2
    have hco := coil_lt on
    have hnp := second_put_d (fn := 5) (l := [addr, coil on]) (n := 2) (a := #[.int .u16 (addr : Int), .int .u16 (coil on : Int)]) rfl rfl (words_two hA hco) (by simp) w1
    go_wp2
    go_region_with (first | (go_at_call 33; refine (coil_c on _).mono ?_; rintro e w' ⟨rfl, hw⟩; subst w') | (go_at_call 32; refine hnp.mono ?_; rintro e w3 ⟨v3, rfl, own3, hb3⟩; have K3 : Hid (Below w.heap.size w w3) := K1.out _ ((below_new (Below.refl _ w1) _).trans hb3); have own3 : Hid (w3.ownsRow w1.heap.size 5 1 v3 _ _) := own3; clear hb3))
    all_goals
      clear hb
      go_wp2
      go_ret2
      refine ⟨_, rfl, ?_, K3⟩
      rw [HR.out]
      exact own_base own3.out (Nat.le_of_lt hs)
end Go.Proofs.Ytehbbkdiekgpbaa
