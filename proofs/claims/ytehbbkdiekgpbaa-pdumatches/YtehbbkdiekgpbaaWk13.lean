/- The walk: a request's bytes. -/
import Derived.Test.YtehbbkdiekgpbaaJ2
import Derived.Deep.RegionWith
namespace Go.Proofs.Ytehbbkdiekgpbaa
open Go.RowKit
open Pdu
set_option maxHeartbeats 1600000 in
theorem request_no {v : Value} {q : Rq} {w : World} (h : IsRq w v q) (hf : ¬ q.Fits) : Calls Try.prog 11 #[v] w fun e w' => e = .returned (.tuple #[.slice none 0 0, .int .i64 30]) ∧ Below w.heap.size w w' := by
  obtain ⟨ok, bv, rv, rfl, h1, h2⟩ := h
  obtain ⟨fn, addr, n, addr2, bits, regs⟩ := q
  have HW : Hid (IsRq (w.alloc (.cells #[.int .u8 fn, .int .u16 addr, .int .u16 n, .int .u16 addr2, bv, rv] 26)) (rqV fn addr n addr2 bv rv) ⟨fn, addr, n, addr2, bits, regs⟩) := ⟨ok, bv, rv, rfl, h1.below ((Below.refl _ w).alloc (Nat.le_refl _) _), h2.below ((Below.refl _ w).alloc (Nat.le_refl _) _)⟩
  have hd := decide_eq_false hf
  unfold rqV at HW ⊢
  clear h1 h2 ok hf
  simp only at HW hd ⊢
  go_enter Try.func11, Try.ntmps11
  go_wp2_with (go_at_call 31; refine (fits_c HW.out).mono ?_; rintro e w1 ⟨rfl, hb⟩; rw [hd])
  go_ret2
  exact ⟨rfl, ((Below.refl _ w).alloc (Nat.le_refl _) _).trans (hb.mono (by simp))⟩
theorem chain {w w1 w2 : World} {o : Obj} (hb : Below (w.alloc o).heap.size (w.alloc o) w1) (hb2 : Below w1.heap.size w1 w2) : Below w.heap.size w w2 :=
  ((below_new (Below.refl _ w) o).trans (hb.mono (by simp))).trans (hb2.mono (Nat.le_of_lt (box_lt hb)))
set_option maxHeartbeats 1600000 in
theorem request_1 (fn addr n addr2 : Nat) (bits : List Bool) (regs : List Nat) (bv rv : Value) (w : World) (ok : (Rq.mk fn addr n addr2 bits regs).Ok) (hf : (Rq.mk fn addr n addr2 bits regs).Fits) (h1 : Sl w bv (bls bits)) (h2 : Sl w rv (u16s regs)) (hfn : fn = 1 ∨ fn = 2 ∨ fn = 3 ∨ fn = 4) :
    Calls Try.prog 11 #[rqV fn addr n addr2 bv rv] w fun e w' => ∃ v', e = .returned (.tuple #[v', .int .i64 0]) ∧ w'.ownsRow w.heap.size 5 1 v' (reqBytes ⟨fn, addr, n, addr2, bits, regs⟩).length (u8s (reqBytes ⟨fn, addr, n, addr2, bits, regs⟩)) ∧ Below w.heap.size w w' := by
  have HW : Hid (IsRq (w.alloc (.cells #[.int .u8 fn, .int .u16 addr, .int .u16 n, .int .u16 addr2, bv, rv] 26)) (rqV fn addr n addr2 bv rv) ⟨fn, addr, n, addr2, bits, regs⟩) := ⟨ok, bv, rv, rfl, h1.below ((Below.refl _ w).alloc (Nat.le_refl _) _), h2.below ((Below.refl _ w).alloc (Nat.le_refl _) _)⟩
  have hd := decide_eq_true hf
  have BX : Hid _ := Box.new w (.int .u8 fn) (.int .u16 addr) (.int .u16 n) (.int .u16 addr2) bv rv 26
  have hA : addr < 65536 := ok.addr
  have hN : n < 65536 := ok.n
  have hA2 : addr2 < 65536 := ok.addr2
  have hWR : Words regs := ok.regs
  have HF : Hid (FitsN fn n addr2 bits.length regs.length) := hf
  have hR : reqBytes ⟨fn, addr, n, addr2, bits, regs⟩ = (fn :: wd addr) ++ wds [n] := by
    rcases hfn with rfl | rfl | rfl | rfl <;> simp [reqBytes, tail, wds_one]
  have HR : Hid _ := hR
  clear hR
  unfold rqV at HW ⊢
  have S1 : Hid (Sl w bv (bls bits)) := h1
  have S2 : Hid (Sl w rv (u16s regs)) := h2
  have Z1 : Hid (∀ base, w.heap.size ≤ base → Old base bv (bls bits)) := fun _ h => Sl.old h1 h
  have Z2 : Hid (∀ base, w.heap.size ≤ base → Old base rv (u16s regs)) := fun _ h => Sl.old h2 h
  clear h1 h2 ok hf
  rcases hfn with rfl | rfl | rfl | rfl
  all_goals
    go_enter Try.func11, Try.ntmps11
    go_wp2_with (go_at_call 31; refine (fits_c HW.out).mono ?_; rintro e w1 ⟨rfl, hb⟩; rw [hd]; have B1 := BX.out.below hb (by simp); obtain ⟨c0, c1, c2, c3, c4, c5⟩ := B1; have hs := box_lt hb)
    refine (first_put hA w1).mono ?_
    rintro e w2 ⟨v2, rfl, own2, hb2⟩
    have K2 : Hid (Below w.heap.size w w2) := chain hb hb2
    have S1 : Hid (Sl w2 bv (bls bits)) := S1.out.below K2.out
    have S2 : Hid (Sl w2 rv (u16s regs)) := S2.out.below K2.out
    have O1 : Hid (Old w1.heap.size bv (bls bits)) := Z1.out _ (Nat.le_of_lt hs)
    have O2 : Hid (Old w1.heap.size rv (u16s regs)) := Z2.out _ (Nat.le_of_lt hs)
    have B2 := (Box.mk c0 c1 c2 c3 c4 c5).below hb2 hs
    have hs12 : w1.heap.size ≤ w2.heap.size := hb2.size
    have hs2 : w.heap.size < w2.heap.size := Nat.lt_of_lt_of_le hs hs12
    have own2 : Hid (w2.ownsRow w1.heap.size 5 1 v2 3 (u8s (_ :: wd addr))) := own2
    clear c0 c1 c2 c3 c4 c5 hb2
    obtain ⟨c0, c1, c2, c3, c4, c5⟩ := B2
    go_wp2_with fail
    refine (next_put (base := w1.heap.size) (bs := _ :: wd addr) (l := [n]) (n := 1) (a := #[.int .u16 n]) rfl rfl (words_one hN) (by simp [wd]) own2.out hs12).mono ?_
    rintro e w3 ⟨v3, rfl, own3, hb3⟩
    have K3 : Hid (Below w.heap.size w w3) := K2.out.trans (hb3.mono (Nat.le_of_lt hs))
    have own3 : Hid (w3.ownsRow w1.heap.size 5 1 v3 _ _) := own3
    clear hb3
    go_wp2
    go_ret2
    refine ⟨_, rfl, ?_, K3⟩
    rw [HR.out]
    exact own_base own3.out (Nat.le_of_lt hs)

set_option maxHeartbeats 1600000 in
theorem request_6 (fn addr n addr2 : Nat) (bits : List Bool) (regs : List Nat) (bv rv : Value) (w : World) (ok : (Rq.mk fn addr n addr2 bits regs).Ok) (hf : (Rq.mk fn addr n addr2 bits regs).Fits) (h1 : Sl w bv (bls bits)) (h2 : Sl w rv (u16s regs)) (hfn : fn = 6 ∨ fn = 22) :
    Calls Try.prog 11 #[rqV fn addr n addr2 bv rv] w fun e w' => ∃ v', e = .returned (.tuple #[v', .int .i64 0]) ∧ w'.ownsRow w.heap.size 5 1 v' (reqBytes ⟨fn, addr, n, addr2, bits, regs⟩).length (u8s (reqBytes ⟨fn, addr, n, addr2, bits, regs⟩)) ∧ Below w.heap.size w w' := by
  have HW : Hid (IsRq (w.alloc (.cells #[.int .u8 fn, .int .u16 addr, .int .u16 n, .int .u16 addr2, bv, rv] 26)) (rqV fn addr n addr2 bv rv) ⟨fn, addr, n, addr2, bits, regs⟩) := ⟨ok, bv, rv, rfl, h1.below ((Below.refl _ w).alloc (Nat.le_refl _) _), h2.below ((Below.refl _ w).alloc (Nat.le_refl _) _)⟩
  have hd := decide_eq_true hf
  have BX : Hid _ := Box.new w (.int .u8 fn) (.int .u16 addr) (.int .u16 n) (.int .u16 addr2) bv rv 26
  have hA : addr < 65536 := ok.addr
  have hN : n < 65536 := ok.n
  have hA2 : addr2 < 65536 := ok.addr2
  have hWR : Words regs := ok.regs
  have HF : Hid (FitsN fn n addr2 bits.length regs.length) := hf
  have hR : reqBytes ⟨fn, addr, n, addr2, bits, regs⟩ = (fn :: wd addr) ++ wds regs := by
    rcases hfn with rfl | rfl <;> simp [reqBytes, tail]
  have HR : Hid _ := hR
  clear hR
  have hrl : regs.length ≤ 2 := by unfold Hid FitsN at HF; omega
  unfold rqV at HW ⊢
  have S1 : Hid (Sl w bv (bls bits)) := h1
  have S2 : Hid (Sl w rv (u16s regs)) := h2
  have Z1 : Hid (∀ base, w.heap.size ≤ base → Old base bv (bls bits)) := fun _ h => Sl.old h1 h
  have Z2 : Hid (∀ base, w.heap.size ≤ base → Old base rv (u16s regs)) := fun _ h => Sl.old h2 h
  clear h1 h2 ok hf
  rcases hfn with rfl | rfl
  all_goals
    go_enter Try.func11, Try.ntmps11
    go_wp2_with (go_at_call 31; refine (fits_c HW.out).mono ?_; rintro e w1 ⟨rfl, hb⟩; rw [hd]; have B1 := BX.out.below hb (by simp); obtain ⟨c0, c1, c2, c3, c4, c5⟩ := B1; have hs := box_lt hb)
    refine (first_put hA w1).mono ?_
    rintro e w2 ⟨v2, rfl, own2, hb2⟩
    have K2 : Hid (Below w.heap.size w w2) := chain hb hb2
    have S1 : Hid (Sl w2 bv (bls bits)) := S1.out.below K2.out
    have S2 : Hid (Sl w2 rv (u16s regs)) := S2.out.below K2.out
    have O1 : Hid (Old w1.heap.size bv (bls bits)) := Z1.out _ (Nat.le_of_lt hs)
    have O2 : Hid (Old w1.heap.size rv (u16s regs)) := Z2.out _ (Nat.le_of_lt hs)
    have B2 := (Box.mk c0 c1 c2 c3 c4 c5).below hb2 hs
    have hs12 : w1.heap.size ≤ w2.heap.size := hb2.size
    have hs2 : w.heap.size < w2.heap.size := Nat.lt_of_lt_of_le hs hs12
    have own2 : Hid (w2.ownsRow w1.heap.size 5 1 v2 3 (u8s (_ :: wd addr))) := own2
    clear c0 c1 c2 c3 c4 c5 hb2
    obtain ⟨c0, c1, c2, c3, c4, c5⟩ := B2
    go_wp2_with fail
    refine (putWords_c (base := w1.heap.size) (bs := _ :: wd addr) (l := regs) hWR (by simp [wd]; omega) own2.out S2.out (O2.out.off _) hs12).mono ?_
    rintro e w3 ⟨v3, rfl, own3, hb3⟩
    have K3 : Hid (Below w.heap.size w w3) := K2.out.trans (hb3.mono (Nat.le_of_lt hs))
    have own3 : Hid (w3.ownsRow w1.heap.size 5 1 v3 _ _) := own3
    clear hb3
    go_wp2
    go_ret2
    refine ⟨_, rfl, ?_, K3⟩
    rw [HR.out]
    exact own_base own3.out (Nat.le_of_lt hs)

set_option maxHeartbeats 1600000 in
theorem request_5 (fn addr n addr2 : Nat) (bits : List Bool) (regs : List Nat) (bv rv : Value) (w : World) (ok : (Rq.mk fn addr n addr2 bits regs).Ok) (hf : (Rq.mk fn addr n addr2 bits regs).Fits) (h1 : Sl w bv (bls bits)) (h2 : Sl w rv (u16s regs)) (hfn : fn = 5) :
    Calls Try.prog 11 #[rqV fn addr n addr2 bv rv] w fun e w' => ∃ v', e = .returned (.tuple #[v', .int .i64 0]) ∧ w'.ownsRow w.heap.size 5 1 v' (reqBytes ⟨fn, addr, n, addr2, bits, regs⟩).length (u8s (reqBytes ⟨fn, addr, n, addr2, bits, regs⟩)) ∧ Below w.heap.size w w' := by
  have HW : Hid (IsRq (w.alloc (.cells #[.int .u8 fn, .int .u16 addr, .int .u16 n, .int .u16 addr2, bv, rv] 26)) (rqV fn addr n addr2 bv rv) ⟨fn, addr, n, addr2, bits, regs⟩) := ⟨ok, bv, rv, rfl, h1.below ((Below.refl _ w).alloc (Nat.le_refl _) _), h2.below ((Below.refl _ w).alloc (Nat.le_refl _) _)⟩
  have hd := decide_eq_true hf
  have BX : Hid _ := Box.new w (.int .u8 fn) (.int .u16 addr) (.int .u16 n) (.int .u16 addr2) bv rv 26
  have hA : addr < 65536 := ok.addr
  have hN : n < 65536 := ok.n
  have hA2 : addr2 < 65536 := ok.addr2
  have hWR : Words regs := ok.regs
  have HF : Hid (FitsN fn n addr2 bits.length regs.length) := hf
  have hR : reqBytes ⟨fn, addr, n, addr2, bits, regs⟩ = (fn :: wd addr) ++ wds [coil (bits.getD 0 false)] := by
    rcases hfn with rfl <;> simp [reqBytes, tail, wds_one]
  have HR : Hid _ := hR
  clear hR
  obtain ⟨b, off, cap, hbv, hcell⟩ : ∃ b off cap, bv = .slice (some ⟨b, off, none⟩) 1 cap ∧ w.cell? ⟨b, off, none⟩ = some (.bool (bits.getD 0 false)) := by
    have hl : bits.length = 1 := by unfold Hid FitsN at HF; omega
    rcases h1 with ⟨h1, _⟩ | ⟨b, off, cap, rfl, _, hc⟩
    · have := bls_nil h1
      rw [this] at hl
      simp at hl
    · exact ⟨b, off, cap, by rw [bls_len, hl], hc.bl 0 (by omega)⟩
  obtain ⟨on, hon⟩ : ∃ on, on = bits.getD 0 false := ⟨_, rfl⟩
  rw [← hon] at hcell HR
  clear hon
  subst hbv
  unfold rqV at HW ⊢
  have S2 : Hid (Sl w rv (u16s regs)) := h2
  have Z2 : Hid (∀ base, w.heap.size ≤ base → Old base rv (u16s regs)) := fun _ h => Sl.old h2 h
  clear h1 h2 ok hf
  rcases hfn with rfl
  all_goals
    go_enter Try.func11, Try.ntmps11
    go_wp2_with (go_at_call 31; refine (fits_c HW.out).mono ?_; rintro e w1 ⟨rfl, hb⟩; rw [hd]; have B1 := BX.out.below hb (by simp); obtain ⟨c0, c1, c2, c3, c4, c5⟩ := B1; have hs := box_lt hb)
    refine (first_put hA w1).mono ?_
    rintro e w2 ⟨v2, rfl, own2, hb2⟩
    have K2 : Hid (Below w.heap.size w w2) := chain hb hb2
    have S2 : Hid (Sl w2 rv (u16s regs)) := S2.out.below K2.out
    have O2 : Hid (Old w1.heap.size rv (u16s regs)) := Z2.out _ (Nat.le_of_lt hs)
    have B2 := (Box.mk c0 c1 c2 c3 c4 c5).below hb2 hs
    have hs12 : w1.heap.size ≤ w2.heap.size := hb2.size
    have hs2 : w.heap.size < w2.heap.size := Nat.lt_of_lt_of_le hs hs12
    have own2 : Hid (w2.ownsRow w1.heap.size 5 1 v2 3 (u8s (_ :: wd addr))) := own2
    clear c0 c1 c2 c3 c4 c5 hb2
    obtain ⟨c0, c1, c2, c3, c4, c5⟩ := B2
    have hcell2 : w2.cell? ⟨b, off, none⟩ = some (.bool on) := (K2.out.cell (p := ⟨b, off, none⟩) (lt_of_cell hcell)).trans hcell
    go_wp2_with (go_at_call 33; refine (coil_c on _).mono ?_; rintro e w' ⟨rfl, hw⟩; subst w')
    refine (next_put (base := w1.heap.size) (bs := _ :: wd addr) (l := [coil on]) (n := 1) (a := #[.int .u16 (coil on : Nat)]) rfl rfl (words_one (coil_lt on)) (by simp [wd]) own2.out hs12).mono ?_
    rintro e w3 ⟨v3, rfl, own3, hb3⟩
    have K3 : Hid (Below w.heap.size w w3) := K2.out.trans (hb3.mono (Nat.le_of_lt hs))
    have own3 : Hid (w3.ownsRow w1.heap.size 5 1 v3 _ _) := own3
    clear hb3
    go_wp2
    go_ret2
    refine ⟨_, rfl, ?_, K3⟩
    rw [HR.out]
    exact own_base own3.out (Nat.le_of_lt hs)

end Go.Proofs.Ytehbbkdiekgpbaa
