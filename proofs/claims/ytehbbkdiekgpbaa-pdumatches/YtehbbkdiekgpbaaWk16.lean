/- The walk: a reply's bytes. -/
import Derived.Test.YtehbbkdiekgpbaaWk15
import Derived.Test.YtehbbkdiekgpbaaWk13
namespace Go.Proofs.Ytehbbkdiekgpbaa
open Go.RowKit
open Pdu
theorem rfit_c {v : Value} {r : Rp} {w : World} (h : IsRp w v r) : Calls Try.prog 43 #[v] w fun e w' => e = .returned (.bool (decide r.Fits)) ∧ Below w.heap.size w w' := by
  obtain ⟨ok, bv, rv, rfl, h1, h2⟩ := h
  obtain ⟨fn, exc, addr, n, bits, regs⟩ := r
  obtain ⟨bo, bc, rfl⟩ := h1.shape
  obtain ⟨ro, rc, rfl⟩ := h2.shape
  rw [show (decide (Rp.mk fn exc addr n bits regs).Fits) = decide (RFitsN fn exc addr n bits.length regs.length) from rfl, bls_len, u16s_len]
  by_cases he : exc = 0
  · subst he
    rw [← rfits_eq _ _ _ _ _ ok.addr]
    exact fitsp_c _ _ _ _ _ _ _ _ _ _
  · have e1 : (low fn && inside addr 0 0 && inside n 0 0 && inside bits.length 0 0 && inside regs.length 0 0) = decide (RFitsN fn exc addr n bits.length regs.length) := by
      rw [Bool.eq_iff_iff, decide_eq_true_iff]
      simp only [Bool.and_eq_true, inside_iff, low, decide_eq_true_iff]
      unfold RFitsN
      omega
    rw [← e1]
    exact xfits_w fn exc addr n _ _ bc rc _ _ _ _ _ _ _ _ _ _ bo ro _ he (fun w => plim_c fn w) w
set_option maxHeartbeats 1600000 in
theorem reply_no {v : Value} {r : Rp} {w : World} (h : IsRp w v r) (hf : ¬ r.Fits) : Calls Try.prog 19 #[v] w fun e w' => e = .returned (.tuple #[.slice none 0 0, .int .i64 30]) ∧ Below w.heap.size w w' := by
  obtain ⟨ok, bv, rv, rfl, h1, h2⟩ := h
  obtain ⟨fn, exc, addr, n, bits, regs⟩ := r
  have HW : Hid (IsRp (w.alloc (.cells #[.int .u8 fn, .int .u8 exc, .int .u16 addr, .int .u16 n, bv, rv] 44)) (rpV fn exc addr n bv rv) ⟨fn, exc, addr, n, bits, regs⟩) := ⟨ok, bv, rv, rfl, h1.below ((Below.refl _ w).alloc (Nat.le_refl _) _), h2.below ((Below.refl _ w).alloc (Nat.le_refl _) _)⟩
  have hd := decide_eq_false hf
  unfold rpV at HW ⊢
  clear h1 h2 ok hf
  simp only at HW hd ⊢
  go_enter Try.func19, Try.ntmps19
  go_wp2_with (go_at_call 43; refine (rfit_c HW.out).mono ?_; rintro e w1 ⟨rfl, hb⟩; rw [hd])
  go_ret2
  exact ⟨rfl, ((Below.refl _ w).alloc (Nat.le_refl _) _).trans (hb.mono (by simp))⟩
theorem or_128 {x : Nat} (h : x < 128) : bits .or .u8 (x : Int) 128 = ((x + 128 : Nat) : Int) := by
  rw [show (128 : Int) = ((128 : Nat) : Int) from rfl, or_8 (by omega) (by decide)]
  have := Nat.two_pow_add_eq_or_of_lt (i := 7) (b := x) (by omega) 1
  rw [Nat.or_comm] at this
  rw [show (2 : Nat) ^ 7 * 1 = 128 from rfl] at this
  rw [← this]
  omega
theorem lit_own2 (w : World) (x y : Nat) : (w.alloc (.cells #[.int .u8 x, .int .u8 y] 5)).ownsRow w.heap.size 5 1 (.slice (some ⟨w.heap.size, 0, none⟩) 2 2) 2 (u8s [x, y]) :=
  World.ownsRow_lit w #[.int .u8 (x : Int), .int .u8 (y : Int)] 2 (Nat.le_refl _) (by unfold maxLen; omega) rfl
set_option maxHeartbeats 1600000 in
theorem reply_exc (fn exc addr n : Nat) (bits : List Bool) (regs : List Nat) (bv rv : Value) (w : World) (ok : (Rp.mk fn exc addr n bits regs).Ok) (hf : (Rp.mk fn exc addr n bits regs).Fits) (h1 : Sl w bv (bls bits)) (h2 : Sl w rv (u16s regs)) (hfn : exc ≠ 0) :
    Calls Try.prog 19 #[rpV fn exc addr n bv rv] w fun e w' => ∃ v', e = .returned (.tuple #[v', .int .i64 0]) ∧ w'.ownsRow w.heap.size 5 1 v' (repBytes ⟨fn, exc, addr, n, bits, regs⟩).length (u8s (repBytes ⟨fn, exc, addr, n, bits, regs⟩)) ∧ Below w.heap.size w w' := by
  have HW : Hid (IsRp (w.alloc (.cells #[.int .u8 fn, .int .u8 exc, .int .u16 addr, .int .u16 n, bv, rv] 44)) (rpV fn exc addr n bv rv) ⟨fn, exc, addr, n, bits, regs⟩) := ⟨ok, bv, rv, rfl, h1.below ((Below.refl _ w).alloc (Nat.le_refl _) _), h2.below ((Below.refl _ w).alloc (Nat.le_refl _) _)⟩
  have hd := decide_eq_true hf
  have BX : Hid _ := Box.new w (.int .u8 fn) (.int .u8 exc) (.int .u16 addr) (.int .u16 n) bv rv 44
  have hA : addr < 65536 := ok.addr
  have hN : n < 65536 := ok.n
  have hWR : Words regs := ok.regs
  have HF : Hid (RFitsN fn exc addr n bits.length regs.length) := hf
  have h128 : fn < 128 := by unfold Hid RFitsN at HF; omega
  have hor := or_128 h128
  have he' : ((exc : Int) == 0) = false := by rw [beq_eq_false_iff_ne]; omega
  have HR : Hid (repBytes ⟨fn, exc, addr, n, bits, regs⟩ = [fn + 128, exc]) := show repBytes _ = _ by unfold repBytes; rw [if_neg hfn]
  unfold rpV at HW ⊢
  have S1 : Hid (Sl w bv (bls bits)) := h1
  have S2 : Hid (Sl w rv (u16s regs)) := h2
  have Z1 : Hid (∀ base, w.heap.size ≤ base → Old base bv (bls bits)) := fun _ h => Sl.old h1 h
  have Z2 : Hid (∀ base, w.heap.size ≤ base → Old base rv (u16s regs)) := fun _ h => Sl.old h2 h
  clear h1 h2 ok hf
  all_goals
    go_enter Try.func19, Try.ntmps19
    go_wp2_with (go_at_call 43; refine (rfit_c HW.out).mono ?_; rintro e w1 ⟨rfl, hb⟩; rw [hd]; have B1 := BX.out.below hb (by simp); obtain ⟨c0, c1, c2, c3, c4, c5⟩ := B1; have hs := box_lt hb)
    have K1 : Hid (∀ w2, Below w1.heap.size w1 w2 → Below w.heap.size w w2) := fun w2 h => chain hb h
    have S1 : Hid (∀ w2, Below w1.heap.size w1 w2 → Sl w2 bv (bls bits)) := fun w2 h => S1.out.below (K1.out w2 h)
    have S2 : Hid (∀ w2, Below w1.heap.size w1 w2 → Sl w2 rv (u16s regs)) := fun w2 h => S2.out.below (K1.out w2 h)
    have O1 : Hid (Old w1.heap.size bv (bls bits)) := Z1.out _ (Nat.le_of_lt hs)
    have O2 : Hid (Old w1.heap.size rv (u16s regs)) := Z2.out _ (Nat.le_of_lt hs)
    go_wp2
    go_ret2
    refine ⟨_, rfl, ?_, K1.out _ (below_new (Below.refl _ w1) _)⟩
    rw [HR.out]
    exact own_base (lit_own2 w1 (fn + 128) exc) (Nat.le_of_lt hs)
set_option maxHeartbeats 1600000 in
theorem reply_1 (fn addr n : Nat) (bits : List Bool) (regs : List Nat) (bv rv : Value) (w : World) (ok : (Rp.mk fn 0 addr n bits regs).Ok) (hf : (Rp.mk fn 0 addr n bits regs).Fits) (h1 : Sl w bv (bls bits)) (h2 : Sl w rv (u16s regs)) (hfn : fn = 1 ∨ fn = 2) :
    Calls Try.prog 19 #[rpV fn 0 addr n bv rv] w fun e w' => ∃ v', e = .returned (.tuple #[v', .int .i64 0]) ∧ w'.ownsRow w.heap.size 5 1 v' (repBytes ⟨fn, 0, addr, n, bits, regs⟩).length (u8s (repBytes ⟨fn, 0, addr, n, bits, regs⟩)) ∧ Below w.heap.size w w' := by
  have HW : Hid (IsRp (w.alloc (.cells #[.int .u8 fn, .int .u8 0, .int .u16 addr, .int .u16 n, bv, rv] 44)) (rpV fn 0 addr n bv rv) ⟨fn, 0, addr, n, bits, regs⟩) := ⟨ok, bv, rv, rfl, h1.below ((Below.refl _ w).alloc (Nat.le_refl _) _), h2.below ((Below.refl _ w).alloc (Nat.le_refl _) _)⟩
  have hd := decide_eq_true hf
  have BX : Hid _ := Box.new w (.int .u8 fn) (.int .u8 0) (.int .u16 addr) (.int .u16 n) bv rv 44
  have hA : addr < 65536 := ok.addr
  have hN : n < 65536 := ok.n
  have hWR : Words regs := ok.regs
  have HF : Hid (RFitsN fn 0 addr n bits.length regs.length) := hf
  have hR : repBytes ⟨fn, 0, addr, n, bits, regs⟩ = ([fn] ++ ((pack bits).length % 256 :: pack bits)) := by
    rcases hfn with rfl | rfl <;> simp [repBytes, rtail]
  have HR : Hid _ := hR
  clear hR
  have hbl : bits.length ≤ 2000 ∧ regs.length ≤ 125 := by unfold Hid RFitsN at HF; omega
  unfold rpV at HW ⊢
  have S1 : Hid (Sl w bv (bls bits)) := h1
  have S2 : Hid (Sl w rv (u16s regs)) := h2
  have Z1 : Hid (∀ base, w.heap.size ≤ base → Old base bv (bls bits)) := fun _ h => Sl.old h1 h
  have Z2 : Hid (∀ base, w.heap.size ≤ base → Old base rv (u16s regs)) := fun _ h => Sl.old h2 h
  clear h1 h2 ok hf
  rcases hfn with rfl | rfl
  all_goals
    go_enter Try.func19, Try.ntmps19
    go_wp2_with (go_at_call 43; refine (rfit_c HW.out).mono ?_; rintro e w1 ⟨rfl, hb⟩; rw [hd]; have B1 := BX.out.below hb (by simp); obtain ⟨c0, c1, c2, c3, c4, c5⟩ := B1; have hs := box_lt hb)
    have K1 : Hid (∀ w2, Below w1.heap.size w1 w2 → Below w.heap.size w w2) := fun w2 h => chain hb h
    have S1 : Hid (∀ w2, Below w1.heap.size w1 w2 → Sl w2 bv (bls bits)) := fun w2 h => S1.out.below (K1.out w2 h)
    have S2 : Hid (∀ w2, Below w1.heap.size w1 w2 → Sl w2 rv (u16s regs)) := fun w2 h => S2.out.below (K1.out w2 h)
    have O1 : Hid (Old w1.heap.size bv (bls bits)) := Z1.out _ (Nat.le_of_lt hs)
    have O2 : Hid (Old w1.heap.size rv (u16s regs)) := Z2.out _ (Nat.le_of_lt hs)
    refine (putBits_c (base := w1.heap.size) (bs := [_]) (by simp; omega) (lit_own w1 _) (S1.out _ (below_new (Below.refl _ w1) _)) (by simp)).mono ?_
    rintro e w3 ⟨v3, rfl, own3, hb3⟩
    have K3 : Hid (Below w.heap.size w w3) := K1.out _ ((below_new (Below.refl _ w1) _).trans hb3)
    have own3 : Hid (w3.ownsRow w1.heap.size 5 1 v3 _ _) := own3
    clear hb3 hb
    go_wp2
    go_ret2
    refine ⟨_, rfl, ?_, K3⟩
    rw [HR.out]
    exact own_base own3.out (Nat.le_of_lt hs)
set_option maxHeartbeats 1600000 in
theorem reply_3 (fn addr n : Nat) (bits : List Bool) (regs : List Nat) (bv rv : Value) (w : World) (ok : (Rp.mk fn 0 addr n bits regs).Ok) (hf : (Rp.mk fn 0 addr n bits regs).Fits) (h1 : Sl w bv (bls bits)) (h2 : Sl w rv (u16s regs)) (hfn : fn = 3 ∨ fn = 4 ∨ fn = 23) :
    Calls Try.prog 19 #[rpV fn 0 addr n bv rv] w fun e w' => ∃ v', e = .returned (.tuple #[v', .int .i64 0]) ∧ w'.ownsRow w.heap.size 5 1 v' (repBytes ⟨fn, 0, addr, n, bits, regs⟩).length (u8s (repBytes ⟨fn, 0, addr, n, bits, regs⟩)) ∧ Below w.heap.size w w' := by
  have HW : Hid (IsRp (w.alloc (.cells #[.int .u8 fn, .int .u8 0, .int .u16 addr, .int .u16 n, bv, rv] 44)) (rpV fn 0 addr n bv rv) ⟨fn, 0, addr, n, bits, regs⟩) := ⟨ok, bv, rv, rfl, h1.below ((Below.refl _ w).alloc (Nat.le_refl _) _), h2.below ((Below.refl _ w).alloc (Nat.le_refl _) _)⟩
  have hd := decide_eq_true hf
  have BX : Hid _ := Box.new w (.int .u8 fn) (.int .u8 0) (.int .u16 addr) (.int .u16 n) bv rv 44
  have hA : addr < 65536 := ok.addr
  have hN : n < 65536 := ok.n
  have hWR : Words regs := ok.regs
  have HF : Hid (RFitsN fn 0 addr n bits.length regs.length) := hf
  have hR : repBytes ⟨fn, 0, addr, n, bits, regs⟩ = ([fn] ++ (2 * regs.length % 256 :: wds regs)) := by
    rcases hfn with rfl | rfl | rfl <;> simp [repBytes, rtail]
  have HR : Hid _ := hR
  clear hR
  have hbl : bits.length ≤ 2000 ∧ regs.length ≤ 125 := by unfold Hid RFitsN at HF; omega
  unfold rpV at HW ⊢
  have S1 : Hid (Sl w bv (bls bits)) := h1
  have S2 : Hid (Sl w rv (u16s regs)) := h2
  have Z1 : Hid (∀ base, w.heap.size ≤ base → Old base bv (bls bits)) := fun _ h => Sl.old h1 h
  have Z2 : Hid (∀ base, w.heap.size ≤ base → Old base rv (u16s regs)) := fun _ h => Sl.old h2 h
  clear h1 h2 ok hf
  rcases hfn with rfl | rfl | rfl
  all_goals
    go_enter Try.func19, Try.ntmps19
    go_wp2_with (go_at_call 43; refine (rfit_c HW.out).mono ?_; rintro e w1 ⟨rfl, hb⟩; rw [hd]; have B1 := BX.out.below hb (by simp); obtain ⟨c0, c1, c2, c3, c4, c5⟩ := B1; have hs := box_lt hb)
    have K1 : Hid (∀ w2, Below w1.heap.size w1 w2 → Below w.heap.size w w2) := fun w2 h => chain hb h
    have S1 : Hid (∀ w2, Below w1.heap.size w1 w2 → Sl w2 bv (bls bits)) := fun w2 h => S1.out.below (K1.out w2 h)
    have S2 : Hid (∀ w2, Below w1.heap.size w1 w2 → Sl w2 rv (u16s regs)) := fun w2 h => S2.out.below (K1.out w2 h)
    have O1 : Hid (Old w1.heap.size bv (bls bits)) := Z1.out _ (Nat.le_of_lt hs)
    have O2 : Hid (Old w1.heap.size rv (u16s regs)) := Z2.out _ (Nat.le_of_lt hs)
    refine (putRegs_c (base := w1.heap.size) (bs := [_]) hWR (by simp; omega) (lit_own w1 _) (S2.out _ (below_new (Below.refl _ w1) _)) O2.out (by simp)).mono ?_
    rintro e w3 ⟨v3, rfl, own3, hb3⟩
    have K3 : Hid (Below w.heap.size w w3) := K1.out _ ((below_new (Below.refl _ w1) _).trans hb3)
    have own3 : Hid (w3.ownsRow w1.heap.size 5 1 v3 _ _) := own3
    clear hb3 hb
    go_wp2
    go_ret2
    refine ⟨_, rfl, ?_, K3⟩
    rw [HR.out]
    exact own_base own3.out (Nat.le_of_lt hs)
set_option maxHeartbeats 1600000 in
theorem reply_15 (fn addr n : Nat) (bits : List Bool) (regs : List Nat) (bv rv : Value) (w : World) (ok : (Rp.mk fn 0 addr n bits regs).Ok) (hf : (Rp.mk fn 0 addr n bits regs).Fits) (h1 : Sl w bv (bls bits)) (h2 : Sl w rv (u16s regs)) (hfn : fn = 15 ∨ fn = 16) :
    Calls Try.prog 19 #[rpV fn 0 addr n bv rv] w fun e w' => ∃ v', e = .returned (.tuple #[v', .int .i64 0]) ∧ w'.ownsRow w.heap.size 5 1 v' (repBytes ⟨fn, 0, addr, n, bits, regs⟩).length (u8s (repBytes ⟨fn, 0, addr, n, bits, regs⟩)) ∧ Below w.heap.size w w' := by
  have HW : Hid (IsRp (w.alloc (.cells #[.int .u8 fn, .int .u8 0, .int .u16 addr, .int .u16 n, bv, rv] 44)) (rpV fn 0 addr n bv rv) ⟨fn, 0, addr, n, bits, regs⟩) := ⟨ok, bv, rv, rfl, h1.below ((Below.refl _ w).alloc (Nat.le_refl _) _), h2.below ((Below.refl _ w).alloc (Nat.le_refl _) _)⟩
  have hd := decide_eq_true hf
  have BX : Hid _ := Box.new w (.int .u8 fn) (.int .u8 0) (.int .u16 addr) (.int .u16 n) bv rv 44
  have hA : addr < 65536 := ok.addr
  have hN : n < 65536 := ok.n
  have hWR : Words regs := ok.regs
  have HF : Hid (RFitsN fn 0 addr n bits.length regs.length) := hf
  have hR : repBytes ⟨fn, 0, addr, n, bits, regs⟩ = ([fn] ++ wds [addr, n]) := by
    rcases hfn with rfl | rfl <;> simp [repBytes, rtail, wds_two]
  have HR : Hid _ := hR
  clear hR
  have hbl : bits.length ≤ 2000 ∧ regs.length ≤ 125 := by unfold Hid RFitsN at HF; omega
  unfold rpV at HW ⊢
  have S1 : Hid (Sl w bv (bls bits)) := h1
  have S2 : Hid (Sl w rv (u16s regs)) := h2
  have Z1 : Hid (∀ base, w.heap.size ≤ base → Old base bv (bls bits)) := fun _ h => Sl.old h1 h
  have Z2 : Hid (∀ base, w.heap.size ≤ base → Old base rv (u16s regs)) := fun _ h => Sl.old h2 h
  clear h1 h2 ok hf
  rcases hfn with rfl | rfl
  all_goals
    go_enter Try.func19, Try.ntmps19
    go_wp2_with (go_at_call 43; refine (rfit_c HW.out).mono ?_; rintro e w1 ⟨rfl, hb⟩; rw [hd]; have B1 := BX.out.below hb (by simp); obtain ⟨c0, c1, c2, c3, c4, c5⟩ := B1; have hs := box_lt hb)
    have K1 : Hid (∀ w2, Below w1.heap.size w1 w2 → Below w.heap.size w w2) := fun w2 h => chain hb h
    have S1 : Hid (∀ w2, Below w1.heap.size w1 w2 → Sl w2 bv (bls bits)) := fun w2 h => S1.out.below (K1.out w2 h)
    have S2 : Hid (∀ w2, Below w1.heap.size w1 w2 → Sl w2 rv (u16s regs)) := fun w2 h => S2.out.below (K1.out w2 h)
    have O1 : Hid (Old w1.heap.size bv (bls bits)) := Z1.out _ (Nat.le_of_lt hs)
    have O2 : Hid (Old w1.heap.size rv (u16s regs)) := Z2.out _ (Nat.le_of_lt hs)
    refine (second_put (l := [addr, n]) (n := 2) (a := #[.int .u16 (addr : Int), .int .u16 (n : Int)]) rfl rfl (words_two hA hN) (by simp) w1).mono ?_
    rintro e w3 ⟨v3, rfl, own3, hb3⟩
    have K3 : Hid (Below w.heap.size w w3) := K1.out _ ((below_new (Below.refl _ w1) _).trans hb3)
    have own3 : Hid (w3.ownsRow w1.heap.size 5 1 v3 _ _) := own3
    clear hb3 hb
    go_wp2
    go_ret2
    refine ⟨_, rfl, ?_, K3⟩
    rw [HR.out]
    exact own_base own3.out (Nat.le_of_lt hs)
end Go.Proofs.Ytehbbkdiekgpbaa
