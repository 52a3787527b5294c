/- The walk of PduReplies. -/
import Derived.Test.YtehbbkdiekgpbaaKN
import Derived.Test.YtehbbkdiekgpbaaRRepAll
import Derived.Test.YtehbbkdiekgpbaaRpYes
namespace Go.Proofs.Ytehbbkdiekgpbaa
open Go.RowKit
open Pdu
set_option maxRecDepth 100000 in
set_option maxHeartbeats 800000 in
theorem lightly_c {v : Value} {q : Rp} {w : World} (h : IsRp w v q) : Calls Try.prog 18 #[v] w fun e w' => e = .returned (.bool (decide (q.bits.length ≤ 2500 ∧ q.regs.length ≤ 200))) ∧ Below w.heap.size w w' := by
  obtain ⟨ok, bv, rv, rfl, h1, h2⟩ := h
  obtain ⟨bo, bc, rfl⟩ := h1.shape
  obtain ⟨ro, rc, rfl⟩ := h2.shape
  rw [bls_len, u16s_len]
  obtain ⟨fn, exc, addr, n, bits, regs⟩ := q
  simp only
  generalize bits.length = nb
  generalize regs.length = nr
  unfold rpV
  clear h1 h2 ok
  by_cases hb : nb ≤ 2500
  · by_cases hr : nr ≤ 200
    · have d1 : decide ((nb : Int) ≤ 2500) = true := decide_eq_true (by omega)
      have d2 : decide ((nr : Int) ≤ 200) = true := decide_eq_true (by omega)
      rw [decide_eq_true (show nb ≤ 2500 ∧ nr ≤ 200 from ⟨hb, hr⟩)]
      go_enter Try.func18, Try.ntmps18
      go_wp2
      go_ret
      exact ⟨rfl, below_new (Below.refl _ w) _⟩
    · have d1 : decide ((nb : Int) ≤ 2500) = true := decide_eq_true (by omega)
      have d2 : decide ((nr : Int) ≤ 200) = false := decide_eq_false (by omega)
      rw [decide_eq_false (fun h : nb ≤ 2500 ∧ nr ≤ 200 => hr h.2)]
      go_enter Try.func18, Try.ntmps18
      go_wp2
      go_ret
      exact ⟨rfl, below_new (Below.refl _ w) _⟩
  · have d1 : decide ((nb : Int) ≤ 2500) = false := decide_eq_false (by omega)
    rw [decide_eq_false (fun h : nb ≤ 2500 ∧ nr ≤ 200 => hb h.1)]
    go_enter Try.func18, Try.ntmps18
    go_wp2
    go_ret
    exact ⟨rfl, below_new (Below.refl _ w) _⟩
theorem rep_len {r : Rp} (hf : r.Fits) : (repBytes r).length ≤ 253 := by
  obtain ⟨fn, exc, addr, n, bits, regs⟩ := r
  unfold Rp.Fits at hf
  simp only at hf
  have hp : (pack bits).length = packed bits.length := pack_length bits
  have hw : (wds regs).length = 2 * regs.length := wds_length regs
  unfold packed at hp
  unfold repBytes rtail
  unfold RFitsN at hf
  simp only
  split
  · split
    · simp [wd]
    split
    · simp [wd, hw]; omega
    split
    · simp [wd]
    split
    · simp [hp]; omega
    · simp [hw]; omega
  · simp
theorem bytes_t {v u : Value} {xs : List Nat} {w : World} (h : Sl w v (u8s xs)) (k : Sl w u (u8s xs)) (ha : Bytes xs) : Calls Try.prog 13 #[v, u] w fun e w' => e = .returned (.bool true) ∧ w' = w := by
  have h1 := bytes_c h k ha ha
  rw [decide_eq_true (rfl : xs = xs)] at h1
  exact h1
/-- One box, and what it holds still. -/
theorem one_box {w w1 : World} {x0 x1 x2 x3 x4 x5 : Value} {t : TypeId} (k : Below (w.alloc (.cells #[x0, x1, x2, x3, x4, x5] t)).heap.size (w.alloc (.cells #[x0, x1, x2, x3, x4, x5] t)) w1) :
    Below w.heap.size w w1 ∧ Box w1 w.heap.size x0 x1 x2 x3 x4 x5 ∧ w.heap.size < w1.heap.size := by
  have hs := k.size
  simp only [World.size_alloc] at hs
  exact ⟨below_and (below_new (Below.refl _ w) _) k, (Box.new w x0 x1 x2 x3 x4 x5 t).below k (by simp only [World.size_alloc]; omega), by omega⟩
set_option maxRecDepth 100000 in
set_option maxHeartbeats 1600000 in
theorem replies_heavy (a0 a1 a2 a3 : Nat) (a4 : List Bool) (a5 : List Nat) (av aw : Value) (w : World) (ha : IsRp w (rpV a0 a1 a2 a3 av aw) ⟨a0, a1, a2, a3, a4, a5⟩) (hh : ¬ (a4.length ≤ 2500 ∧ a5.length ≤ 200)) :
    Calls Try.prog 5 #[rpV a0 a1 a2 a3 av aw] w fun e w' => e = .returned (.bool true) ∧ Below w.heap.size w w' := by
  have HA : Hid (IsRp w (rpV a0 a1 a2 a3 av aw) ⟨a0, a1, a2, a3, a4, a5⟩) := ha
  clear ha
  have hd := decide_eq_false hh
  clear hh
  unfold rpV at HA ⊢
  go_enter Try.func5, Try.ntmps5
  go_wp2_with fail
  refine (known_law _).mono ?_
  rintro e w1 ⟨rfl, k1⟩
  obtain ⟨k1, B1, hs1⟩ := one_box k1
  have K1 : Hid (Below w.heap.size w w1) := k1
  have H1 : Hid (IsRp w1 (rpV a0 a1 a2 a3 av aw) ⟨a0, a1, a2, a3, a4, a5⟩) := HA.out.below k1
  have B1 : Hid (Box w1 w.heap.size (.int .u8 a0) (.int .u8 a1) (.int .u16 a2) (.int .u16 a3) av aw) := B1
  obtain ⟨c0, c1, c2, c3, c4, c5⟩ := B1.out
  clear k1
  go_wp2_with fail
  refine (lightly_c H1.out).mono ?_
  rintro e w2 ⟨rfl, k2⟩
  have K2 : Hid (Below w.heap.size w w2) := below_and K1.out k2
  rw [hd]
  clear k2 c0 c1 c2 c3 c4 c5
  go_wp2
  go_ret
  exact ⟨rfl, K2⟩
set_option maxRecDepth 100000 in
set_option maxHeartbeats 1600000 in
theorem replies_no (a0 a1 a2 a3 : Nat) (a4 : List Bool) (a5 : List Nat) (av aw : Value) (w : World) (ha : IsRp w (rpV a0 a1 a2 a3 av aw) ⟨a0, a1, a2, a3, a4, a5⟩) (hl : a4.length ≤ 2500 ∧ a5.length ≤ 200) (fa : ¬ Rp.Fits ⟨a0, a1, a2, a3, a4, a5⟩) :
    Calls Try.prog 5 #[rpV a0 a1 a2 a3 av aw] w fun e w' => e = .returned (.bool true) ∧ Below w.heap.size w w' := by
  have HA : Hid (IsRp w (rpV a0 a1 a2 a3 av aw) ⟨a0, a1, a2, a3, a4, a5⟩) := ha
  clear ha
  have hd := decide_eq_true hl
  have HL : Hid (a4.length ≤ 2500 ∧ a5.length ≤ 200) := hl
  have FA : Hid (¬ Rp.Fits ⟨a0, a1, a2, a3, a4, a5⟩) := fa
  clear hl fa
  unfold rpV at HA ⊢
  go_enter Try.func5, Try.ntmps5
  go_wp2_with fail
  refine (known_law _).mono ?_
  rintro e w1 ⟨rfl, k1⟩
  obtain ⟨k1, B1, hs1⟩ := one_box k1
  have K1 : Hid (Below w.heap.size w w1) := k1
  have H1 : Hid (IsRp w1 (rpV a0 a1 a2 a3 av aw) ⟨a0, a1, a2, a3, a4, a5⟩) := HA.out.below k1
  have B1 : Hid (Box w1 w.heap.size (.int .u8 a0) (.int .u8 a1) (.int .u16 a2) (.int .u16 a3) av aw) := B1
  obtain ⟨c0, c1, c2, c3, c4, c5⟩ := B1.out
  clear k1
  go_wp2_with fail
  refine (lightly_c H1.out).mono ?_
  rintro e w2 ⟨rfl, k2⟩
  have K2 : Hid (Below w.heap.size w w2) := below_and K1.out k2
  rw [hd]
  have H2 : Hid (IsRp w2 (rpV a0 a1 a2 a3 av aw) ⟨a0, a1, a2, a3, a4, a5⟩) := HA.out.below K2.out
  have hs2 : w.heap.size < w2.heap.size := Nat.lt_of_lt_of_le hs1 k2.size
  have B2 : Hid (Box w2 w.heap.size (.int .u8 a0) (.int .u8 a1) (.int .u16 a2) (.int .u16 a3) av aw) := B1.out.below k2 hs1
  clear k2 c0 c1 c2 c3 c4 c5 B1 H1
  obtain ⟨c0, c1, c2, c3, c4, c5⟩ := B2.out
  go_wp2_with fail
  refine (reply_no H2.out FA.out).mono ?_
  rintro e w3 ⟨rfl, k3⟩
  have K3 : Hid (Below w.heap.size w w3) := below_and K2.out k3
  have H3 : Hid (IsRp w3 (rpV a0 a1 a2 a3 av aw) ⟨a0, a1, a2, a3, a4, a5⟩) := HA.out.below K3.out
  have hs3 : w.heap.size < w3.heap.size := Nat.lt_of_lt_of_le hs2 k3.size
  have B3 : Hid (Box w3 w.heap.size (.int .u8 a0) (.int .u8 a1) (.int .u16 a2) (.int .u16 a3) av aw) := B2.out.below k3 hs2
  clear k3 c0 c1 c2 c3 c4 c5 B2 H2
  obtain ⟨c0, c1, c2, c3, c4, c5⟩ := B3.out
  go_wp2_with fail
  refine (ref_reply H3.out HL.out.1 HL.out.2).mono ?_
  rintro e w4 ⟨k4, ⟨hf, _⟩ | ⟨_, rfl⟩⟩
  · exact absurd hf FA.out
  have K4 : Hid (Below w.heap.size w w4) := below_and K3.out k4
  clear k4 c0 c1 c2 c3 c4 c5 B3 H3
  have XB : Hid (Calls Try.prog 13 #[.slice none 0 0, .slice none 0 0] w4 fun e w' => e = .returned (.bool true) ∧ w' = w4) := bytes_t (xs := []) (Sl.nil w4) (Sl.nil w4) Bytes.nil
  go_wp2_with fail
  refine XB.out.mono ?_
  rintro e w5 ⟨rfl, hw⟩
  subst w5
  go_wp2
  go_ret
  exact ⟨rfl, K4⟩
set_option maxRecDepth 100000 in
set_option maxHeartbeats 1600000 in
theorem replies_yes (a0 a1 a2 a3 : Nat) (a4 : List Bool) (a5 : List Nat) (av aw : Value) (w : World) (ha : IsRp w (rpV a0 a1 a2 a3 av aw) ⟨a0, a1, a2, a3, a4, a5⟩) (hl : a4.length ≤ 2500 ∧ a5.length ≤ 200) (fa : Rp.Fits ⟨a0, a1, a2, a3, a4, a5⟩) :
    Calls Try.prog 5 #[rpV a0 a1 a2 a3 av aw] w fun e w' => e = .returned (.bool true) ∧ Below w.heap.size w w' := by
  have HA : Hid (IsRp w (rpV a0 a1 a2 a3 av aw) ⟨a0, a1, a2, a3, a4, a5⟩) := ha
  clear ha
  have hd := decide_eq_true hl
  have HL : Hid (a4.length ≤ 2500 ∧ a5.length ≤ 200) := hl
  have FA : Hid (Rp.Fits ⟨a0, a1, a2, a3, a4, a5⟩) := fa
  obtain ⟨bs, hbs⟩ : ∃ bs, bs = repBytes ⟨a0, a1, a2, a3, a4, a5⟩ := ⟨_, rfl⟩
  have hlen : bs.length ≤ 253 := by rw [hbs]; exact rep_len fa
  have hB : Bytes bs := by rw [hbs]; exact repBytes_bytes HA.out.1 fa
  have HBS : Hid (bs = repBytes ⟨a0, a1, a2, a3, a4, a5⟩) := hbs
  clear hl fa hbs
  unfold rpV at HA ⊢
  go_enter Try.func5, Try.ntmps5
  go_wp2_with fail
  refine (known_law _).mono ?_
  rintro e w1 ⟨rfl, k1⟩
  obtain ⟨k1, B1, hs1⟩ := one_box k1
  have K1 : Hid (Below w.heap.size w w1) := k1
  have H1 : Hid (IsRp w1 (rpV a0 a1 a2 a3 av aw) ⟨a0, a1, a2, a3, a4, a5⟩) := HA.out.below k1
  have B1 : Hid (Box w1 w.heap.size (.int .u8 a0) (.int .u8 a1) (.int .u16 a2) (.int .u16 a3) av aw) := B1
  obtain ⟨c0, c1, c2, c3, c4, c5⟩ := B1.out
  clear k1
  go_wp2_with fail
  refine (lightly_c H1.out).mono ?_
  rintro e w2 ⟨rfl, k2⟩
  have K2 : Hid (Below w.heap.size w w2) := below_and K1.out k2
  rw [hd]
  have H2 : Hid (IsRp w2 (rpV a0 a1 a2 a3 av aw) ⟨a0, a1, a2, a3, a4, a5⟩) := HA.out.below K2.out
  have hs2 : w.heap.size < w2.heap.size := Nat.lt_of_lt_of_le hs1 k2.size
  have B2 : Hid (Box w2 w.heap.size (.int .u8 a0) (.int .u8 a1) (.int .u16 a2) (.int .u16 a3) av aw) := B1.out.below k2 hs1
  clear k2 c0 c1 c2 c3 c4 c5 B1 H1
  obtain ⟨c0, c1, c2, c3, c4, c5⟩ := B2.out
  go_wp2_with fail
  refine (reply_yes H2.out FA.out).mono ?_
  rw [← HBS.out]
  rintro e w3 ⟨x, rfl, ownx, k3⟩
  obtain ⟨xo, xc, hx⟩ := (own_sl ownx).shape
  rw [u8s_len] at hx
  subst hx
  have OX : Hid (Sl w3 (.slice xo bs.length xc) (u8s bs)) := own_sl ownx
  clear ownx
  have K3 : Hid (Below w.heap.size w w3) := below_and K2.out k3
  have H3 : Hid (IsRp w3 (rpV a0 a1 a2 a3 av aw) ⟨a0, a1, a2, a3, a4, a5⟩) := HA.out.below K3.out
  have hs3 : w.heap.size < w3.heap.size := Nat.lt_of_lt_of_le hs2 k3.size
  have B3 : Hid (Box w3 w.heap.size (.int .u8 a0) (.int .u8 a1) (.int .u16 a2) (.int .u16 a3) av aw) := B2.out.below k3 hs2
  clear k3 c0 c1 c2 c3 c4 c5 B2 H2
  obtain ⟨c0, c1, c2, c3, c4, c5⟩ := B3.out
  go_wp2_with fail
  refine (ref_reply H3.out HL.out.1 HL.out.2).mono ?_
  rw [← HBS.out]
  rintro e w4 ⟨k4, ⟨_, y, rfl, owny⟩ | ⟨hf, _⟩⟩
  case inr => exact absurd FA.out hf
  have K4 : Hid (Below w.heap.size w w4) := below_and K3.out k4
  have XB : Hid (Calls Try.prog 13 #[.slice xo bs.length xc, y] w4 fun e w' => e = .returned (.bool true) ∧ w' = w4) := bytes_t (OX.out.below k4) (own_sl owny) hB
  have hle : decide ((bs.length : Int) ≤ 253) = true := decide_eq_true (by omega)
  clear k4 c0 c1 c2 c3 c4 c5 B3 H3 OX owny
  go_wp2_with fail
  refine XB.out.mono ?_
  rintro e w5 ⟨rfl, hw⟩
  subst w5
  go_wp2
  go_ret
  exact ⟨rfl, K4⟩
theorem replies_law {v : Value} {r : Rp} {w : World} (h : IsRp w v r) : Calls Try.prog 5 #[v] w fun e w' => e = .returned (.bool true) ∧ Below w.heap.size w w' := by
  have h' := h
  obtain ⟨_, av, aw, rfl, _, _⟩ := h'
  obtain ⟨a0, a1, a2, a3, a4, a5⟩ := r
  by_cases hl : a4.length ≤ 2500 ∧ a5.length ≤ 200
  case neg => exact replies_heavy a0 a1 a2 a3 a4 a5 av aw w h hl
  by_cases fa : Rp.Fits ⟨a0, a1, a2, a3, a4, a5⟩
  · exact replies_yes a0 a1 a2 a3 a4 a5 av aw w h hl fa
  · exact replies_no a0 a1 a2 a3 a4 a5 av aw w h hl fa
end Go.Proofs.Ytehbbkdiekgpbaa
