/- The walks: the reference's OpenRtu. -/
import Derived.Test.YtgmbboimndepnaaW3
namespace Go.Proofs.Ytgmbboimndepnaa
open Go.RowKit
open Pdu
open Crc
theorem or_lo {x y z : Nat} (hx : x < 256) (hy : y < 256) (hz : z = x + 256 * y) : bits .or .u16 (x : Int) ((y : Int) * 256) = (z : Int) := by
  rw [show (y : Int) * 256 = ((256 * y : Nat) : Int) by omega]
  show IntKind.u16.wrap ((BitVec.ofInt 16 (x : Int) ||| BitVec.ofInt 16 ((256 * y : Nat) : Int)).toNat : Int) = _
  have h : (BitVec.ofInt 16 (x : Int) ||| BitVec.ofInt 16 ((256 * y : Nat) : Int)).toNat = 256 * y + x := by
    rw [BitVec.toNat_or, BitVec.ofInt_natCast, BitVec.toNat_ofNat, BitVec.ofInt_natCast, BitVec.toNat_ofNat, Nat.mod_eq_of_lt (by omega), Nat.mod_eq_of_lt (by omega), Nat.or_comm]
    have := Nat.two_pow_add_eq_or_of_lt (i := 8) (b := x) (by omega) y
    simpa using this.symm
  rw [h, IntKind.wrap_u16]
  omega
/-- The last two bytes, and a sum's. -/
theorem tail_is {bs : List Nat} {q s : Nat} (hB : Bytes bs) (hl : bs.length = q + 2) : bs.drop q = s2 s ↔ s = bs.getD q 0 + 256 * bs.getD (q + 1) 0 := by
  have h0 := hB.at q
  have h1 := hB.at (q + 1)
  have e : bs.drop q = [bs.getD q 0, bs.getD (q + 1) 0] := by
    rw [List.drop_eq_getElem_cons (by omega), List.drop_eq_getElem_cons (by omega), List.drop_eq_nil_of_le (by omega)]
    simp [List.getD_eq_getElem?_getD, List.getElem?_eq_getElem (show q < bs.length by omega), List.getElem?_eq_getElem (show q + 1 < bs.length by omega)]
  rw [e]
  simp only [s2, List.cons.injEq, and_true]
  omega
set_option maxHeartbeats 1600000 in
theorem ropen_51 (ao : Option Addr) (n cap : Nat) (w : World) (h : ¬ (4 ≤ n ∧ n ≤ 256)) :
    Calls Try.prog 13 #[.slice ao n cap] w fun e w' => e = nought 51 ∧ Below w.heap.size w w' := by
  by_cases h1 : 4 ≤ n
  · have d1 : decide ((n : Int) < 4) = false := decide_eq_false (by omega)
    have d2 : decide ((256 : Int) < n) = true := decide_eq_true (by omega)
    clear h h1
    go_enter Try.func13, Try.ntmps13
    go_wp2
    refine bodyPost_ret (v := .tuple #[.int .u8 0, .slice none 0 0, .int .i64 51]) (by simp [results, Try.results13, go_sem]) rfl ⟨rfl, Below.refl _ w⟩
  · have d1 : decide ((n : Int) < 4) = true := decide_eq_true (by omega)
    clear h h1
    go_enter Try.func13, Try.ntmps13
    go_wp2
    refine bodyPost_ret (v := .tuple #[.int .u8 0, .slice none 0 0, .int .i64 51]) (by simp [results, Try.results13, go_sem]) rfl ⟨rfl, Below.refl _ w⟩
set_option maxHeartbeats 1600000 in
theorem ropen_50 (b off n q cap : Nat) (bs : List Nat) (w : World) (h4 : 4 ≤ n) (h6 : n ≤ 256) (hq : q = n - 2) (hcap : n ≤ cap) (hn : n = bs.length) (hB : Bytes bs) (hc : Lies w b off (u8s bs)) (hs : bs.drop q ≠ s2 (s16 (bs.take q))) :
    Calls Try.prog 13 #[.slice (some ⟨b, off, none⟩) n cap] w fun e w' => e = nought 50 ∧ Below w.heap.size w w' := by
  have d1 : decide ((n : Int) < 4) = false := decide_eq_false (by omega)
  have d2 : decide ((256 : Int) < n) = false := decide_eq_false (by omega)
  have e1 : (n : Int) - 2 = (q : Int) := by omega
  have e2 : IntKind.i64.wrap ((q : Int) + 1) = ((q + 1 : Nat) : Int) := by rw [IntKind.wrap_i64]; omega
  have l1 : (q : Int) ≤ (cap : Int) := by omega
  have l2 : (q : Int) < (n : Int) := by omega
  have l3 : q < n := by omega
  have l4 : (q : Int) + 1 < (n : Int) := by omega
  have l5 : q + 1 < n := by omega
  have hbd : Sl w (.slice (some ⟨b, off, none⟩) q cap) (u8s (bs.take q)) := sub_sl0 hc q cap (by omega) (by omega)
  have c0 := hc.u8 q (by omega)
  have c1 := hc.u8 (q + 1) (by omega)
  have hx := hB.at q
  have hy := hB.at (q + 1)
  have X1 := hid_as (fun (d : Nat) => ref16_c (hbd.drewN d) (hB.take q) (by rw [List.length_take]; omega))
  have hne : ¬ (s16 (bs.take q) = bs.getD q 0 + 256 * bs.getD (q + 1) 0) := fun e => hs ((tail_is hB (by omega)).2 e)
  generalize s16 (bs.take q) = s at X1 hne
  generalize bs.getD q 0 = x at c0 hx hne
  generalize bs.getD (q + 1) 0 = y at c1 hy hne
  obtain ⟨z, hz⟩ : ∃ z, z = x + 256 * y := ⟨_, rfl⟩
  have hor := or_lo hx hy hz
  have d3 : (((s : Nat) : Int) != ((z : Nat) : Int)) = true := by rw [bne_iff_ne]; omega
  clear hbd hB hs hn hq hc hne hz
  go_enter Try.func13, Try.ntmps13
  go_wp2_with fail
  go_quiet ((go_at_call 19; exact Calls.quiet_of_same (X1.out _)))
  go_wp2
  refine bodyPost_ret (v := .tuple #[.int .u8 0, .slice none 0 0, .int .i64 50]) (by simp [results, Try.results13, go_sem]) rfl ⟨rfl, below_drewN (Below.refl _ w) _⟩
set_option maxHeartbeats 1600000 in
theorem ropen_yes (b off n q cap : Nat) (bs : List Nat) (w : World) (h4 : 4 ≤ n) (h6 : n ≤ 256) (hq : q = n - 2) (hcap : n ≤ cap) (hn : n = bs.length) (hB : Bytes bs) (hc : Lies w b off (u8s bs)) (hs : bs.drop q = s2 (s16 (bs.take q))) :
    Calls Try.prog 13 #[.slice (some ⟨b, off, none⟩) n cap] w fun e w' => (∃ pv, e = .returned (.tuple #[.int .u8 (bs.getD 0 0 : Nat), pv, .int .i64 0]) ∧ w'.ownsRow w.heap.size 5 1 pv ((bs.take q).drop 1).length (u8s ((bs.take q).drop 1))) ∧ Below w.heap.size w w' := by
  have d1 : decide ((n : Int) < 4) = false := decide_eq_false (by omega)
  have d2 : decide ((256 : Int) < n) = false := decide_eq_false (by omega)
  have e1 : (n : Int) - 2 = (q : Int) := by omega
  have e2 : IntKind.i64.wrap ((q : Int) + 1) = ((q + 1 : Nat) : Int) := by rw [IntKind.wrap_i64]; omega
  have l1 : (q : Int) ≤ (cap : Int) := by omega
  have l2 : (q : Int) < (n : Int) := by omega
  have l3 : q < n := by omega
  have l4 : (q : Int) + 1 < (n : Int) := by omega
  have l5 : q + 1 < n := by omega
  have l6 : (1 : Int) ≤ (q : Int) := by omega
  have l7 : ¬ (cap = 1) := by omega
  have l8 : (0 : Int) < (n : Int) := by omega
  have l9 : 0 < n := by omega
  have hbd : Sl w (.slice (some ⟨b, off, none⟩) q cap) (u8s (bs.take q)) := sub_sl0 hc q cap (by omega) (by omega)
  have hpd : Sl w (.slice (some ⟨b, off + 1, none⟩) (q - 1) (cap - 1)) (u8s ((bs.take q).drop 1)) := by
    have := sub_sl hc 1 (q - 1) (cap - 1) (by omega) (by omega)
    rwa [show (bs.drop 1).take (q - 1) = (bs.take q).drop 1 by rw [List.drop_take]] at this
  have HPD := hid_as (fun (W : World) (h : Below w.heap.size w W) => hpd.below h)
  have hz0 : ([] : List Nat).length + ((bs.take q).drop 1).length ≤ 60000 := by rw [List.length_drop, List.length_take]; simp; omega
  have k0 : w.cell? ⟨b, off, none⟩ = some (.int .u8 (bs.getD 0 0 : Nat)) := hc.u8 0 (by omega)
  have hbw : b < w.heap.size := lt_of_cell k0
  have c0 := hc.u8 q (by omega)
  have c1 := hc.u8 (q + 1) (by omega)
  have hx := hB.at q
  have hy := hB.at (q + 1)
  have X1 := hid_as (fun (d : Nat) => ref16_c (hbd.drewN d) (hB.take q) (by rw [List.length_take]; omega))
  have heq := (tail_is hB (by omega)).1 hs
  generalize s16 (bs.take q) = s at X1 heq
  generalize bs.getD 0 0 = u at k0 ⊢
  generalize (bs.take q).drop 1 = pdu at HPD hz0 ⊢
  generalize bs.getD q 0 = x at c0 hx heq
  generalize bs.getD (q + 1) 0 = y at c1 hy heq
  have hor := or_lo hx hy heq
  clear hbd hpd hB hs hn hq hc heq
  go_enter Try.func13, Try.ntmps13
  go_wp2_with fail
  go_quiet ((go_at_call 19; exact Calls.quiet_of_same (X1.out _)))
  go_wp2_with fail
  obtain ⟨Y, hY⟩ : ∃ Y, Y = w.drewN nq := ⟨_, rfl⟩
  rw [← hY]
  have cY : Y.cell? ⟨b, off, none⟩ = some (.int .u8 u) := by rw [hY]; exact k0
  have KY : Hid (Below w.heap.size w Y) := by rw [hY]; exact below_drewN (Below.refl _ w) _
  clear hY c0 c1 k0 X1
  have hszY : w.heap.size ≤ Y.heap.size := KY.out.size
  have hbY : b < Y.heap.size := Nat.lt_of_lt_of_le hbw KY.out.size
  go_region_held3 (fun w' => w'.cell? ⟨b, off, none⟩ = some (.int .u8 u)) (first | exact cY | exact cZ) (first
    | (refine step_append_own2 rfl (.const (.slice none 0 0)) (.tmp 40) rfl Y.heap.size _ _ [] pdu rfl rfl (World.ownsRow_nil ..) (HPD.out _ KY.out.drew) hz0 (Nat.le_refl _) ?_; intro pv w2 own2 k2; have cZ : w2.cell? ⟨b, off, none⟩ = some (.int .u8 u) := kept_cellW (W := Y.drew) k2 hbY cY; have KZ : Hid (Below w.heap.size w w2) := below_and KY.out.drew k2; obtain ⟨po, pc, rfl⟩ := (own_sl own2).shape; have OZ : Hid (w2.ownsRow w.heap.size 5 1 (.slice po (u8s pdu).length pc) pdu.length (u8s pdu)) := own_base own2 hszY; clear own2 k2))
  all_goals
    go_wp2
    refine bodyPost_ret (v := .tuple #[.int .u8 u, .slice po (u8s pdu).length pc, .int .i64 0]) (by simp [results, Try.results13, go_sem]) rfl ⟨⟨_, rfl, OZ.out⟩, KZ.out⟩
end Go.Proofs.Ytgmbboimndepnaa
