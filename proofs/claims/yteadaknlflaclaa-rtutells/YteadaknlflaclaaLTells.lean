/- The walk of RtuTells. -/
import Derived.Test.YteadaknlflaclaaW5
namespace Go.Proofs.Yteadaknlflaclaa
open Go.RowKit
open Pdu
open Crc
theorem place_i (k m : Int) (h0 : 0 < m) (hm : m ≤ 1000000) (w : World) : Calls Try.prog 12 #[.int .i64 k, .int .i64 m] w fun e w' => (∃ p : Nat, (p : Int) < m ∧ e = .returned (.int .i64 p)) ∧ w' = w := by
  obtain ⟨n, rfl⟩ : ∃ n : Nat, m = n := ⟨m.toNat, by omega⟩
  refine (place_c k n (by omega) (by omega) w).mono ?_
  rintro e w' ⟨⟨p, hp, rfl⟩, rfl⟩
  exact ⟨⟨p, by omega, rfl⟩, rfl⟩
/-- The frame, its body's first k of the sixteen bits turned, the sum tl as it was. -/
def Turned (w1 wr : World) (g cap m q p : Nat) (bs tl : List Nat) (k : Nat) : Prop := ∃ cs : List Nat, Bytes cs ∧ cs.length = bs.length ∧ Below w1.heap.size w1 wr ∧ wr.ownsRow w1.heap.size 5 1 (.slice (some ⟨g, 0, none⟩) m cap) m (u8s (cs ++ tl)) ∧ le cs = le bs ^^^ ((q % 2 ^ k) * 2 ^ p)
theorem xor_mul (a b p : Nat) : (a ^^^ b) * 2 ^ p = a * 2 ^ p ^^^ b * 2 ^ p := by
  apply Nat.eq_of_testBit_eq
  intro i
  rw [Nat.testBit_xor, Nat.testBit_mul_two_pow, Nat.testBit_mul_two_pow, Nat.testBit_mul_two_pow, Nat.testBit_xor]
  cases decide (p ≤ i) <;> simp
theorem shift_nat (q k : Nat) : (q : Int) / 2 ^ k = ((q / 2 ^ k : Nat) : Int) := by simp
theorem bit_on {q k : Nat} (h : (bits .and .u16 ((q : Int) / 2 ^ k) 1 == 1) = true) : q / 2 ^ k % 2 = 1 := by
  rw [shift_nat] at h
  exact odd_16 h
theorem bit_off {q k : Nat} (h : (bits .and .u16 ((q : Int) / 2 ^ k) 1 == 1) = false) : q / 2 ^ k % 2 = 0 := by
  rw [shift_nat] at h
  have := even_16 h
  omega
theorem turn_off {w1 wr : World} {g cap m q p : Nat} {bs tl : List Nat} {k : Nat} (h : Turned w1 wr g cap m q p bs tl k) (hb : (bits .and .u16 ((q : Int) / 2 ^ k) 1 == 1) = false) : Turned w1 wr g cap m q p bs tl (k + 1) := by
  obtain ⟨cs, h1, h2, h3, h4, h5⟩ := h
  refine ⟨cs, h1, h2, h3, h4, ?_⟩
  rw [bit_take, bit_off hb, Nat.zero_mul, Nat.xor_zero]
  exact h5
theorem pow_8 {r : Nat} (hr : r < 8) : 2 ^ r < 256 := Nat.pow_lt_pow_right (a := 2) (m := r) (n := 8) (by decide) hr
theorem xor_bit {x r : Nat} (hx : x < 256) (hr : r < 8) : bits .xor .u8 (x : Int) (2 ^ r % 256) = ((x ^^^ 2 ^ r : Nat) : Int) := by
  have h := pow_8 hr
  have e : ((2 : Int) ^ r) = ((2 ^ r : Nat) : Int) := by simp
  have e2 : ((2 : Int) ^ r % 256) = ((2 ^ r : Nat) : Int) := by
    rw [e]
    generalize 2 ^ r = z at h
    omega
  rw [e2]
  exact xor_8 hx h
theorem turn_on {w1 wr : World} {g cap m q p j r x : Nat} {bs cs tl : List Nat} {k : Nat} (hb : (bits .and .u16 ((q : Int) / 2 ^ k) 1 == 1) = true) (hj : j = (p + k) / 8) (hr : r = (p + k) % 8) (hjn : j < bs.length)
    (h1 : Bytes cs) (h2 : cs.length = bs.length) (h3 : Below w1.heap.size w1 wr) (h4 : wr.ownsRow w1.heap.size 5 1 (.slice (some ⟨g, 0, none⟩) m cap) m (u8s (cs ++ tl))) (h5 : le cs = le bs ^^^ ((q % 2 ^ k) * 2 ^ p)) (hx : x = cs.getD j 0) :
    Turned w1 ((wr.setCell ⟨g, j, none⟩ (.int .u8 (bits .xor .u8 (x : Int) (2 ^ r % 256)))).drew) g cap m q p bs tl (k + 1) := by
  have hr8 : r < 8 := by omega
  have hx8 : x < 256 := by rw [hx]; exact h1.at j
  rw [xor_bit hx8 hr8]
  refine ⟨cs.set j (x ^^^ 2 ^ r), ?_, by rw [List.length_set]; exact h2, ?_, ?_, ?_⟩
  · intro y hy
    rcases List.mem_or_eq_of_mem_set hy with hy | rfl
    · exact h1 y hy
    · exact Nat.xor_lt_two_pow (n := 8) hx8 (pow_8 hr8)
  · exact (h3.setCell (p := ⟨g, j, none⟩) (h4.lt g rfl).1 _).drew
  · have := (h4.stored j (.int .u8 ((x ^^^ 2 ^ r : Nat) : Int))).1.drew
    rw [← List.set_append_left (t := tl) j _ (by omega), u8s_set]
    exact this
  · rw [hx, le_set cs j _ (by omega), h5, bit_take q k, bit_on hb, Nat.one_mul, xor_mul, Nat.xor_assoc]
    congr 2
    rw [← Nat.pow_add, ← Nat.pow_add]
    congr 1
    omega
/-- A frame whose body has another sum is refused. -/
theorem rd_off {cs bs : List Nat} (hl : cs.length = bs.length) (h2 : 2 ≤ bs.length) (hm : bs.length ≤ 254) (hne : s16 cs ≠ s16 bs) : rd (cs ++ s2 (s16 bs)) = ⟨0, [], 50⟩ := by
  have e : (cs ++ s2 (s16 bs)).length = cs.length + 2 := by simp [s2]
  unfold rd
  rw [e, if_neg (by omega), show cs.length + 2 - 2 = cs.length by omega, List.take_left' rfl, List.drop_left' rfl, if_neg]
  intro h
  simp only [s2, List.cons.injEq, and_true] at h
  omega
set_option maxRecDepth 100000 in
set_option maxHeartbeats 1600000 in
theorem tells_idle (unit n c : Nat) (ao : Option Addr) (at_ : Int) (q : Nat) (w : World) (h : 253 < n ∨ n < 1 ∨ q = 0) :
    Calls Try.prog 5 #[.int .u8 unit, .slice ao n c, .int .i64 at_, .int .u16 q] w fun e w' => e = .returned (.bool true) ∧ Below w.heap.size w w' := by
  by_cases h1 : 253 < n
  · have d1 : decide ((253 : Int) < n) = true := decide_eq_true (by omega)
    clear h h1
    go_enter Try.func5, Try.ntmps5
    go_wp2_with fail
    refine (known_law _).mono ?_
    rintro e w1 ⟨rfl, k1⟩
    have K1 := hid_as k1
    clear k1
    go_wp2
    go_ret
    exact ⟨rfl, K1.out⟩
  have d1 : decide ((253 : Int) < n) = false := decide_eq_false (by omega)
  by_cases h2 : n < 1
  · have d2 : decide ((n : Int) < 1) = true := decide_eq_true (by omega)
    clear h h1 h2
    go_enter Try.func5, Try.ntmps5
    go_wp2_with fail
    refine (known_law _).mono ?_
    rintro e w1 ⟨rfl, k1⟩
    have K1 := hid_as k1
    clear k1
    go_wp2
    go_ret
    exact ⟨rfl, K1.out⟩
  have d2 : decide ((n : Int) < 1) = false := decide_eq_false (by omega)
  obtain rfl : q = 0 := by omega
  clear h h1 h2
  go_enter Try.func5, Try.ntmps5
  go_wp2_with fail
  refine (known_law _).mono ?_
  rintro e w1 ⟨rfl, k1⟩
  have K1 := hid_as k1
  clear k1
  go_wp2
  go_ret
  exact ⟨rfl, K1.out⟩
set_option maxRecDepth 100000 in
set_option maxHeartbeats 4000000 in
theorem tells_w (unit n c m : Nat) (ao : Option Addr) (pdu bs : List Nat) (at_ : Int) (q : Nat) (w : World) (hu : unit < 256) (hs : Sl w (.slice ao n c) (u8s pdu)) (hB : Bytes pdu) (hn : n = pdu.length) (hl : 1 ≤ n ∧ n ≤ 253) (hbs : bs = unit :: pdu) (hm : (n : Int) + 3 = (m : Int)) (hq : q < 65536) (hq0 : q ≠ 0) :
    Calls Try.prog 5 #[.int .u8 unit, .slice ao n c, .int .i64 at_, .int .u16 q] w fun e w' => e = .returned (.bool true) ∧ Below w.heap.size w w' := by
  have d1 : decide ((253 : Int) < n) = false := decide_eq_false (by omega)
  have d2 : decide ((n : Int) < 1) = false := decide_eq_false (by omega)
  have d3 : ((q : Int) == 0) = false := by rw [beq_eq_false_iff_ne]; omega
  have HS := hid_as hs
  have HN := hid_as hn
  have HL := hid_as hl
  have HB := hid_as hB
  have HBS : Hid (bs.length = n + 1) := by show bs.length = n + 1; rw [hbs, List.length_cons, hn]
  have HBB : Hid (Bytes bs) := by show Bytes bs; rw [hbs]; exact Bytes.cons hu hB
  have HRT : Hid (rt unit pdu = bs ++ s2 (s16 bs)) := by show rt unit pdu = _; rw [hbs]; rfl
  have hm2 : m = n + 3 := by omega
  have HM := hid_as hm2
  clear hn hs hB hbs hm2
  go_enter Try.func5, Try.ntmps5
  go_wp2_with fail
  refine (known_law _).mono ?_
  rintro e w1 ⟨rfl, k1⟩
  have K1 := hid_as k1
  have X1 := hid_as (write_yes unit n c pdu ao w1 HN.out HL.out hu HB.out (HS.out.below k1))
  clear k1
  go_wp2_with fail
  refine X1.out.mono ?_
  rintro e w2 ⟨v2, rfl, own2, k2⟩
  have hlen : (rt unit pdu).length = m := by rw [rt_length, HM.out, HN.out]
  obtain ⟨g, cap, rfl, hcap⟩ : ∃ g cap, v2 = .slice (some ⟨g, 0, none⟩) m cap ∧ m ≤ cap := by
    obtain ⟨g, cc, h, h'⟩ := own_some own2 (by intro e; have := congrArg List.length e; rw [rt_length] at this; simp at this)
    rw [hlen] at h h'
    exact ⟨g, cc, h, h'⟩
  rw [hlen, HRT.out] at own2
  have OW : Hid (Below w1.heap.size w1 w2 ∧ w2.ownsRow w1.heap.size 5 1 (.slice (some ⟨g, 0, none⟩) m cap) m (u8s (bs ++ s2 (s16 bs)))) := ⟨k2, own2⟩
  have hm4 : 4 ≤ m := by omega
  have hm6 : m ≤ 256 := by omega
  clear k2 own2 X1 hlen hcap
  go_wp2_with fail
  refine (place_i at_ _ (by omega) (by omega) _).mono ?_
  rintro e w' ⟨⟨p, hp, rfl⟩, hw⟩
  subst w'
  have hpn : p ≤ 8 * n - 8 := by omega
  go_wp2_with fail
  go_loopw [11] (fun i wr => ∃ k : Nat, k ≤ 16 ∧ i = .int .i64 k ∧ Turned w1 wr g cap m q p bs (s2 (s16 bs)) k) (fun i _ => 16 - (intOf i).toNat)
  case atStart => exact ⟨0, by omega, rfl, bs, HBB.out, rfl, OW.out.1, OW.out.2, by rw [Nat.pow_zero, Nat.mod_one, Nat.zero_mul, Nat.xor_zero]⟩
  case round =>
    obtain ⟨k, hk, rfl, ht⟩ := hrel
    have HT : Hid (Turned w1 wr g cap m q p bs (s2 (s16 bs)) k) := ht
    clear ht OW
    go_wp2_with fail
    · have hk16 : k < 16 := by omega
      have hbit : (bits BinOp.and IntKind.u16 (↑q / 2 ^ k) 1 == 1) = true := by assumption
      obtain ⟨cs, hcb, hcl, hbe, own, hle⟩ := HT.out
      obtain ⟨j, hj⟩ : ∃ j, j = (p + k) / 8 := ⟨_, rfl⟩
      obtain ⟨r, hr⟩ : ∃ r, r = (p + k) % 8 := ⟨_, rfl⟩
      have hjb : j < bs.length := by rw [HBS.out]; omega
      have hjm : j < m := by have := HBS.out; omega
      obtain ⟨x, hx⟩ : ∃ x, x = cs.getD j 0 := ⟨_, rfl⟩
      have hcell : wr.cell? ⟨g, j, none⟩ = some (.int .u8 x) := by
        have := own.cellAt j (by omega)
        rw [this, u8s_app, List.getElem?_append_left (by rw [u8s_len]; omega), u8s_at _ _ (by omega), hx]
      have hfz : wr.frozen? ⟨g, j, none⟩ = false := own.frozenAt j
      have e1 : IntKind.i64.wrap ((p : Int) + k) = ((p + k : Nat) : Int) := by rw [IntKind.wrap_i64]; omega
      have e2 : ((p : Int) + k).tdiv 8 = (j : Int) := by rw [hj, Int.tdiv_eq_ediv_of_nonneg (by omega)]; omega
      have e3 : ((p : Int) + k).tmod 8 = (r : Int) := by rw [hr, Int.tmod_eq_emod_of_nonneg (by omega)]; omega
      have hr8 : r < 8 := by omega
      have HR := hid_as (turn_on hbit hj hr hjb hcb hcl hbe own hle hx)
      clear own hbe hle hcb hcl hx hj hr hm hp hpn hjb HT
      go_region
      go_wp2
      go_roundw
      case rel => exact ⟨k + 1, by omega, by go_num, HR.out⟩
      case measure => simp [intOf]; omega
    · have hbit : (bits BinOp.and IntKind.u16 (↑q / 2 ^ k) 1 == 1) = false := by assumption
      go_roundw
      case rel => exact ⟨k + 1, by omega, by go_num, turn_off HT.out hbit⟩
      case measure => simp [intOf]; omega
    · obtain rfl : k = 16 := by omega
      obtain ⟨cs, hcb, hcl, hbe, own, hle⟩ := HT.out
      rw [show q % 2 ^ 16 = q from Nat.mod_eq_of_lt hq] at hle
      have hne : s16 cs ≠ s16 bs := sum_tells 65535 hcl hle (by have := HBS.out; omega) hq0 hq
      have HR := hid_as (rd_off hcl (by have := HBS.out; omega) (by have := HBS.out; omega) hne)
      have O5 := hid_as (open_c (own_sl own) (hcb.app (s2_bytes (s16_lt HBB.out))))
      have K5 : Hid (Below w.heap.size w wr) := below_and K1.out hbe
      clear own hle hbe hcb hcl hne HT hm
      go_wp2_with fail
      refine O5.out.mono ?_
      rintro e w6 hend
      obtain ⟨k6, po, pc, rfl, _⟩ := hend.is HR.out
      have K6 := hid_as (below_and K5.out k6)
      clear hend k6 O5
      go_wp2
      go_ret
      exact ⟨rfl, K6.out⟩
theorem tells_law {v : Value} {unit : Nat} {pdu : List Nat} (at_ : Int) {q : Nat} {w : World} (hu : unit < 256) (s : Sl w v (u8s pdu)) (hB : Bytes pdu) (hq : q < 65536) : Calls Try.prog 5 #[.int .u8 unit, v, .int .i64 at_, .int .u16 q] w fun e w' => e = .returned (.bool true) ∧ Below w.heap.size w w' := by
  obtain ⟨ao, c, rfl⟩ := s.shape
  rw [u8s_len] at s ⊢
  by_cases hi : 253 < pdu.length ∨ pdu.length < 1 ∨ q = 0
  · exact tells_idle unit _ c ao at_ q w hi
  · exact tells_w unit _ c (pdu.length + 3) ao pdu _ at_ q w hu s hB rfl (by omega) rfl (by omega) hq (by omega)
end Go.Proofs.Yteadaknlflaclaa
