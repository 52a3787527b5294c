/- The walk of CrcTells. -/
import Derived.Test.YthhlahimaoiinaaKnown
import Derived.Test.YthhlahimaoiinaaCopy
import Derived.Test.YthhlahimaoiinaaSame
namespace Go.Proofs.Ythhlahimaoiinaa
open Go.RowKit
open Crc
theorem place_i (k m : Int) (h0 : 0 < m) (hm : m ≤ 1000000) (w : World) : Calls Try.prog 16 #[.int .i64 k, .int .i64 m] w fun e w' => (∃ p : Nat, (p : Int) < m ∧ e = .returned (.int .i64 p)) ∧ w' = w := by
  obtain ⟨n, rfl⟩ : ∃ n : Nat, m = n := ⟨m.toNat, by omega⟩
  refine (place_c k n (by omega) (by omega) w).mono ?_
  rintro e w' ⟨⟨p, hp, rfl⟩, rfl⟩
  exact ⟨⟨p, by omega, rfl⟩, rfl⟩
theorem own_some {w : World} {base n : Nat} {v : Value} {xs : List Value} (h : w.ownsRow base 5 1 v n xs) (hn : 0 < n) : ∃ g cap, v = .slice (some ⟨g, 0, none⟩) n cap := by
  rcases h.2 with ⟨rfl, h0⟩ | ⟨g, cap, cur, rfl, h'⟩
  · omega
  · exact ⟨g, cap, rfl⟩
/-- The copy with the first k of the sixteen bits turned. -/
def Turned (w1 wr : World) (g cap n q p : Nat) (bs : List Nat) (k : Nat) : Prop := ∃ cs : List Nat, Bytes cs ∧ cs.length = n ∧ Below w1.heap.size w1 wr ∧ wr.ownsRow w1.heap.size 5 1 (.slice (some ⟨g, 0, none⟩) n cap) n (u8s cs) ∧ le cs = le bs ^^^ ((q % 2 ^ k) * 2 ^ p)

theorem xor_mul (a b p : Nat) : (a ^^^ b) * 2 ^ p = a * 2 ^ p ^^^ b * 2 ^ p := by
  apply Nat.eq_of_testBit_eq
  intro i
  rw [Nat.testBit_xor, Nat.testBit_mul_two_pow, Nat.testBit_mul_two_pow, Nat.testBit_mul_two_pow, Nat.testBit_xor]
  cases decide (p ≤ i) <;> simp
theorem shift_nat (q k : Nat) : (q : Int) / 2 ^ k = ((q / 2 ^ k : Nat) : Int) := by simp
theorem bit_on {q k : Nat} (h : (bits .and .u16 ((q : Int) / 2 ^ k) 1 == 1) = true) : q / 2 ^ k % 2 = 1 := by
  rw [shift_nat] at h
  exact odd_16 h
theorem bit_off {q k : Nat} (h : (bits .and .u16 ((q : Int) / 2 ^ k) 1 == 1) = false) : q / 2 ^ k % 2 = 0 := by
  rw [shift_nat] at h
  have := even_16 h
  omega
theorem turn_off {w1 wr : World} {g cap n q p : Nat} {bs : List Nat} {k : Nat} (h : Turned w1 wr g cap n q p bs k) (hb : (bits .and .u16 ((q : Int) / 2 ^ k) 1 == 1) = false) : Turned w1 wr g cap n q p bs (k + 1) := by
  obtain ⟨cs, h1, h2, h3, h4, h5⟩ := h
  refine ⟨cs, h1, h2, h3, h4, ?_⟩
  rw [bit_take, bit_off hb, Nat.zero_mul, Nat.xor_zero]
  exact h5
theorem pow_8 {r : Nat} (hr : r < 8) : 2 ^ r < 256 := Nat.pow_lt_pow_right (a := 2) (m := r) (n := 8) (by decide) hr
theorem xor_bit {x r : Nat} (hx : x < 256) (hr : r < 8) : bits .xor .u8 (x : Int) (2 ^ r % 256) = ((x ^^^ 2 ^ r : Nat) : Int) := by
  have h := pow_8 hr
  have e : ((2 : Int) ^ r) = ((2 ^ r : Nat) : Int) := by simp
  have e2 : ((2 : Int) ^ r % 256) = ((2 ^ r : Nat) : Int) := by
    rw [e]
    generalize 2 ^ r = z at h
    omega
  rw [e2]
  exact xor_8 hx h
theorem turn_on {w1 wr : World} {g cap n q p j r x : Nat} {bs cs : List Nat} {k : Nat} (hb : (bits .and .u16 ((q : Int) / 2 ^ k) 1 == 1) = true) (hj : j = (p + k) / 8) (hr : r = (p + k) % 8) (hjn : j < n)
    (h1 : Bytes cs) (h2 : cs.length = n) (h3 : Below w1.heap.size w1 wr) (h4 : wr.ownsRow w1.heap.size 5 1 (.slice (some ⟨g, 0, none⟩) n cap) n (u8s cs)) (h5 : le cs = le bs ^^^ ((q % 2 ^ k) * 2 ^ p)) (hx : x = cs.getD j 0) :
    Turned w1 ((wr.setCell ⟨g, j, none⟩ (.int .u8 (bits .xor .u8 (x : Int) (2 ^ r % 256)))).drew) g cap n q p bs (k + 1) := by
  have hr8 : r < 8 := by omega
  have hx8 : x < 256 := by rw [hx]; exact h1.at j
  rw [xor_bit hx8 hr8]
  refine ⟨cs.set j (x ^^^ 2 ^ r), ?_, by rw [List.length_set]; exact h2, ?_, ?_, ?_⟩
  · intro y hy
    rcases List.mem_or_eq_of_mem_set hy with hy | rfl
    · exact h1 y hy
    · exact Nat.xor_lt_two_pow (n := 8) hx8 (pow_8 hr8)
  · exact (h3.setCell (p := ⟨g, j, none⟩) (h4.lt g rfl).1 _).drew
  · have := (h4.stored j (.int .u8 ((x ^^^ 2 ^ r : Nat) : Int))).1.drew
    rw [show u8s (cs.set j (x ^^^ 2 ^ r)) = (u8s cs).set j (.int .u8 ((x ^^^ 2 ^ r : Nat) : Int)) by unfold u8s; rw [List.map_set]]
    exact this
  · rw [hx, le_set cs j _ (by omega), h5, bit_take q k, bit_on hb, Nat.one_mul, xor_mul, Nat.xor_assoc]
    congr 2
    rw [← Nat.pow_add, ← Nat.pow_add]
    congr 1
    omega

set_option maxRecDepth 100000 in
set_option maxHeartbeats 1600000 in
theorem tells_w {v : Value} {bs : List Nat} {w : World} (at_ : Int) (q : Nat) (hq : q < 65536) (h : Slice w v bs) (hv : ∃ ao n c, v = .slice ao n c ∧ n = bs.length) (hm : bs.length ≤ 9223372036854775807) :
    Calls Try.prog 4 #[v, .int .i64 at_, .int .u16 q] w fun e w' => e = .returned (.bool true) ∧ Below w.heap.size w w' := by
  have hnot : ∀ (x : Bool) (w : World), (Op.unary .not (.bool x)).run Try.prog w = .ok (.bool (!x)) w := fun _ _ => rfl
  obtain ⟨ao, n, c, rfl, hn⟩ := hv
  have HN : Hid (n = bs.length) := hn
  rw [← hn] at hm
  have HS : Hid (Slice w (.slice ao n c) bs) := h
  clear hn h
  by_cases hl : n > 2000 ∨ n < 2 ∨ q = 0
  · rcases hl with hl | hl | hl
    · have hd : decide ((2000 : Int) < n) = true := decide_eq_true (by omega)
      go_enter Try.func4, Try.ntmps4
      go_wp2_with (go_at_call 7; refine (known_c w).mono ?_; rintro e w1 ⟨rfl, k1⟩)
      go_ret
      exact ⟨rfl, k1⟩
    · have hd : decide ((2000 : Int) < n) = false := decide_eq_false (by omega)
      have hd2 : decide ((n : Int) < 2) = true := decide_eq_true (by omega)
      go_enter Try.func4, Try.ntmps4
      go_wp2_with (go_at_call 7; refine (known_c w).mono ?_; rintro e w1 ⟨rfl, k1⟩)
      go_ret
      exact ⟨rfl, k1⟩
    · subst hl
      by_cases h1 : (2000 : Int) < n
      · have hd : decide ((2000 : Int) < n) = true := decide_eq_true h1
        go_enter Try.func4, Try.ntmps4
        go_wp2_with (go_at_call 7; refine (known_c w).mono ?_; rintro e w1 ⟨rfl, k1⟩)
        go_ret
        exact ⟨rfl, k1⟩
      · have hd : decide ((2000 : Int) < n) = false := decide_eq_false h1
        by_cases h2 : (n : Int) < 2
        · have hd2 : decide ((n : Int) < 2) = true := decide_eq_true h2
          go_enter Try.func4, Try.ntmps4
          go_wp2_with (go_at_call 7; refine (known_c w).mono ?_; rintro e w1 ⟨rfl, k1⟩)
          go_ret
          exact ⟨rfl, k1⟩
        · have hd2 : decide ((n : Int) < 2) = false := decide_eq_false h2
          go_enter Try.func4, Try.ntmps4
          go_wp2_with (go_at_call 7; refine (known_c w).mono ?_; rintro e w1 ⟨rfl, k1⟩)
          go_ret
          exact ⟨rfl, k1⟩
  · have hd : decide ((2000 : Int) < n) = false := decide_eq_false (by omega)
    have hd2 : decide ((n : Int) < 2) = false := decide_eq_false (by omega)
    have hd3 : ((q : Int) == 0) = false := by rw [beq_eq_false_iff_ne]; omega
    have hl1 : n ≤ 2000 := by omega
    have hl2 : 2 ≤ n := by omega
    have hq0 : q ≠ 0 := by omega
    clear hl
    have hlen : bs.length ≤ 1000000 := by rw [← (show n = _ from HN)]; omega
    go_enter Try.func4, Try.ntmps4
    go_wp2_with (go_at_call 7; refine (known_c w).mono ?_; rintro e w1 ⟨rfl, k1⟩)
    have s1 : Hid (Slice w1 (.slice ao n c) bs) := HS.below k1
    refine (copy_c s1 hlen).mono ?_
    rintro e w3 ⟨v', rfl, own3, k3⟩
    rw [← (show n = _ from HN)] at own3
    obtain ⟨g, cap, rfl⟩ := own_some own3 (by omega)
    have kk : Hid (Below w.heap.size w w1) := k1
    clear k1
    go_wp2_with (go_at_call 16; refine (place_i at_ _ (by omega) (by omega) _).mono ?_; rintro e w' ⟨⟨p, hp, rfl⟩, hw⟩; subst w')
    have OW : Hid (Below w1.heap.size w1 w3 ∧ w3.ownsRow w1.heap.size 5 1 (.slice (some ⟨g, 0, none⟩) n cap) n (u8s bs)) := ⟨k3, own3⟩
    have hb : Hid (Bytes bs) := HS.1
    clear own3 k3
    go_loopw [8] (fun i wr => ∃ k : Nat, k ≤ 16 ∧ i = .int .i64 k ∧ Turned w1 wr g cap n q p bs k) (fun i _ => 16 - (intOf i).toNat)
    case atStart => exact ⟨0, by omega, rfl, bs, hb, HN.symm, OW.1, OW.2, by rw [Nat.pow_zero, Nat.mod_one, Nat.zero_mul, Nat.xor_zero]⟩
    case round =>
      obtain ⟨k, hk, rfl, ht⟩ := hrel
      have HT : Hid (Turned w1 wr g cap n q p bs k) := ht
      clear ht OW
      go_wp2_with fail
      · have hk16 : k < 16 := by omega
        have hbit : (bits BinOp.and IntKind.u16 (↑q / 2 ^ k) 1 == 1) = true := by assumption
        obtain ⟨cs, hcb, hcl, hbe, own, hle⟩ := HT
        obtain ⟨j, hj⟩ : ∃ j, j = (p + k) / 8 := ⟨_, rfl⟩
        obtain ⟨r, hr⟩ : ∃ r, r = (p + k) % 8 := ⟨_, rfl⟩
        have hjn : j < n := by omega
        obtain ⟨x, hx⟩ : ∃ x, x = cs.getD j 0 := ⟨_, rfl⟩
        have hcell : wr.cell? ⟨g, j, none⟩ = some (.int .u8 x) := by
          have := own.cellAt j (by omega)
          rw [this, u8s_at, List.getElem?_eq_getElem (by omega), hx]
          simp [List.getD, List.getElem?_eq_getElem (show j < cs.length by omega)]
        have hfz : wr.frozen? ⟨g, j, none⟩ = false := own.frozenAt j
        have e1 : IntKind.i64.wrap ((p : Int) + k) = ((p + k : Nat) : Int) := by rw [IntKind.wrap_i64]; omega
        have e2 : ((p : Int) + k).tdiv 8 = (j : Int) := by rw [hj, Int.tdiv_eq_ediv_of_nonneg (by omega)]; omega
        have e3 : ((p : Int) + k).tmod 8 = (r : Int) := by rw [hr, Int.tmod_eq_emod_of_nonneg (by omega)]; omega
        have hr8 : r < 8 := by omega
        have HR : Hid (_) := turn_on hbit hj hr hjn hcb hcl hbe own hle hx
        clear own hbe hle hcb hcl hx hj hr
        go_region
        go_wp2
        go_roundw
        case rel => exact ⟨k + 1, by omega, by go_num, HR⟩
        case measure => simp [intOf]; omega
      · have hbit : (bits BinOp.and IntKind.u16 (↑q / 2 ^ k) 1 == 1) = false := by assumption
        go_roundw
        case rel => exact ⟨k + 1, by omega, by go_num, turn_off HT hbit⟩
        case measure => simp [intOf]; omega
      · obtain rfl : k = 16 := by omega
        obtain ⟨cs, hcb, hcl, hbe, own, hle⟩ := HT
        have hn : n = bs.length := HN
        have s5 : Slice wr (.slice (some ⟨g, 0, none⟩) n cap) cs := own_slice hcb (by rw [hcl]; exact own)
        have s6 : Slice wr (.slice ao n c) bs := Slice.below s1 hbe
        rw [show q % 2 ^ 16 = q from Nat.mod_eq_of_lt hq] at hle
        have hne : s16 cs ≠ s16 bs := sum_tells 65535 (by omega) hle (by omega) hq0 hq
        have hne2 : (((s16 cs : Nat) : Int) != ((s16 bs : Nat) : Int)) = true := by rw [bne_iff_ne]; omega
        have k6 : Hid (Below w.heap.size w wr) := Below.trans kk (hbe.mono (Below.size kk))
        refine (sum16_c s5 (by omega)).mono ?_
        rintro e w' ⟨rfl, hw⟩
        subst w'
        clear own hle hbe hcb hcl hne s5 hn
        go_wp2_with (go_at_call 11; refine (sum16_c s6 hlen).mono ?_; rintro e w' ⟨rfl, hw⟩; subst w')
        go_ret
        exact ⟨rfl, k6⟩
end Go.Proofs.Ythhlahimaoiinaa
