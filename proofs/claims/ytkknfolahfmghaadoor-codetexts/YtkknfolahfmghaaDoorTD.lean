/- The reference's numbers as text, its words (stage 20). -/
import Derived.Test.YtkknfolahfmghaaDoorTV
namespace Go.Proofs.YtkknfolahfmghaaDoor
open Go.RowKit
open Fb Cod
theorem txapp (a b : List UInt8) : tx a ++ tx b = tx (a ++ b) := by simp [tx, ByteArray.mk_append_mk]
theorem txsize (a : List UInt8) : (tx a).size = a.length := by simp [tx, ByteArray.size]
theorem ten_fin : ∀ d : Fin 10, (⟨#[48, 49, 50, 51, 52, 53, 54, 55, 56, 57]⟩ : ByteArray).extract d (d + 1) = tx [UInt8.ofNat (48 + d)] := by decide +kernel
theorem dd_lo {u : Nat} (h : u < 10) : Lib.decDigits u = [UInt8.ofNat (48 + u)] := by rw [Lib.decDigits, dif_pos h]
theorem dd_hi {u : Nat} (h : ¬ u < 10) : Lib.decDigits u = Lib.decDigits (u / 10) ++ [UInt8.ofNat (48 + u % 10)] := by rw [Lib.decDigits, dif_neg h]

set_option maxHeartbeats 1600000 in
set_option maxRecDepth 100000 in
theorem dec_p (n : Int) (u0 : Nat) (hn : ¬ n < 0) (hu : (u0 : Int) = n) (h9 : u0 ≤ 9223372036854775808) (w : World) : Calls Tryd.prog 33 #[.int .i64 n] w fun e w' => e = .returned (.string (tx ([] ++ Lib.decDigits u0))) ∧ w' = w := by
  have e0 : IntKind.u64.wrap n = (u0 : Int) := by
    rw [IntKind.wrap_u64]; omega
  have HU := hid_as h9
  clear hu h9
  go_enter Tryd.func33, Tryd.ntmps33
  go_upto_region 5 with fail
  go_loopw [3, 5] (fun uv ov wr => ∃ (u : Nat) (l : List UInt8), uv = .int .u64 u ∧ ov = .string (tx l) ∧ l.length ≤ 19 ∧ u < 10 ^ (20 - l.length) ∧ Lib.decDigits u0 = Lib.decDigits u ++ l ∧ u ≤ 9223372036854775808 ∧ wr = w) (fun uv _ _ => (intOf uv).toNat)
  case atStart => exact ⟨u0, [], rfl, rfl, by simp, by have := HU.out; show u0 < 10 ^ 20; omega, by simp, HU.out, rfl⟩
  case round =>
    obtain ⟨u, l, rfl, rfl, hl, hu, hd, hu9, hw⟩ := hrel
    subst hw
    obtain ⟨d, hd1⟩ : ∃ d, d = u % 10 := ⟨_, rfl⟩
    obtain ⟨q, hq1⟩ : ∃ q, q = u / 10 := ⟨_, rfl⟩
    have hd10 : d < 10 := by omega
    have wq : IntKind.u64.wrap (q : Int) = (q : Int) := by rw [IntKind.wrap_u64]; omega
    have HQ9 : Hid (q ≤ 9223372036854775808) := by show q ≤ 9223372036854775808; omega
    have r1 : (u : Int) % 10 = (d : Int) := by omega
    have r2 : (u : Int) / 10 = (q : Int) := by omega
    have c1 : (0 : Int) ≤ d := by omega
    have c2 : (d : Int) + 1 ≤ 10 := by omega
    have c3 : (d : Int) ≤ (d : Int) + 1 := by omega
    have c4 : ((d : Int) + 1).toNat = d + 1 := by omega
    obtain ⟨g, hg⟩ : ∃ g, g = UInt8.ofNat (48 + d) := ⟨_, rfl⟩
    have hx : (⟨#[48, 49, 50, 51, 52, 53, 54, 55, 56, 57]⟩ : ByteArray).extract d (d + 1) = tx [g] := by rw [hg]; exact ten_fin ⟨d, hd10⟩
    have hs3 : ¬ 9223372036854775807 < (tx [g]).size + (tx l).size := by rw [txsize, txsize]; simp; omega
    have HP : Hid (u < 10 ^ (20 - l.length) ∧ l.length ≤ 19 ∧ Lib.decDigits u0 = Lib.decDigits u ++ l ∧ d = u % 10 ∧ q = u / 10 ∧ g = UInt8.ofNat (48 + d)) := ⟨hu, hl, hd, hd1, hq1, hg⟩
    clear hu hl hd hd1 hq1 hg hu9
    go_upto_region 6 with fail
    rw [txapp]
    obtain ⟨l2, hl2⟩ : ∃ l2, l2 = [g] ++ l := ⟨_, rfl⟩
    rw [← hl2]
    have HL := hid_as hl2
    have hs4 : ¬ 9223372036854775807 < (tx l2).size + 0 := by rw [txsize, hl2]; have := HP.out.2.1; simp; omega
    have hs5 : ¬ 9223372036854775807 < (1 : Nat) + (tx l2).size := by rw [txsize, hl2]; have := HP.out.2.1; simp; omega
    have hs6 : ¬ 9223372036854775807 < (tx l2).size := by rw [txsize, hl2]; have := HP.out.2.1; simp; omega
    clear hl2 hx hs3 c1 c2 c3 c4
    by_cases hq : q = 0
    · subst hq
      have hq1 : ((0 : Int) == 0) = true := rfl
      have FIN : Hid (Lib.decDigits u0 = l2) := by
        obtain ⟨_, _, h3, h4, h5, h6⟩ := HP.out
        show Lib.decDigits u0 = l2
        have hu : u < 10 := by omega
        rw [HL.out, h3, dd_lo hu, h6, h4, Nat.mod_eq_of_lt hu]
      clear HP HL
      go_wp2
      go_ret
      exact ⟨ret_str (by rw [FIN.out]; rfl), rfl⟩
    · have hq1 : ¬ (q : Int) = 0 := by omega
      have hq2 : ((q : Int) == 0) = false := beq_eq_false_iff_ne.2 hq1
      have NX : Hid (l2.length ≤ 19 ∧ q < 10 ^ (20 - l2.length) ∧ Lib.decDigits u0 = Lib.decDigits q ++ l2 ∧ q < u) := by
        obtain ⟨h1, h2, h3, h4, h5, h6⟩ := HP.out
        have hu : ¬ u < 10 := by omega
        have hll : l2.length = l.length + 1 := by rw [HL.out]; simp
        have h7 : q < 10 ^ (20 - (l.length + 1)) := by
          rw [h5]
          refine Nat.div_lt_of_lt_mul ?_
          rw [show 20 - l.length = (20 - (l.length + 1)) + 1 by omega, Nat.pow_succ'] at h1
          exact h1
        refine ⟨?_, by rw [hll]; exact h7, ?_, by omega⟩
        · rcases Nat.lt_or_ge l2.length 20 with h8 | h8
          · omega
          · exfalso
            rw [show 20 - (l.length + 1) = 0 by omega] at h7
            omega
        · rw [h3, dd_hi hu, ← h5, HL.out, h6, h4, List.append_assoc]
      clear HP
      go_wp2
      exact ⟨⟨q, l2, rfl, rfl, NX.out.1, NX.out.2.1, NX.out.2.2.1, HQ9.out, trivial⟩, by have := NX.out.2.2.2; show (q : Int).toNat < (u : Int).toNat; omega⟩

set_option maxHeartbeats 1600000 in
set_option maxRecDepth 100000 in
theorem dec_n (n : Int) (u0 : Nat) (hn : n < 0) (hu : (u0 : Int) = -n) (h9 : u0 ≤ 9223372036854775808) (w : World) : Calls Tryd.prog 33 #[.int .i64 n] w fun e w' => e = .returned (.string (tx ([45] ++ Lib.decDigits u0))) ∧ w' = w := by
  have e0 : IntKind.u64.wrap (-(IntKind.u64.wrap n)) = (u0 : Int) := by
    rw [IntKind.wrap_u64, IntKind.wrap_u64]; omega
  have HU := hid_as h9
  clear hu h9
  go_enter Tryd.func33, Tryd.ntmps33
  go_upto_region 5 with fail
  go_loopw [3, 5] (fun uv ov wr => ∃ (u : Nat) (l : List UInt8), uv = .int .u64 u ∧ ov = .string (tx l) ∧ l.length ≤ 19 ∧ u < 10 ^ (20 - l.length) ∧ Lib.decDigits u0 = Lib.decDigits u ++ l ∧ u ≤ 9223372036854775808 ∧ wr = w) (fun uv _ _ => (intOf uv).toNat)
  case atStart => exact ⟨u0, [], rfl, rfl, by simp, by have := HU.out; show u0 < 10 ^ 20; omega, by simp, HU.out, rfl⟩
  case round =>
    obtain ⟨u, l, rfl, rfl, hl, hu, hd, hu9, hw⟩ := hrel
    subst hw
    obtain ⟨d, hd1⟩ : ∃ d, d = u % 10 := ⟨_, rfl⟩
    obtain ⟨q, hq1⟩ : ∃ q, q = u / 10 := ⟨_, rfl⟩
    have hd10 : d < 10 := by omega
    have wq : IntKind.u64.wrap (q : Int) = (q : Int) := by rw [IntKind.wrap_u64]; omega
    have HQ9 : Hid (q ≤ 9223372036854775808) := by show q ≤ 9223372036854775808; omega
    have r1 : (u : Int) % 10 = (d : Int) := by omega
    have r2 : (u : Int) / 10 = (q : Int) := by omega
    have c1 : (0 : Int) ≤ d := by omega
    have c2 : (d : Int) + 1 ≤ 10 := by omega
    have c3 : (d : Int) ≤ (d : Int) + 1 := by omega
    have c4 : ((d : Int) + 1).toNat = d + 1 := by omega
    obtain ⟨g, hg⟩ : ∃ g, g = UInt8.ofNat (48 + d) := ⟨_, rfl⟩
    have hx : (⟨#[48, 49, 50, 51, 52, 53, 54, 55, 56, 57]⟩ : ByteArray).extract d (d + 1) = tx [g] := by rw [hg]; exact ten_fin ⟨d, hd10⟩
    have hs3 : ¬ 9223372036854775807 < (tx [g]).size + (tx l).size := by rw [txsize, txsize]; simp; omega
    have HP : Hid (u < 10 ^ (20 - l.length) ∧ l.length ≤ 19 ∧ Lib.decDigits u0 = Lib.decDigits u ++ l ∧ d = u % 10 ∧ q = u / 10 ∧ g = UInt8.ofNat (48 + d)) := ⟨hu, hl, hd, hd1, hq1, hg⟩
    clear hu hl hd hd1 hq1 hg hu9
    go_upto_region 6 with fail
    rw [txapp]
    obtain ⟨l2, hl2⟩ : ∃ l2, l2 = [g] ++ l := ⟨_, rfl⟩
    rw [← hl2]
    have HL := hid_as hl2
    have hs4 : ¬ 9223372036854775807 < (tx l2).size + 0 := by rw [txsize, hl2]; have := HP.out.2.1; simp; omega
    have hs5 : ¬ 9223372036854775807 < (1 : Nat) + (tx l2).size := by rw [txsize, hl2]; have := HP.out.2.1; simp; omega
    have hs6 : ¬ 9223372036854775807 < (tx l2).size := by rw [txsize, hl2]; have := HP.out.2.1; simp; omega
    clear hl2 hx hs3 c1 c2 c3 c4
    by_cases hq : q = 0
    · subst hq
      have hq1 : ((0 : Int) == 0) = true := rfl
      have FIN : Hid (Lib.decDigits u0 = l2) := by
        obtain ⟨_, _, h3, h4, h5, h6⟩ := HP.out
        show Lib.decDigits u0 = l2
        have hu : u < 10 := by omega
        rw [HL.out, h3, dd_lo hu, h6, h4, Nat.mod_eq_of_lt hu]
      clear HP HL
      go_wp2
      go_ret
      exact ⟨ret_str (by rw [FIN.out]; exact txapp [45] l2), rfl⟩
    · have hq1 : ¬ (q : Int) = 0 := by omega
      have hq2 : ((q : Int) == 0) = false := beq_eq_false_iff_ne.2 hq1
      have NX : Hid (l2.length ≤ 19 ∧ q < 10 ^ (20 - l2.length) ∧ Lib.decDigits u0 = Lib.decDigits q ++ l2 ∧ q < u) := by
        obtain ⟨h1, h2, h3, h4, h5, h6⟩ := HP.out
        have hu : ¬ u < 10 := by omega
        have hll : l2.length = l.length + 1 := by rw [HL.out]; simp
        have h7 : q < 10 ^ (20 - (l.length + 1)) := by
          rw [h5]
          refine Nat.div_lt_of_lt_mul ?_
          rw [show 20 - l.length = (20 - (l.length + 1)) + 1 by omega, Nat.pow_succ'] at h1
          exact h1
        refine ⟨?_, by rw [hll]; exact h7, ?_, by omega⟩
        · rcases Nat.lt_or_ge l2.length 20 with h8 | h8
          · omega
          · exfalso
            rw [show 20 - (l.length + 1) = 0 by omega] at h7
            omega
        · rw [h3, dd_hi hu, ← h5, HL.out, h6, h4, List.append_assoc]
      clear HP
      go_wp2
      exact ⟨⟨q, l2, rfl, rfl, NX.out.1, NX.out.2.1, NX.out.2.2.1, HQ9.out, trivial⟩, by have := NX.out.2.2.2; show (q : Int).toNat < (u : Int).toNat; omega⟩
end Go.Proofs.YtkknfolahfmghaaDoor
