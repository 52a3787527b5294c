/- The walks: stamp (stage 9). -/
import Derived.Test.YtoiadofoclgnoaaW2
namespace Go.Proofs.Ytoiadofoclgnoaa
open Go.RowKit
open Pdu
/-- A block with its stamps. -/
def stm (l : List Nat) (k : Nat) : List Nat := (((l.set 0 k).set 1 k).set (l.length - 2) k).set (l.length - 1) k
theorem stm_len (l : List Nat) (k : Nat) : (stm l k).length = l.length := by simp [stm]
def StR (t2 t3 : Nat) (v : Value) : Prop := v = .int .u8 1 ∨ (v = .int .u8 2 ∧ (1 = t2 ∨ 1 = t3)) ∨ (v = .int .u8 3 ∧ (1 = t2 ∨ 1 = t3) ∧ (2 = t2 ∨ 2 = t3))
def stMs (v : Value) : Nat := 3 - (intOf v).toNat
set_option maxHeartbeats 1600000 in
theorem stamp_c {w : World} {g n c g2 n2 c2 : Nat} {l old : List Nat} (h : Row w g l) (hn : n = l.length) (h64 : 64 ≤ n) (hm : n ≤ 1000000) (ho : Lies w g2 0 (u8s old)) (hn2 : n2 = old.length) (h642 : 64 ≤ n2) (hm2 : n2 ≤ 1000000) :
    Calls Try.prog 47 #[.slice (some ⟨g, 0, none⟩) n c, .slice (some ⟨g2, 0, none⟩) n2 c2] w fun e w' => e = .returned (.tuple #[]) ∧ (∃ k, 1 ≤ k ∧ k ≤ 3 ∧ k ≠ e2 old ∧ k ≠ e3 old ∧ Row w' g (stm l k)) ∧ Turn g w w' := by
  have EN := hid_as (ends_c (c := c2) ho hn2 h642 hm2)
  have H := hid_as h
  have HN := hid_as hn
  clear ho hn2 h642 hm2 h hn
  generalize e0 old = a at *
  generalize e1 old = b at *
  generalize e2 old = t2 at *
  generalize e3 old = t3 at *
  go_enter Try.func47, Try.ntmps47
  go_wp2_with fail
  refine EN.out.mono ?_
  rintro e w1 ⟨rfl, k1⟩
  have K1 := hid_as k1
  clear k1 EN
  go_upto_region 1 with fail
  obtain ⟨X, hX⟩ : ∃ X, X = w1.alloc (.cells #[.int .u8 (a : Int), .int .u8 (b : Int), .int .u8 (t2 : Int), .int .u8 (t3 : Int)] 90) := ⟨_, rfl⟩
  have x2 : X.cell? ⟨w1.heap.size, 2, none⟩ = some (.int .u8 (t2 : Int)) := by rw [hX]; simp
  have x3 : X.cell? ⟨w1.heap.size, 3, none⟩ = some (.int .u8 (t3 : Int)) := by rw [hX]; simp
  have KX : Hid (Below w.heap.size w X) := by rw [hX]; exact below_new K1.out _
  rw [← hX]
  clear hX K1
  generalize w1.heap.size = gt at *
  have RX : Hid (Row X g l) := (KX.out.block g H.out.lt).trans H.out
  have HT : Hid (Turn g w X) := Turn.ofBelow KX.out
  clear H KX
  go_wp2
  go_loop [5] (fun v => StR t2 t3 v) (fun v => stMs v)
  case atStart => exact Or.inl rfl
  case round =>
    have hv : ∃ k : Nat, u5 = .int .u8 (k : Int) ∧ 1 ≤ k ∧ k ≤ 3 ∧ (k = 3 → 3 ≠ t2 ∧ 3 ≠ t3) := by
      rcases hrel with rfl | ⟨rfl, _⟩ | ⟨rfl, h1, h2⟩
      · exact ⟨1, rfl, by omega, by omega, by omega⟩
      · exact ⟨2, rfl, by omega, by omega, by omega⟩
      · exact ⟨3, rfl, by omega, by omega, by omega⟩
    obtain ⟨k, rfl, hk1, hk3, hk33⟩ := hv
    have HRel := hid_as hrel
    have HNX : Hid (∀ k : Nat, k = 1 ∨ k = 2 → (k = t2 ∨ k = t3) → StR t2 t3 (.int .u8 (k : Int)) → StR t2 t3 (.int .u8 ((k : Int) + 1))) := by
      intro k hk ht hs
      rcases hk with rfl | rfl
      · exact Or.inr (Or.inl ⟨rfl, ht⟩)
      · refine Or.inr (Or.inr ⟨rfl, ?_, ht⟩)
        rcases hs with h | ⟨_, h⟩ | ⟨h, _⟩
        · simp at h
        · exact h
        · simp at h
    clear hrel
    by_cases h2 : k = t2
    · have hk : k = 1 ∨ k = 2 := by omega
      have HR := hid_as (HNX.out k hk (Or.inl h2) HRel.out)
      subst h2
      clear hk33
      go_wp2
      go_round
      case rel => exact HR.out
      case measure => simp [stMs, intOf]; omega
    · have d2' : ((k : Int) == (t2 : Int)) = false := by rw [beq_eq_false_iff_ne]; omega
      by_cases h3 : k = t3
      · have hk : k = 1 ∨ k = 2 := by omega
        have HR := hid_as (HNX.out k hk (Or.inr h3) HRel.out)
        subst h3
        clear hk33
        go_wp2
        go_round
        case rel => exact HR.out
        case measure => simp [stMs, intOf]; omega
      · have d3' : ((k : Int) == (t3 : Int)) = false := by rw [beq_eq_false_iff_ne]; omega
        have c0 : ∃ z : Nat, X.cell? ⟨g, 0, none⟩ = some (.int .u8 (z : Int)) := ⟨_, RX.out.cell (by have := HN.out; omega)⟩
        have c1 : ∃ z : Nat, X.cell? ⟨g, 1, none⟩ = some (.int .u8 (z : Int)) := ⟨_, RX.out.cell (by have := HN.out; omega)⟩
        have c2 : ∃ z : Nat, X.cell? ⟨g, n - 2, none⟩ = some (.int .u8 (z : Int)) := ⟨_, RX.out.cell (by have := HN.out; omega)⟩
        have c3 : ∃ z : Nat, X.cell? ⟨g, n - 1, none⟩ = some (.int .u8 (z : Int)) := ⟨_, RX.out.cell (by have := HN.out; omega)⟩
        obtain ⟨z0, c0⟩ := c0
        obtain ⟨z1, c1⟩ := c1
        obtain ⟨z2, c2⟩ := c2
        obtain ⟨z3, c3⟩ := c3
        have f0 : X.frozen? ⟨g, 0, none⟩ = false := frozen_row RX.out
        have f1 : X.frozen? ⟨g, 1, none⟩ = false := frozen_row RX.out
        have f2 : X.frozen? ⟨g, n - 2, none⟩ = false := frozen_row RX.out
        have f3 : X.frozen? ⟨g, n - 1, none⟩ = false := frozen_row RX.out
        have FIN : Hid (∀ W, W = (((X.setCell ⟨g, 0, none⟩ (.int .u8 (k : Int))).setCell ⟨g, 1, none⟩ (.int .u8 (k : Int))).setCell ⟨g, n - 2, none⟩ (.int .u8 (k : Int))).setCell ⟨g, n - 1, none⟩ (.int .u8 (k : Int)) → (∃ k, 1 ≤ k ∧ k ≤ 3 ∧ k ≠ t2 ∧ k ≠ t3 ∧ Row W g (stm l k)) ∧ Turn g w W) := by
          rintro W rfl
          refine ⟨⟨k, hk1, hk3, h2, h3, ?_⟩, (((HT.out.set _ _).set _ _).set _ _).set _ _⟩
          have := (((RX.out.set 0 k).set 1 k).set (n - 2) k).set (n - 1) k
          rw [HN.out] at this
          rw [HN.out]
          exact this
        obtain ⟨p, hp⟩ : ∃ p, p = n - 2 := ⟨_, rfl⟩
        obtain ⟨q, hq⟩ : ∃ q, q = n - 1 := ⟨_, rfl⟩
        rw [← hp] at c2 f2 FIN
        rw [← hq] at c3 f3 FIN
        have i0 : (0 : Int) < (n : Int) := by omega
        have i1 : (1 : Int) < (n : Int) := by omega
        have i2 : (p : Int) < (n : Int) := by omega
        have i3 : (q : Int) < (n : Int) := by omega
        have j0 : 0 < n := by omega
        have j2 : p < n := by omega
        have j3 : q < n := by omega
        have n0 : ¬ p = 0 := by omega
        have n1 : ¬ p = 1 := by omega
        have n2 : ¬ q = 0 := by omega
        have n3 : ¬ q = 1 := by omega
        have n4 : ¬ q = p := by omega
        have n5 : ¬ 0 = p := by omega
        have n6 : ¬ 1 = p := by omega
        have n7 : ¬ 0 = q := by omega
        have n8 : ¬ 1 = q := by omega
        have n9 : ¬ p = q := by omega
        have w2 : IntKind.i64.wrap ((n : Int) - 2) = (p : Int) := by rw [IntKind.wrap_i64]; omega
        have w1 : IntKind.i64.wrap ((n : Int) - 1) = (q : Int) := by rw [IntKind.wrap_i64]; omega
        clear hp hq h64 hk33 HNX HRel HN RX HT
        go_wp2
        go_end0
        exact ⟨rfl, FIN.out _ rfl⟩
end Go.Proofs.Ytoiadofoclgnoaa
