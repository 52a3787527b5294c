/- The walks: ends, begun, stamp (stage 9). -/
import Derived.Test.YtoiadofoclgnoaaW1
namespace Go.Proofs.Ytoiadofoclgnoaa
open Go.RowKit
open Pdu
def e0 (l : List Nat) : Nat := l.getD 0 0
def e1 (l : List Nat) : Nat := l.getD 1 0
def e2 (l : List Nat) : Nat := l.getD (l.length - 2) 0
def e3 (l : List Nat) : Nat := l.getD (l.length - 1) 0
theorem drew_off {B : Nat} {w w' : World} (h : Below B w w') : Below B w w'.drew := h.drew
set_option maxHeartbeats 1600000 in
theorem ends_c {w : World} {g n c : Nat} {l : List Nat} (h : Lies w g 0 (u8s l)) (hn : n = l.length) (h64 : 64 ≤ n) (hm : n ≤ 1000000) :
    Calls Try.prog 51 #[.slice (some ⟨g, 0, none⟩) n c] w fun e w' => e = .returned (.agg #[.int .u8 (e0 l : Nat), .int .u8 (e1 l : Nat), .int .u8 (e2 l : Nat), .int .u8 (e3 l : Nat)]) ∧ Below w.heap.size w w' := by
  have c0 : w.cell? ⟨g, 0, none⟩ = some (.int .u8 (e0 l : Nat)) := h.u8 0 (by omega)
  have c1 : w.cell? ⟨g, 1, none⟩ = some (.int .u8 (e1 l : Nat)) := h.u8 1 (by omega)
  have c2 : w.cell? ⟨g, n - 2, none⟩ = some (.int .u8 (e2 l : Nat)) := by have := h.u8 (n - 2) (by omega); rw [Nat.zero_add] at this; rw [this, hn]; rfl
  have c3 : w.cell? ⟨g, n - 1, none⟩ = some (.int .u8 (e3 l : Nat)) := by have := h.u8 (n - 1) (by omega); rw [Nat.zero_add] at this; rw [this, hn]; rfl
  have hg : g < w.heap.size := lt_of_cell c0
  clear h hn
  generalize e0 l = a at *
  generalize e1 l = b at *
  generalize e2 l = d at *
  generalize e3 l = f at *
  obtain ⟨p, hp⟩ : ∃ p, p = n - 2 := ⟨_, rfl⟩
  obtain ⟨q, hq⟩ : ∃ q, q = n - 1 := ⟨_, rfl⟩
  rw [← hp] at c2
  rw [← hq] at c3
  have i0 : (0 : Int) < (n : Int) := by omega
  have i1 : (1 : Int) < (n : Int) := by omega
  have i2 : (p : Int) < (n : Int) := by omega
  have i3 : (q : Int) < (n : Int) := by omega
  have j0 : 0 < n := by omega
  have j2 : p < n := by omega
  have j3 : q < n := by omega
  have i4 : (0 : Int) ≤ (p : Int) := by omega
  have i5 : (0 : Int) ≤ (q : Int) := by omega
  have w2 : IntKind.i64.wrap ((n : Int) - 2) = (p : Int) := by rw [IntKind.wrap_i64]; omega
  have w1 : IntKind.i64.wrap ((n : Int) - 1) = (q : Int) := by rw [IntKind.wrap_i64]; omega
  clear hp hq h64
  go_enter Try.func51, Try.ntmps51
  go_upto_region 2 with fail
  go_region_held3 (fun w' => w'.cell? ⟨g, 0, none⟩ = some (.int .u8 (a : Int)) ∧ w'.cell? ⟨g, 1, none⟩ = some (.int .u8 (b : Int)) ∧ w'.cell? ⟨g, p, none⟩ = some (.int .u8 (d : Int)) ∧ w'.cell? ⟨g, q, none⟩ = some (.int .u8 (f : Int))) (go_keep) (fail)
  go_wp2
  have HB := hid_as (drew_off (below_new (Below.refl _ w) (.cells #[.int .u8 (a : Int), .int .u8 (b : Int), .int .u8 (d : Int), .int .u8 (f : Int)] 90)))
  exact bodyPost_ret (v := .agg #[.int .u8 (a : Int), .int .u8 (b : Int), .int .u8 (d : Int), .int .u8 (f : Int)]) (by simp [results, Try.results51, go_sem]) rfl ⟨rfl, HB.out⟩
theorem idx4 (a b d f : Value) (w : World) : (Instr.index 90 (.agg #[a, b, d, f]) (.int .i64 0)).run Try.prog w = .ok a w ∧ (Instr.index 90 (.agg #[a, b, d, f]) (.int .i64 1)).run Try.prog w = .ok b w ∧ (Instr.index 90 (.agg #[a, b, d, f]) (.int .i64 2)).run Try.prog w = .ok d w ∧ (Instr.index 90 (.agg #[a, b, d, f]) (.int .i64 3)).run Try.prog w = .ok f w := by
  refine ⟨?_, ?_, ?_, ?_⟩ <;> kernel_rfl
def nz (x : Nat) : Nat := if x = 0 then 0 else 1
/-- Was a write of the block begun? -/
def bgn (l : List Nat) : Bool := decide (1 < nz (e0 l) + nz (e1 l) + nz (e2 l) + nz (e3 l))
set_option maxRecDepth 100000 in
set_option maxHeartbeats 1600000 in
theorem begun_c {w : World} {g n c : Nat} {l : List Nat} (h : Lies w g 0 (u8s l)) (hn : n = l.length) (h64 : 64 ≤ n) (hm : n ≤ 1000000) :
    Calls Try.prog 42 #[.slice (some ⟨g, 0, none⟩) n c] w fun e w' => e = .returned (.bool (bgn l)) ∧ Below w.heap.size w w' := by
  have EN := hid_as (ends_c (c := c) h hn h64 hm)
  have HG : Hid (bgn l = decide (1 < nz (e0 l) + nz (e1 l) + nz (e2 l) + nz (e3 l))) := rfl
  clear h hn h64 hm
  generalize bgn l = r at *
  generalize e0 l = a at *
  generalize e1 l = b at *
  generalize e2 l = d at *
  generalize e3 l = f at *
  go_enter Try.func42, Try.ntmps42
  go_wp2_with fail
  refine EN.out.mono ?_
  rintro e w1 ⟨rfl, k1⟩
  have K1 := hid_as k1
  clear k1 EN
  go_wp2
  go_loop [3, 8] (fun v i => (i = .int .i64 0 ∧ v = .int .i64 0) ∨ (i = .int .i64 1 ∧ v = .int .i64 (nz a : Nat)) ∨ (i = .int .i64 2 ∧ v = .int .i64 (nz a + nz b : Nat)) ∨ (i = .int .i64 3 ∧ v = .int .i64 (nz a + nz b + nz d : Nat)) ∨ (i = .int .i64 4 ∧ v = .int .i64 (nz a + nz b + nz d + nz f : Nat))) (fun _ i => 4 - (intOf i).toNat)
  case atStart => exact Or.inl ⟨rfl, rfl⟩
  case round =>
    have z1 : ∀ x : Nat, nz x ≤ 1 := fun x => by unfold nz; split <;> omega
    have za := z1 a
    have zb := z1 b
    have zd := z1 d
    have zf := z1 f
    clear z1
    have ix0 := fun v0 v1 v2 v3 W => (idx4 v0 v1 v2 v3 W).1
    have ix1 := fun v0 v1 v2 v3 W => (idx4 v0 v1 v2 v3 W).2.1
    have ix2 := fun v0 v1 v2 v3 W => (idx4 v0 v1 v2 v3 W).2.2.1
    have ix3 := fun v0 v1 v2 v3 W => (idx4 v0 v1 v2 v3 W).2.2.2
    rcases hrel with ⟨rfl, rfl⟩ | ⟨rfl, rfl⟩ | ⟨rfl, rfl⟩ | ⟨rfl, rfl⟩ | ⟨rfl, rfl⟩
    · by_cases hz : a = 0
      · subst hz
        go_wp2
        go_round
        case rel => exact Or.inr (Or.inl ⟨rfl, rfl⟩)
        case measure => simp [intOf]
      · have e1 : nz a = 1 := by unfold nz; rw [if_neg hz]
        have hz2 : ¬ (a : Int) = 0 := by omega
        go_wp2
        go_round
        case rel => exact Or.inr (Or.inl ⟨rfl, by first | rfl | exact int_is (by omega)⟩)
        case measure => simp [intOf]
    · by_cases hz : b = 0
      · subst hz
        go_wp2
        go_round
        case rel => exact Or.inr (Or.inr (Or.inl ⟨rfl, rfl⟩))
        case measure => simp [intOf]
      · have e1 : nz b = 1 := by unfold nz; rw [if_neg hz]
        have hz2 : ¬ (b : Int) = 0 := by omega
        go_wp2
        go_round
        case rel => exact Or.inr (Or.inr (Or.inl ⟨rfl, int_is (by omega)⟩))
        case measure => simp [intOf]
    · by_cases hz : d = 0
      · subst hz
        go_wp2
        go_round
        case rel => exact Or.inr (Or.inr (Or.inr (Or.inl ⟨rfl, rfl⟩)))
        case measure => simp [intOf]
      · have e1 : nz d = 1 := by unfold nz; rw [if_neg hz]
        have hz2 : ¬ (d : Int) = 0 := by omega
        go_wp2
        go_round
        case rel => exact Or.inr (Or.inr (Or.inr (Or.inl ⟨rfl, int_is (by omega)⟩)))
        case measure => simp [intOf]
    · by_cases hz : f = 0
      · subst hz
        go_wp2
        go_round
        case rel => exact Or.inr (Or.inr (Or.inr (Or.inr ⟨rfl, rfl⟩)))
        case measure => simp [intOf]
      · have e1 : nz f = 1 := by unfold nz; rw [if_neg hz]
        have hz2 : ¬ (f : Int) = 0 := by omega
        go_wp2
        go_round
        case rel => exact Or.inr (Or.inr (Or.inr (Or.inr ⟨rfl, int_is (by omega)⟩)))
        case measure => simp [intOf]
    · obtain ⟨z, hz⟩ : ∃ z, z = nz a + nz b + nz d + nz f := ⟨_, rfl⟩
      have hz4 : z ≤ 4 := by omega
      have HZ := hid_as hz
      rw [← hz]
      clear hz
      go_wp2
      go_ret
      refine ⟨congrArg (fun t => Ending.returned (Value.bool t)) ?_, K1.out⟩
      rw [HG.out, ← HZ.out]
      first | rfl | (congr 1; apply propext; omega) | simp
end Go.Proofs.Ytoiadofoclgnoaa
