/- Tokens' answers as a law holds them; the law's example (stage 12). -/
import Derived.Test.YtnponognncdkcaaDoorWE
import Derived.Test.YtnponognncdkcaaDoorX2b
namespace Go.Proofs.YtnponognncdkcaaDoor
open Go.RowKit
open Adr Lx
/-- These tokens lie in block g. -/
def Laid (W : World) (g : Nat) (L : List (Tk × Nat)) : Prop := ∀ j u, (tcs L)[j]? = some u → W.cell? ⟨g, j, none⟩ = some u
theorem Laid.below {W W' : World} {g : Nat} {L : List (Tk × Nat)} (h : Laid W g L) (hg : g < W.heap.size) (k : Below W.heap.size W W') : Laid W' g L := fun j u hj => (k.cell (p := ⟨g, j, none⟩) hg).trans (h j u hj)
theorem Tks.laid {base : Nat} {W : World} {v : Value} {L : List (Tk × Nat)} (o : Tks base W v L) (h0 : 0 < L.length) : ∃ g cap, v = .slice (some ⟨g, 0, none⟩) L.length cap ∧ base ≤ g ∧ g < W.heap.size ∧ Laid W g L := by
  rcases o.2 with ⟨rfl, h⟩ | ⟨g, cap, cur, rfl, hb, hg, hn, hm, hs, ht⟩
  · omega
  · refine ⟨g, cap, rfl, hb, (World.ownsRow.lt o g rfl).2, fun j u hj => ?_⟩
    rw [cell_of_row W g j cur _ _ hg, ← Array.getElem?_toList]
    rw [← ht, List.getElem?_take] at hj
    split at hj
    · exact hj
    · cases hj
theorem toks_pos {l : List UInt8} {il : Bool} {L : List (Tk × Nat)} (h : toks l il = (L, none)) : 0 < L.length := by
  unfold toks at h
  split at h
  · cases h
  · have e := congrArg Prod.fst h
    simp only at e
    rw [← e]
    simp
theorem tokens_yes {s : ByteArray} {il : Bool} {L : List (Tk × Nat)} (h : toks s.data.toList il = (L, none)) (hs9 : s.size ≤ 1000000) (w : World) (hT : Tabs w) : Calls Tryd.prog 9 #[.string s, .bool il] w fun e w' => ∃ g cap, e = .returned (.tuple #[.slice (some ⟨g, 0, none⟩) L.length cap, .nilIface]) ∧ w.heap.size ≤ g ∧ g < w'.heap.size ∧ Laid w' g L ∧ Below w.heap.size w w' := by
  have hp := toks_pos h
  refine (tokens_c s il w hT hs9).mono ?_
  intro e w' t
  rw [h] at t
  obtain ⟨⟨v, he, hv⟩, hB⟩ := t
  obtain ⟨g, cap, rfl, h1, h2, h3⟩ := hv.laid hp
  exact ⟨g, cap, he, h1, h2, h3, hB⟩
theorem tokens_no {s : ByteArray} {il : Bool} {a n : Nat} (h : (toks s.data.toList il).2 = some (a, n)) (hs9 : s.size ≤ 1000000) (w : World) (hT : Tabs w) : Calls Tryd.prog 9 #[.string s, .bool il] w fun e w' => ∃ g, e = .returned (.tuple #[.slice none 0 0, .iface 47 (.pointer (some ⟨g, 0, none⟩))]) ∧ w.heap.size ≤ g ∧ g < w'.heap.size ∧ w'.cell? ⟨g, 0, none⟩ = some (.int .i64 a) ∧ w'.cell? ⟨g, 1, none⟩ = some (.int .i64 n) ∧ Below w.heap.size w w' := by
  refine (tokens_c s il w hT hs9).mono ?_
  intro e w' t
  unfold Told12 at t
  rw [h] at t
  obtain ⟨⟨g, he, h1, h2, h3, h4⟩, hB⟩ := t
  exact ⟨g, he, h1, h2, h3, h4, hB⟩
def ex1 : List (Tk × Nat) := [(⟨2, 0, 0, [120]⟩, 0), (⟨6, 0, 0, [58, 61]⟩, 2), (⟨3, 3, -5, []⟩, 5), (⟨6, 0, 0, [43]⟩, 12), (⟨3, 0, 255, []⟩, 14), (⟨6, 0, 0, [59]⟩, 27), (nul, 28)]
def ex2 : List (Tk × Nat) := [(⟨4, 11, 5400000, []⟩, 0), (⟨5, 0, 0, [37, 81, 88, 49, 46, 51]⟩, 8), (tru 1, 15), (nul, 19)]
theorem ex1_is : toks [120, 32, 58, 61, 32, 73, 78, 84, 35, 45, 53, 32, 43, 32, 49, 54, 35, 70, 70, 32, 40, 42, 32, 99, 32, 42, 41, 59] false = (ex1, none) := by kernel_rfl
theorem ex2_is : toks [84, 35, 49, 104, 51, 48, 109, 32, 37, 81, 88, 49, 46, 51, 32, 84, 82, 85, 69] true = (ex2, none) := by kernel_rfl
theorem ex3_is : (toks [97, 32, 63, 32, 98] false).2 = some (2, 120) := by kernel_rfl
theorem ex4_is : wrd [69, 78, 68, 95, 73, 70] = true := by decide
theorem ex5_is : wrd [101, 110, 100, 95, 105, 102] = false := by decide
set_option maxHeartbeats 4000000 in
set_option maxRecDepth 100000 in
theorem known_c (w : World) (hT : Tabs w) : Calls Tryd.prog 8 #[] w fun e w' => e = .returned (.bool true) ∧ Below w.heap.size w w' := by
  have A1 : Hid (∀ W, Tabs W → Calls Tryd.prog 9 #[.string ⟨#[120, 32, 58, 61, 32, 73, 78, 84, 35, 45, 53, 32, 43, 32, 49, 54, 35, 70, 70, 32, 40, 42, 32, 99, 32, 42, 41, 59]⟩, .bool false] W fun e w' => ∃ g cap, e = .returned (.tuple #[.slice (some ⟨g, 0, none⟩) 7 cap, .nilIface]) ∧ W.heap.size ≤ g ∧ g < w'.heap.size ∧ Laid w' g ex1 ∧ Below W.heap.size W w') := fun W hW => tokens_yes (s := ⟨#[120, 32, 58, 61, 32, 73, 78, 84, 35, 45, 53, 32, 43, 32, 49, 54, 35, 70, 70, 32, 40, 42, 32, 99, 32, 42, 41, 59]⟩) ex1_is (by decide) W hW
  have A2 : Hid (∀ W, Tabs W → Calls Tryd.prog 9 #[.string ⟨#[84, 35, 49, 104, 51, 48, 109, 32, 37, 81, 88, 49, 46, 51, 32, 84, 82, 85, 69]⟩, .bool true] W fun e w' => ∃ g cap, e = .returned (.tuple #[.slice (some ⟨g, 0, none⟩) 4 cap, .nilIface]) ∧ W.heap.size ≤ g ∧ g < w'.heap.size ∧ Laid w' g ex2 ∧ Below W.heap.size W w') := fun W hW => tokens_yes (s := ⟨#[84, 35, 49, 104, 51, 48, 109, 32, 37, 81, 88, 49, 46, 51, 32, 84, 82, 85, 69]⟩) ex2_is (by decide) W hW
  have A3 : Hid (∀ W, Tabs W → Calls Tryd.prog 9 #[.string ⟨#[97, 32, 63, 32, 98]⟩, .bool false] W fun e w' => ∃ g, e = .returned (.tuple #[.slice none 0 0, .iface 47 (.pointer (some ⟨g, 0, none⟩))]) ∧ W.heap.size ≤ g ∧ g < w'.heap.size ∧ w'.cell? ⟨g, 0, none⟩ = some (.int .i64 ((2 : Nat) : Int)) ∧ w'.cell? ⟨g, 1, none⟩ = some (.int .i64 ((120 : Nat) : Int)) ∧ Below W.heap.size W w') := fun W hW => tokens_no (s := ⟨#[97, 32, 63, 32, 98]⟩) ex3_is (by decide) W hW
  have B1 : Hid (∀ W, Tabs W → Calls Tryd.prog 11 #[.string ⟨#[69, 78, 68, 95, 73, 70]⟩] W fun e w' => e = .returned (.bool true) ∧ w' = W) := fun W hW => by have h := Word_c ⟨#[69, 78, 68, 95, 73, 70]⟩ W hW; rw [ex4_is] at h; exact h
  have B2 : Hid (∀ W, Tabs W → Calls Tryd.prog 11 #[.string ⟨#[101, 110, 100, 95, 105, 102]⟩] W fun e w' => e = .returned (.bool false) ∧ w' = W) := fun W hW => by have h := Word_c ⟨#[101, 110, 100, 95, 105, 102]⟩ W hW; rw [ex5_is] at h; exact h
  have TE : Hid (∀ W g, Tabs W → W.cell? ⟨g, 0, none⟩ = some (.int .i64 ((2 : Nat) : Int)) → W.cell? ⟨g, 1, none⟩ = some (.int .i64 ((120 : Nat) : Int)) → Calls Tryd.prog 16 #[.iface 47 (.pointer (some ⟨g, 0, none⟩))] W fun e w' => e = .returned (.tuple #[.int .i64 2, .int .i64 120]) ∧ Below W.heap.size W w') := fun W g hW h0 h1 => told_err g 2 120 W hW h0 h1
  have hT0 := hid_as hT
  go_enter Tryd.func8, Tryd.ntmps8
  go_upto_region 2 with (go_at_call 9; (with_reducible refine (A1.out _ hT0.out).mono ?_); rintro e w1 ⟨g1, p1, rfl, z1, y1, l1, b1⟩)
  have hT1 := hid_as (hT0.out.below b1)
  have HB1 := hid_as b1
  have k0 : w1.cell? ⟨g1, 3, none⟩ = some (.string ⟨#[120]⟩) := l1 3 _ rfl
  have k1 : w1.cell? ⟨g1, 8, none⟩ = some (.string ⟨#[58, 61]⟩) := l1 8 _ rfl
  have k2 : w1.cell? ⟨g1, 11, none⟩ = some (.int .i64 3) := l1 11 _ rfl
  have k3 : w1.cell? ⟨g1, 12, none⟩ = some (.int .i64 (-5)) := l1 12 _ rfl
  have k4 : w1.cell? ⟨g1, 22, none⟩ = some (.int .i64 255) := l1 22 _ rfl
  have k5 : w1.cell? ⟨g1, 30, none⟩ = some (.int .i64 0) := l1 30 _ rfl
  clear A1 l1 b1
  go_upto_region 7 with (first
    | (go_at_call 9; (first
        | ((with_reducible refine (A2.out _ hT1.out).mono ?_); rintro e w2 ⟨g2, p2, rfl, z2, y2, l2, b2⟩; have hT2 := hid_as (hT1.out.below b2); have HB2 := hid_as (below_and HB1.out b2))
        | ((with_reducible refine (A3.out _ hT2.out).mono ?_); rintro e w3 ⟨g3, rfl, z3, y3, d0, d1, b3⟩; have hT3 := hid_as (hT2.out.below b3); have HB3 := hid_as (below_and HB2.out b3))))
    | (go_at_call 16; (with_reducible refine (TE.out _ _ hT3.out d0 d1).mono ?_); rintro e w4 ⟨rfl, b4⟩; have hT4 := hid_as (hT3.out.below b4); have HB4 := hid_as (below_and HB3.out b4)))
  have l4 := (l2.below y2 b3).below (Nat.lt_of_lt_of_le y2 b3.size) b4
  have m0 : w4.cell? ⟨g2, 2, none⟩ = some (.int .i64 5400000) := l4 2 _ rfl
  have m1 : w4.cell? ⟨g2, 8, none⟩ = some (.string ⟨#[37, 81, 88, 49, 46, 51]⟩) := l4 8 _ rfl
  have m2 : w4.cell? ⟨g2, 12, none⟩ = some (.int .i64 1) := l4 12 _ rfl
  clear l4 l2 b2 b3 b4 A2 A3 TE d0 d1 k0 k1 k2 k3 k4 k5
  go_wp2_with (go_at_call 11; (first | (with_reducible refine (B1.out _ hT4.out).mono ?_) | (with_reducible refine (B2.out _ hT4.out).mono ?_)); rintro e w' ⟨rfl, hw⟩; subst w')
  go_ret
  exact ⟨rfl, HB4.out⟩
end Go.Proofs.YtnponognncdkcaaDoor
