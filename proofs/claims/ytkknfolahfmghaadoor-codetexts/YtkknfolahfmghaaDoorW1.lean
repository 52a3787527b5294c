/- The ways in memory: what was come to, what is waiting; fail, effect (stage 20). -/
import Derived.Test.YtkknfolahfmghaaDoorCB
import Derived.Test.YtkknfolahfmghaaDoorMP
import Derived.Maps.AppendAt
namespace Go.Proofs.YtkknfolahfmghaaDoor
open Go.RowKit
open Fb Cod
def prs (T : List (Nat × Nat)) : List Value := T.flatMap fun q => [.int .i64 (q.1 : Int), .int .i64 (q.2 : Int)]
theorem prs_len (T : List (Nat × Nat)) : (prs T).length = T.length * 2 := by
  induction T with
  | nil => rfl
  | cons a T ih => simp only [prs, List.flatMap_cons, List.length_append, List.length_cons, List.length_nil] at *; omega
theorem prs_app (a b : List (Nat × Nat)) : prs (a ++ b) = prs a ++ prs b := by simp [prs]
/-- A meeting: the first depth, all depths in five words of bits. -/
def mv (f : Nat) (u : Nat → Nat) : Value := .agg #[.int .i64 (f : Int), .int .u64 (u 0 : Nat), .int .u64 (u 1 : Nat), .int .u64 (u 2 : Nat), .int .u64 (u 3 : Nat), .int .u64 (u 4 : Nat)]
structure Meet (S : List (Nat × Nat)) (wr i f : Nat) (u : Nat → Nat) : Prop where
  f6 : f ≤ 256
  fm : (i, f) ∈ S
  sm : ∀ q, u q < 18446744073709551616
  bit : ∀ d, d ≤ 256 → ((u (d / 64)).testBit (d % 64) = true ↔ (i, d) ∈ S)
  two : ∀ d, (i, d) ∈ S → d ≠ f → wr ≤ i
def Met (F : Nat → Option Value) (S : List (Nat × Nat)) (wr : Nat) : Prop := ∀ i, (F i = none ∧ ∀ d, (i, d) ∉ S) ∨ ∃ f u, F i = some (mv f u) ∧ Meet S wr i f u
theorem Met.two {F : Nat → Option Value} {S : List (Nat × Nat)} {wr : Nat} (h : Met F S wr) : Two S wr := by
  intro i d e hd he hne
  rcases h i with ⟨_, h⟩ | ⟨f, u, _, h⟩
  · exact absurd hd (h d)
  · by_cases hf : d = f
    · subst hf; exact h.two e he (fun q => hne q.symm)
    · exact h.two d hd hf
theorem Met.le {F : Nat → Option Value} {S : List (Nat × Nat)} {wr wr' : Nat} (h : Met F S wr) (hl : wr' ≤ wr) : Met F S wr' := by
  intro i
  rcases h i with h | ⟨f, u, h1, h⟩
  · exact Or.inl h
  · exact Or.inr ⟨f, u, h1, h.f6, h.fm, h.sm, h.bit, fun d hd hne => Nat.le_trans hl (h.two d hd hne)⟩
/-- The going through code, in block g; its map in block m. -/
structure Wy (B : Nat) (w : World) (g m : Nat) (lv wv : Value) (S T : List (Nat × Nat)) (wr : Nat) : Prop where
  row : w.heap[g]? = some (.cells [lv, .map (some m), wv, .int .i64 (wr : Int)].toArray 93 (0, 0))
  own : w.ownsRow B 95 2 wv T.length (prs T)
  map : ∃ F, MapAt w m F ∧ Met F S wr
  gB : B ≤ g
  mB : B ≤ m
  gm : g ≠ m
  wg : ∀ h, wv.ownBlock = some h → h ≠ g ∧ h ≠ m
theorem row_lt {w : World} {g : Nat} {o : Obj} (h : w.heap[g]? = some o) : g < w.heap.size := (Array.getElem?_eq_some_iff.1 h).1
theorem Wy.glt {B : Nat} {w : World} {g m : Nat} {lv wv : Value} {S T : List (Nat × Nat)} {wr : Nat} (h : Wy B w g m lv wv S T wr) : g < w.heap.size := row_lt h.row
theorem Wy.below {B : Nat} {w u : World} {g m : Nat} {lv wv : Value} {S T : List (Nat × Nat)} {wr : Nat} (h : Wy B w g m lv wv S T wr) (k : Below w.heap.size w u) : Wy B u g m lv wv S T wr := by
  obtain ⟨F, h1, h2⟩ := h.map
  refine ⟨(k.block g h.glt).trans h.row, ⟨h.own.1, ?_⟩, ⟨F, h1.below k, h2⟩, h.gB, h.mB, h.gm, h.wg⟩
  rcases h.own.2 with h' | ⟨b, cap, cur, e, hb, hg, r⟩
  · exact Or.inl h'
  · exact Or.inr ⟨b, cap, cur, e, hb, (k.block b (row_lt hg)).trans hg, r⟩
theorem Wy.same {B : Nat} {w u : World} {g m : Nat} {lv wv : Value} {S T : List (Nat × Nat)} {wr : Nat} (h : Wy B w g m lv wv S T wr) (k : Same w u) : Wy B u g m lv wv S T wr := h.below k.below
theorem Wy.c0 {B : Nat} {w : World} {g m : Nat} {lv wv : Value} {S T : List (Nat × Nat)} {wr : Nat} (h : Wy B w g m lv wv S T wr) : w.cell? ⟨g, 0, none⟩ = some lv := cell_row (k := 0) h.row rfl
theorem Wy.c1 {B : Nat} {w : World} {g m : Nat} {lv wv : Value} {S T : List (Nat × Nat)} {wr : Nat} (h : Wy B w g m lv wv S T wr) : w.cell? ⟨g, 1, none⟩ = some (.map (some m)) := cell_row (k := 1) h.row rfl
theorem Wy.c2 {B : Nat} {w : World} {g m : Nat} {lv wv : Value} {S T : List (Nat × Nat)} {wr : Nat} (h : Wy B w g m lv wv S T wr) : w.cell? ⟨g, 2, none⟩ = some wv := cell_row (k := 2) h.row rfl
theorem Wy.c3 {B : Nat} {w : World} {g m : Nat} {lv wv : Value} {S T : List (Nat × Nat)} {wr : Nat} (h : Wy B w g m lv wv S T wr) : w.cell? ⟨g, 3, none⟩ = some (.int .i64 (wr : Int)) := cell_row (k := 3) h.row rfl
theorem Wy.fz {B : Nat} {w : World} {g m : Nat} {lv wv : Value} {S T : List (Nat × Nat)} {wr : Nat} (h : Wy B w g m lv wv S T wr) (k : Nat) : w.frozen? ⟨g, k, none⟩ = false := frozen_row h.row
/-- The number that is wrong is set. -/
theorem Wy.setW {B : Nat} {w : World} {g m : Nat} {lv wv : Value} {S T : List (Nat × Nat)} {wr : Nat} (h : Wy B w g m lv wv S T wr) (n : Nat) (hn : n ≤ wr) : Wy B (w.setCell ⟨g, 3, none⟩ (.int .i64 (n : Int))) g m lv wv S T n := by
  obtain ⟨F, h1, h2⟩ := h.map
  have t : Turn g w (w.setCell ⟨g, 3, none⟩ (.int .i64 (n : Int))) := (Turn.refl g w).set 3 _
  refine ⟨set_row h.row _, h.own.kept t ?_, ⟨F, h1.turn t (fun e => h.gm e.symm), h2.le hn⟩, h.gB, h.mB, h.gm, h.wg⟩
  cases hb : wv.ownBlock with
  | none => exact Or.inl rfl
  | some b => exact Or.inr (fun e => (h.wg b hb).1 (by simpa using e))
theorem min_is (a b : Nat) : (if ((b : Int) < (a : Int)) then (b : Int) else a) = ((min a b : Nat) : Int) := by
  split <;> omega
theorem fail_c {B : Nat} {w : World} {g m : Nat} {lv wv : Value} {S T : List (Nat × Nat)} {wr : Nat} (i : Nat) (h : Wy B w g m lv wv S T wr) :
    Calls Tryd.prog 58 #[.pointer (some ⟨g, 0, none⟩), .int .i64 (i : Int)] w fun e w' => e = .returned (.tuple #[]) ∧ Wy B w' g m lv wv S T (min wr i) ∧ Turn g w w' := by
  have c3 := h.c3
  have f3 := h.fz 3
  by_cases hi : i < wr
  · have hi2 : (i : Int) < (wr : Int) := by omega
    have R : Hid (Wy B (w.setCell ⟨g, 3, none⟩ (.int .i64 (i : Int))) g m lv wv S T (min wr i) ∧ Turn g w (w.setCell ⟨g, 3, none⟩ (.int .i64 (i : Int)))) := by
      rw [Nat.min_eq_right (Nat.le_of_lt hi)]
      exact ⟨h.setW i (Nat.le_of_lt hi), (Turn.refl g w).set 3 _⟩
    clear h
    go_enter Tryd.func58, Tryd.ntmps58
    go_wp2
    go_end0
    exact ⟨rfl, R.out⟩
  · have hi2 : ¬ (i : Int) < (wr : Int) := by omega
    have R : Hid (Wy B (w.setCell ⟨g, 3, none⟩ (.int .i64 (wr : Int))) g m lv wv S T (min wr i) ∧ Turn g w (w.setCell ⟨g, 3, none⟩ (.int .i64 (wr : Int)))) := by
      rw [Nat.min_eq_left (by omega)]
      exact ⟨h.setW wr (Nat.le_refl _), (Turn.refl g w).set 3 _⟩
    clear h
    go_enter Tryd.func58, Tryd.ntmps58
    go_wp2
    go_end0
    exact ⟨rfl, R.out⟩
theorem tk_le (k : Nat) : tk k ≤ 3 := by
  match k with
  | 0 | 1 | 2 | 3 | 4 | 5 | 6 | 7 | 8 | 9 | 10 | 11 | 12 | 13 | 14 | 15 | 16 | 17 | 18 | 19 | 20 | 21 | 22 | 23 | 24 => decide
  | n + 25 => simp [tk]
theorem pt_le (k : Nat) : pt k ≤ 2 := by
  match k with
  | 0 | 1 | 2 | 3 | 4 | 5 | 6 | 7 | 8 | 9 | 10 | 11 | 12 | 13 | 14 | 15 | 16 | 17 | 18 | 19 | 20 | 21 | 22 | 23 | 24 => decide
  | n + 25 => simp [pt]
theorem two_new (w : World) (o p : Obj) (d : Nat) : Below w.heap.size w (((w.alloc o).alloc p).drewN d) := below_and (below_and (below_new1 w o) (below_new1 _ p)) (Same.drewN _ _).below
set_option maxHeartbeats 800000 in
theorem effect_at (k t p xt xp : Nat) (a b c : Int) (nm o : ByteArray) (w : World) (hk : k < 25)
    (c0 : (w.alloc (.cells #[.int .i64 (k : Int), .int .i64 a, .int .i64 b, .int .i64 c, .string nm] 41)).cell? ⟨1, k * 3, none⟩ = some (.string o))
    (c1 : (w.alloc (.cells #[.int .i64 (k : Int), .int .i64 a, .int .i64 b, .int .i64 c, .string nm] 41)).cell? ⟨1, k * 3 + 1, none⟩ = some (.int .i64 (t : Int)))
    (c2 : (w.alloc (.cells #[.int .i64 (k : Int), .int .i64 a, .int .i64 b, .int .i64 c, .string nm] 41)).cell? ⟨1, k * 3 + 2, none⟩ = some (.int .i64 (p : Int)))
    (h : (k = 24 ∧ t ≤ 3 ∧ p ≤ 3 ∧ 0 ≤ a ∧ a < 256 ∧ (xt : Int) = t + a ∧ (xp : Int) = p + a) ∨ (k ≠ 24 ∧ xt = t ∧ xp = p)) :
    Calls Tryd.prog 59 #[.agg #[.int .i64 (k : Int), .int .i64 a, .int .i64 b, .int .i64 c, .string nm]] w fun e w' => e = .returned (.tuple #[.int .i64 (xt : Int), .int .i64 (xp : Int)]) ∧ Below w.heap.size w w' := by
  have hk0 : (0 : Int) ≤ (k : Int) := by omega
  have hk2 : (k : Int) < 25 := by omega
  rcases h with ⟨h24, ht, hp, ha, ha2, e1, e2⟩ | ⟨h24, rfl, rfl⟩
  · have hb : ((k : Int) == 24) = true := by rw [beq_iff_eq]; omega
    have ET := hid_as e1
    have EP := hid_as e2
    clear e1 e2 h24
    go_enter Tryd.func59, Tryd.ntmps59
    go_wp2
    go_region
    go_wp2
    go_ret2
    rw [ET.out, EP.out]
    exact ⟨rfl, two_new _ _ _ _⟩
  · have hb : ((k : Int) == 24) = false := by rw [beq_eq_false_iff_ne]; omega
    clear h24
    go_enter Tryd.func59, Tryd.ntmps59
    go_wp2
    go_region
    go_wp2
    go_ret2
    exact ⟨rfl, two_new _ _ _ _⟩
theorem effect_c (x : Ins) (w : World) (hT : Tabs w) (h1 : 1 ≤ x.op) (h2 : x.op ≤ 24) (ha : x.op = 24 → 0 ≤ x.a ∧ x.a < 256) :
    Calls Tryd.prog 59 #[.agg #[.int .i64 x.op, .int .i64 x.a, .int .i64 x.b, .int .i64 x.c, .string x.name]] w fun e w' => e = .returned (.tuple #[.int .i64 (x.t : Nat), .int .i64 (x.p : Nat)]) ∧ Below w.heap.size w w' := by
  obtain ⟨op, a, b, c, nm⟩ := x
  simp only at h1 h2 ha
  obtain ⟨k, rfl⟩ : ∃ k : Nat, op = (k : Int) := ⟨op.toNat, by omega⟩
  have hk : k < 25 := by omega
  obtain ⟨c0, c1, c2⟩ := (hT.below (below_new1 w (.cells #[.int .i64 (k : Int), .int .i64 a, .int .i64 b, .int .i64 c, .string nm] 41))).at_ hk
  refine effect_at k (tk k) (pt k) _ _ a b c nm _ w hk c0 c1 c2 ?_
  by_cases h24 : k = 24
  · have h24' : (k : Int) = 24 := by omega
    have := ha h24'
    refine Or.inl ⟨h24, tk_le k, Nat.le_trans (pt_le k) (by omega), this.1, this.2, ?_, ?_⟩
    · simp only [Ins.t, more, Int.toNat_natCast]
      rw [if_pos h24']
      omega
    · simp only [Ins.p, more, Int.toNat_natCast]
      rw [if_pos h24']
      omega
  · have h24' : ¬ (k : Int) = 24 := by omega
    refine Or.inr ⟨h24, ?_, ?_⟩
    · simp only [Ins.t, more, Int.toNat_natCast]
      rw [if_neg h24']
      omega
    · simp only [Ins.p, more, Int.toNat_natCast]
      rw [if_neg h24']
      omega
end Go.Proofs.YtkknfolahfmghaaDoor
