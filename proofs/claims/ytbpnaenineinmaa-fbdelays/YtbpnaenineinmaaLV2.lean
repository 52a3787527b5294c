/- Rows that grow side by side (stage 17). -/
import Derived.Test.YtbpnaenineinmaaLV1
import Derived.Maps.AppendAt
namespace Go.Proofs.Ytbpnaenineinmaa
open Go.RowKit
open Fb
theorem own_cells {w : World} {base n g : Nat} {e : TypeId} {v : Value} {vs : List Value} (h : w.ownsRow base e 1 v n vs) (hv : v.ownBlock = some g) : ∃ cur, w.heap[g]? = some (.cells cur e (0, 0)) := by
  rcases h.2 with ⟨rfl, _⟩ | ⟨g', cap, cur, rfl, _, hg, _⟩
  · simp [Value.ownBlock] at hv
  · simp [Value.ownBlock] at hv
    subst hv
    exact ⟨_, hg⟩
theorem own_apart {w : World} {b1 b2 n m : Nat} {u v : Value} {vs us : List Value} (h : w.ownsRow b1 22 1 v n vs) (k : w.ownsRow b2 2 1 u m us) : ∀ g, u.ownBlock = some g → v.ownBlock ≠ some g := by
  intro g h1 h2
  obtain ⟨c1, e1⟩ := own_cells h h2
  obtain ⟨c2, e2⟩ := own_cells k h1
  have := e1.symm.trans e2
  simp only [Option.some.injEq, Obj.cells.injEq] at this
  exact types_ne.2.1 this.2.1.symm
theorem own_grown {w u : World} {base n : Nat} {e : TypeId} {v : Value} {vs : List Value} {q : Option Nat} (h : w.ownsRow base e 1 v n vs) (k : w.grownBy u q) (hne : ∀ g, v.ownBlock = some g → q ≠ some g) : u.ownsRow base e 1 v n vs := by
  refine ⟨h.1, ?_⟩
  rcases h.2 with h' | ⟨g, cap, cur, rfl, hb, hg, r⟩
  · exact Or.inl h'
  · exact Or.inr ⟨g, cap, cur, rfl, hb, (k.block g (Array.getElem?_eq_some_iff.1 hg).1 (fun e => hne g rfl e.symm)).trans hg, r⟩
/-- A row of rows l, and two rows of numbers, apart from all others. -/
structure Gw (base : Nat) (wr : World) (l a b : Value) (j : Nat) (L : Nat → List Int) (A B : List Int) : Prop where
  rl : ∃ vs, wr.ownsRow base 22 1 l j vs ∧ ∀ i, i < j → ∃ g, vs[i]? = some (.slice (some ⟨g, 0, none⟩) (L i).length (L i).length) ∧ Row64 wr g (L i) ∧ a.ownBlock ≠ some g ∧ b.ownBlock ≠ some g
  ra : wr.ownsRow base 2 1 a A.length (i64s A)
  rb : wr.ownsRow base 2 1 b B.length (i64s B)
  ab : ∀ g, a.ownBlock = some g → b.ownBlock ≠ some g
  bz : base ≤ wr.heap.size
theorem Gw.start (w : World) (L : Nat → List Int) : Gw w.heap.size w (.slice none 0 0) (.slice none 0 0) (.slice none 0 0) 0 L [] [] :=
  ⟨⟨[], World.ownsRow_nil .., fun i h => by omega⟩, World.ownsRow_nil .., World.ownsRow_nil .., fun g h => by simp [Value.ownBlock] at h, Nat.le_refl _⟩
theorem Gw.below {base : Nat} {wr u : World} {l a b : Value} {j : Nat} {L : Nat → List Int} {A B : List Int} (h : Gw base wr l a b j L A B) (k : Below wr.heap.size wr u) : Gw base u l a b j L A B := by
  obtain ⟨vs, h1, h2⟩ := h.rl
  refine ⟨⟨vs, own_below h1 k (Nat.le_refl _), fun i hi => ?_⟩, own_below h.ra k (Nat.le_refl _), own_below h.rb k (Nat.le_refl _), h.ab, Nat.le_trans h.bz k.size⟩
  obtain ⟨g, e, r, n1, n2⟩ := h2 i hi
  exact ⟨g, e, row_below r k, n1, n2⟩
theorem Gw.rows {base : Nat} {wr : World} {l a b : Value} {j : Nat} {L : Nat → List Int} {A B : List Int} (h : Gw base wr l a b j L A B) : Rows2 wr base l j L := by
  obtain ⟨vs, h1, h2⟩ := h.rl
  refine ⟨vs, h1, fun i hi => ?_⟩
  obtain ⟨g, e, r, _⟩ := h2 i hi
  exact ⟨g, e, r⟩
theorem Gw.new {base : Nat} {wr : World} {l a b : Value} {j : Nat} {L : Nat → List Int} {A B : List Int} (h : Gw base wr l a b j L A B) : a.ownBlock ≠ some wr.heap.size ∧ b.ownBlock ≠ some wr.heap.size :=
  ⟨fun e => by have := (h.ra.lt _ e).2; omega, fun e => by have := (h.rb.lt _ e).2; omega⟩
/-- One row more. -/
theorem Gw.pushL {base g : Nat} {w : World} {l a b : Value} {j : Nat} {L : Nat → List Int} {A B : List Int} (h : Gw base w l a b j L A B) (hn : j ≤ 10000) (r : Row64 w g (L j)) (n1 : a.ownBlock ≠ some g) (n2 : b.ownBlock ≠ some g) :
    ∃ l' w', (Builtin.append_ #[35, 35] 35 #[l, .slice (some ⟨w.heap.size, 0, none⟩) 1 1]).run Try.prog (w.alloc (.cells #[.slice (some ⟨g, 0, none⟩) (L j).length (L j).length] 22)) = .ok l' w' ∧ Gw base w' l' a b (j + 1) L A B ∧ Below base w w' := by
  obtain ⟨vs, h1, h2⟩ := h.rl
  obtain ⟨i0, hi, hz0, hz1, hz2⟩ := info_parts Try.infoS
  have k0 := below_new (Below.refl _ w) (.cells #[.slice (some ⟨g, 0, none⟩) (L j).length (L j).length] 22)
  have h0 := h.below k0
  have h1' := own_below h1 k0 (Nat.le_refl _)
  have hl : vs.length = j := by simpa using h1.1
  have hbz := h.bz
  obtain ⟨v', w', e1, e2, e3⟩ := run_append_sl (P := Try.prog) (w := w.alloc (.cells #[.slice (some ⟨g, 0, none⟩) (L j).length (L j).length] 22)) base 35 35 22 i0 (.slice none 0 0) 24 Try.underlying35 hi hz0 hz1 hz2 rfl l j vs h1' (.slice (some ⟨w.heap.size, 0, none⟩) 1 1) [.slice (some ⟨g, 0, none⟩) (L j).length (L j).length]
    (Or.inr ⟨w.heap.size, 0, 1, rfl, Nat.le_refl _, fun k u hk => by match k, hk with | 0, hk => simp at hk; subst hk; simp⟩) (by intro u hu; simp at hu; subst hu; rfl) (by unfold maxLen; simp; omega) (by simp; omega) (by simp; omega)
  have kp : Keeps w w' := (Keeps.below k0).trans (Keeps.grown h1' e3)
  have kb : Below base w w' := (k0.mono h.bz).trans ((Below.refl base _).grown e3 (by simp; omega) (fun g hg => (h1'.lt g hg).1))
  refine ⟨v', w', e1, ⟨⟨_, e2, fun i hi' => ?_⟩, own_grown h0.ra e3 (own_apart h1' h0.ra), own_grown h0.rb e3 (own_apart h1' h0.rb), h.ab, Nat.le_trans h.bz kb.size⟩, kb⟩
  by_cases hin : i < j
  · obtain ⟨b', e, r', m1, m2⟩ := h2 i hin
    exact ⟨b', by rw [List.getElem?_append_left (by omega)]; exact e, kp _ _ r', m1, m2⟩
  · obtain rfl : i = j := by omega
    exact ⟨g, by rw [List.getElem?_append_right (by omega), hl]; simp, kp _ _ r, n1, n2⟩
/-- One number more in a. -/
theorem Gw.pushA {base : Nat} {w : World} {l a b : Value} {j : Nat} {L : Nat → List Int} {A B : List Int} (h : Gw base w l a b j L A B) (x : Int) (hn : A.length ≤ 10000) :
    ∃ a' w', (Builtin.append_ #[22, 22] 22 #[a, .slice (some ⟨w.heap.size, 0, none⟩) 1 1]).run Try.prog (w.alloc (.cells #[.int .i64 x] 2)) = .ok a' w' ∧ Gw base w' l a' b j L (A ++ [x]) B ∧ Below base w w' := by
  obtain ⟨vs, h1, h2⟩ := h.rl
  obtain ⟨i0, hi, hz0, hz1, hz2⟩ := info_parts Try.info64
  have k0 := below_new (Below.refl _ w) (.cells #[.int .i64 x] 2)
  have h0 := h.below k0
  have h1' := own_below h1 k0 (Nat.le_refl _)
  have hbz := h.bz
  obtain ⟨v', w', e1, e2, e3, _, e5⟩ := run_append_own_at (P := Try.prog) (w := w.alloc (.cells #[.int .i64 x] 2)) base 22 22 2 i0 (.int .i64 0) 1 8 Try.underlying22 hi hz0 hz1 hz2 rfl (by decide) a A.length (i64s A) h0.ra ⟨w.heap.size, 0, none⟩ 1 1 [.int .i64 x] rfl (one_cell w _ _) (one_int _ _) (by unfold maxLen; omega) (by omega) (by simp; omega)
  have sz : (w.alloc (.cells #[.int .i64 x] 2)).heap.size = w.heap.size + 1 := World.size_alloc ..
  have kb : Below base w w' := (k0.mono h.bz).trans ((Below.refl base _).grown e3 (by simp; omega) (fun g hg => (h0.ra.lt g hg).1))
  have keep : ∀ g l, Row64 w g l → a.ownBlock ≠ some g → Row64 w' g l := fun g l r hne => (e3.block g (by rw [sz]; have := row_lt r; omega) (fun e => hne e.symm)).trans (row_below r k0)
  have far : ∀ g, g < w.heap.size → a.ownBlock ≠ some g → v'.ownBlock ≠ some g := fun g hg hne e => by
    rcases e5 with q | q
    · exact hne (q ▸ e)
    · rw [sz] at q
      rw [q] at e
      simp at e
      omega
  refine ⟨v', w', e1, ⟨⟨vs, own_grown h1' e3 (fun g hg e => own_apart h1' h0.ra g e hg), fun i hi' => ?_⟩, (by rw [List.length_append, show i64s (A ++ [x]) = i64s A ++ [.int .i64 x] by simp [i64s]]; exact e2), own_grown h0.rb e3 (fun g hg => fun e => h.ab g e hg), (fun g hg e => far g (h.rb.lt g e).2 (fun q => h.ab g q e) hg), Nat.le_trans h.bz kb.size⟩, kb⟩
  obtain ⟨b', e, r', m1, m2⟩ := h2 i hi'
  exact ⟨b', e, keep _ _ r' m1, far _ (row_lt r') m1, m2⟩
/-- One number more in b. -/
theorem Gw.pushB {base : Nat} {w : World} {l a b : Value} {j : Nat} {L : Nat → List Int} {A B : List Int} (h : Gw base w l a b j L A B) (x : Int) (hn : B.length ≤ 10000) :
    ∃ a' w', (Builtin.append_ #[22, 22] 22 #[b, .slice (some ⟨w.heap.size, 0, none⟩) 1 1]).run Try.prog (w.alloc (.cells #[.int .i64 x] 2)) = .ok a' w' ∧ Gw base w' l a a' j L A (B ++ [x]) ∧ Below base w w' := by
  obtain ⟨vs, h1, h2⟩ := h.rl
  obtain ⟨i0, hi, hz0, hz1, hz2⟩ := info_parts Try.info64
  have k0 := below_new (Below.refl _ w) (.cells #[.int .i64 x] 2)
  have h0 := h.below k0
  have h1' := own_below h1 k0 (Nat.le_refl _)
  have hbz := h.bz
  obtain ⟨v', w', e1, e2, e3, _, e5⟩ := run_append_own_at (P := Try.prog) (w := w.alloc (.cells #[.int .i64 x] 2)) base 22 22 2 i0 (.int .i64 0) 1 8 Try.underlying22 hi hz0 hz1 hz2 rfl (by decide) b B.length (i64s B) h0.rb ⟨w.heap.size, 0, none⟩ 1 1 [.int .i64 x] rfl (one_cell w _ _) (one_int _ _) (by unfold maxLen; omega) (by omega) (by simp; omega)
  have sz : (w.alloc (.cells #[.int .i64 x] 2)).heap.size = w.heap.size + 1 := World.size_alloc ..
  have kb : Below base w w' := (k0.mono h.bz).trans ((Below.refl base _).grown e3 (by simp; omega) (fun g hg => (h0.rb.lt g hg).1))
  have keep : ∀ g l, Row64 w g l → b.ownBlock ≠ some g → Row64 w' g l := fun g l r hne => (e3.block g (by rw [sz]; have := row_lt r; omega) (fun e => hne e.symm)).trans (row_below r k0)
  have far : ∀ g, g < w.heap.size → b.ownBlock ≠ some g → v'.ownBlock ≠ some g := fun g hg hne e => by
    rcases e5 with q | q
    · exact hne (q ▸ e)
    · rw [sz] at q
      rw [q] at e
      simp at e
      omega
  refine ⟨v', w', e1, ⟨⟨vs, own_grown h1' e3 (fun g hg e => own_apart h1' h0.rb g e hg), fun i hi' => ?_⟩, own_grown h0.ra e3 (fun g hg => h.ab g hg), (by rw [List.length_append, show i64s (B ++ [x]) = i64s B ++ [.int .i64 x] by simp [i64s]]; exact e2), (fun g hg => far g (h.ra.lt g hg).2 (fun q => h.ab g hg q)), Nat.le_trans h.bz kb.size⟩, kb⟩
  obtain ⟨b', e, r', m1, m2⟩ := h2 i hi'
  exact ⟨b', e, keep _ _ r' m2, m1, far _ (row_lt r') m2⟩
end Go.Proofs.Ytbpnaenineinmaa
