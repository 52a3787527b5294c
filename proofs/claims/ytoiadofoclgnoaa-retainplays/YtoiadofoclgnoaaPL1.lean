/- What RetainPlays holds from step to step (stage 9). -/
import Derived.Test.YtoiadofoclgnoaaL1
namespace Go.Proofs.Ytoiadofoclgnoaa
open Go.RowKit
open Pdu
/-- A step of a script. -/
structure Stp where
  a : Int
  b : Int
  c : Int
def StepAt (W : World) (lb lo i : Nat) (x : Stp) : Prop := W.cell? ⟨lb, lo + i * 3, none⟩ = some (.int .i64 x.a) ∧ W.cell? ⟨lb, lo + i * 3 + 1, none⟩ = some (.int .i64 x.b) ∧ W.cell? ⟨lb, lo + i * 3 + 2, none⟩ = some (.int .i64 x.c)
theorem StepAt.keep {w W : World} {lb lo i : Nat} {x : Stp} (h : StepAt w lb lo i x) (k : Below w.heap.size w W) : StepAt W lb lo i x := ⟨keep_cell k h.1, keep_cell k h.2.1, keep_cell k h.2.2⟩
/-- A list in memory that no call turns. -/
structure Kv (W : World) (v : Value) (n : Nat) (l : List Int) (S : List Nat) : Prop where
  own : W.ownsRow 0 2 1 v n (i64s l)
  ne : ∀ b, v.ownBlock = some b → b ∉ S
theorem Kv.below {W W' : World} {v : Value} {n : Nat} {l : List Int} {S : List Nat} (h : Kv W v n l S) (k : Below W.heap.size W W') : Kv W' v n l S := ⟨own64_below h.own k, h.ne⟩
theorem own64_only {w u : World} {base n : Nat} {v : Value} {vs : List Value} {S : List Nat} (h : w.ownsRow base 2 1 v n vs) (k : Only S w u) (hS : ∀ b, v.ownBlock = some b → b ∉ S) : u.ownsRow base 2 1 v n vs := by
  refine ⟨h.1, ?_⟩
  rcases h.2 with h' | ⟨g, cap, cur, rfl, hb, hg, r⟩
  · exact Or.inl h'
  · exact Or.inr ⟨g, cap, cur, rfl, hb, (k.block g (h.lt g rfl).2 (hS g rfl)).trans hg, r⟩
theorem Kv.only {W W' : World} {v : Value} {n : Nat} {l : List Int} {S : List Nat} (h : Kv W v n l S) (k : Only S W W') : Kv W' v n l S := ⟨own64_only h.own k h.ne, h.ne⟩
theorem Kv.newj {W W' : World} {v : Value} {n gj gk g h : Nat} {l : List Int} (q : Kv W v n l [gj, g, h]) (k : Below W.heap.size W W') (hk : W.heap.size ≤ gk) : Kv W' v n l [gk, g, h] := by
  refine ⟨own64_below q.own k, fun b hb hm => ?_⟩
  have h1 := (q.own.lt b hb).2
  have h2 := q.ne b hb
  simp only [List.mem_cons, List.not_mem_nil, or_false] at hm h2
  omega
theorem Kv.ofNew {W : World} {B : Nat} {v : Value} {n gj g h : Nat} {l : List Int} (own : W.ownsRow B 2 1 v n (i64s l)) (h1 : gj < B) (h2 : g < B) (h3 : h < B) : Kv W v n l [gj, g, h] := ⟨own_base own (Nat.zero_le _), not3 own h1 h2 h3⟩
def scn (o : Last) : Nat := match o with
  | none => 0
  | some x => x.1
def isl (o : Last) : Bool := match o with
  | none => false
  | some _ => true
structure PlR (w W : World) (gj g h n k : Nat) (o : Last) (vl : Value) (ct : Nat) : Prop where
  ex : ∃ (J : JS) (s : SS), Hj w W gj g h J s n k o ∧ s.lft < 0 ∧ J.laid = ct
  own : ∀ x, o = some x → Kv W vl n x.2 [gj, g, h]
  sc : scn o ≤ k
theorem Hj.rise {w W : World} {gj g h : Nat} {J : JS} {s : SS} {n T : Nat} {o : Last} (H : Hj w W gj g h J s n T o) {T' : Nat} (hT : T ≤ T') : Hj w W gj g h J s n T' o := by
  refine ⟨H.jr, H.k, H.j0, H.g0, H.h0, ⟨H.sg.fit, H.sg.ivr.rise hT, H.sg.ok, H.sg.room, H.sg.n9, by have := H.sg.sn; omega⟩, H.dead, H.jn, fun q => ?_, by have := H.ld; omega⟩
  have := H.set q
  cases o with
  | none => exact this
  | some x => exact ⟨this.1.rise hT, this.2⟩
theorem PlR.below {w W W' : World} {gj g h n k ct : Nat} {o : Last} {vl : Value} (q : PlR w W gj g h n k o vl ct) (b : Below W.heap.size W W') : PlR w W' gj g h n k o vl ct := by
  obtain ⟨J, s, hj, hl, hc⟩ := q.ex
  exact ⟨⟨J, s, hj.below b, hl, hc⟩, fun x hx => (q.own x hx).below b, q.sc⟩
theorem PlR.rise {w W : World} {gj g h n k ct : Nat} {o : Last} {vl : Value} (q : PlR w W gj g h n k o vl ct) : PlR w W gj g h n (k + 1) o vl ct := by
  obtain ⟨J, s, hj, hl, hc⟩ := q.ex
  exact ⟨⟨J, s, hj.rise (by omega), hl, hc⟩, q.own, by have := q.sc; omega⟩
/-- Behind an opening. -/
theorem PlR.opened {w W W' : World} {gj gk g h n k : Nat} {J : JS} {s : SS} {o : Last} {vl v : Value} {f : Int} (op : Opn w W W' gk g h J s n k o v f) (own : ∀ x, o = some x → Kv W vl n x.2 [gj, g, h]) (hl : s.lft < 0) (hs : scn o ≤ k) : PlR w W' gk g h n k o vl 0 :=
  ⟨⟨J, s, op.hj, hl, op.laid⟩, fun x hx => (own x hx).newj op.b op.j1, hs⟩
theorem own_ne_j {W : World} {B n gj g : Nat} {v : Value} {vs : List Value} {J : JS} (own : W.ownsRow B 2 1 v n vs) (q : Jn W gj g J) : ∀ b, v.ownBlock = some b → b ≠ gj := by
  intro b hb e
  subst e
  rcases own.2 with ⟨rfl, _⟩ | ⟨g', cap, cur, rfl, _, hg, _⟩
  · cases hb
  · have : g' = b := by simpa [Value.ownBlock] using hb
    subst this
    have hq := q.box
    rw [hg] at hq
    simp at hq
/-- Numbers that are overwritten. -/
structure InR (B g n : Nat) (W0 wr : World) : Prop where
  k : Below B W0 wr
  fz : ∀ j, wr.frozen? ⟨g, j, none⟩ = false
  cl : ∀ j, j < n → ∃ x : Int, wr.cell? ⟨g, j, none⟩ = some (.int .i64 x)
theorem InR.stp {B g n q : Nat} {W0 wr : World} {y : Int} (h : InR B g n W0 wr) (hq : q < n) (hB : B ≤ g) (hB2 : B ≤ W0.heap.size) : InR B g n W0 (wr.setCell ⟨g, q, none⟩ (.int .i64 y)) := by
  refine ⟨h.k.trans (((Turn.refl g wr).set q _).below hB (Nat.le_trans hB2 h.k.size)), fun j => by rw [World.frozen?_setCell]; exact h.fz j, fun j hj => ?_⟩
  by_cases e : j = q
  · subst e
    obtain ⟨x, hx⟩ := h.cl j hj
    exact ⟨y, World.cell?_setCell_same _ _ _ hx⟩
  · obtain ⟨x, hx⟩ := h.cl j hj
    exact ⟨x, set_else hx e⟩
theorem InR.first {W0 : World} {B g n c : Nat} {l : List Int} (own : W0.ownsRow B 2 1 (.slice (some ⟨g, 0, none⟩) n c) n (i64s l)) (hl : l.length = n) : InR B g n W0 W0 := by
  rcases own.2 with ⟨e, _⟩ | ⟨g', cap, cur, e, hb, hg, _⟩
  · cases e
  · simp only [Value.slice.injEq, Option.some.injEq, Addr.mk.injEq] at e
    obtain ⟨⟨rfl, _, _⟩, _, _⟩ := e
    refine ⟨Below.refl _ _, fun j => by simp [World.frozen?, hg], fun j hj => ⟨l.getD j 0, ?_⟩⟩
    have := own.cells (g := g) rfl j _ (i64s_at l j (by omega))
    rwa [show (⟨g, 0, none⟩ : Addr).add j = ⟨g, j, none⟩ by unfold Addr.add; split <;> simp_all] at this
theorem own_shape {W : World} {B n : Nat} {v : Value} {l : List Int} (own : W.ownsRow B 2 1 v n (i64s l)) : (v = .slice none 0 0 ∧ n = 0) ∨ ∃ g c, v = .slice (some ⟨g, 0, none⟩) n c ∧ B ≤ g := by
  rcases own.2 with ⟨e, h⟩ | ⟨g', cap, cur, e, hb, _⟩
  · exact Or.inl ⟨e, h⟩
  · exact Or.inr ⟨g', cap, e, hb⟩
end Go.Proofs.Ytoiadofoclgnoaa
