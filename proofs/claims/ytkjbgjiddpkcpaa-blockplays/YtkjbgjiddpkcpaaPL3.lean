/- What BlockPlays holds, step by step (stage 8). -/
import Derived.Test.YtkjbgjiddpkcpaaPL2
import Derived.Test.YtkjbgjiddpkcpaaR6
namespace Go.Proofs.Ytkjbgjiddpkcpaa
open Go.RowKit
open Pdu
structure PJ (w W : World) (g h r q : Nat) (s t : SS) : Prop where
  hs : Hs w W g h s
  rf : Rf W r q h t
  r0 : w.heap.size ≤ r
  q0 : w.heap.size ≤ q
theorem PJ.below {w W W' : World} {g h r q : Nat} {s t : SS} (P : PJ w W g h r q s t) (b : Below W.heap.size W W') : PJ w W' g h r q s t := ⟨P.hs.below b, P.rf.below b, P.r0, P.q0⟩
theorem PJ.stepS {w W W' : World} {g h r q : Nat} {s s' t : SS} (P : PJ w W g h r q s t) (st : St W' g h s') (o : Only [g, h] W W') : PJ w W' g h r q s' t := ⟨P.hs.nxt st o, P.rf.only P.hs.st o, P.r0, P.q0⟩
theorem PJ.mems {w W : World} {g h r q : Nat} {s t : SS} (P : PJ w W g h r q s t) : ∀ j ∈ [r, q], w.heap.size ≤ j := by
  intro j hj
  have h1 := P.r0
  have h2 := P.q0
  simp only [List.mem_cons, List.not_mem_nil, or_false] at hj
  rcases hj with rfl | rfl <;> assumption
theorem PJ.stepR {w W W' : World} {g h r q : Nat} {s t t' : SS} (P : PJ w W g h r q s t) (rf : Rf W' r q h t') (o : Only [r, q] W W') : PJ w W' g h r q s t' :=
  ⟨⟨P.hs.st.rfk P.rf o, P.hs.k.trans (o.below P.mems P.hs.k.size), P.hs.g0, P.hs.h0⟩, rf, P.r0, P.q0⟩
/-- A row of one's own handed to a write and spoilt behind it. -/
theorem only_spoilt {S : List Nat} {w3 w4 w5 w6 : World} (k4 : Below w3.heap.size w3 w4) (o5 : Only S w4 w5) (k6 : Below w3.heap.size w5 w6) : Only S w3 w6 := by
  have h := (Only.ofBelow (S := S) k4).trans o5
  exact ⟨k6.os.trans h.os, k6.tape.trans h.tape, k6.output.trans h.output, Nat.le_trans h.size k6.size, fun j hj hne => (k6.block j hj).trans (h.block j hj hne)⟩
theorem PJ.wrote {w w3 w4 w5 w6 : World} {g h r q : Nat} {s s' t : SS} (P : PJ w w3 g h r q s t) (k4 : Below w3.heap.size w3 w4) (st5 : St w5 g h s') (o5 : Only [g, h] w4 w5) (k6 : Below w3.heap.size w5 w6) : PJ w w6 g h r q s' t :=
  P.stepS (st5.heap (k6.block g P.hs.lt.1) (k6.block h P.hs.lt.2)) (only_spoilt k4 o5 k6)
def Bx (W : World) (bx : Nat) (cs : List Value) : Prop := W.heap[bx]? = some (.cells cs.toArray 37 (0, 0))
theorem Bx.below {W W' : World} {bx : Nat} {cs : List Value} (b : Bx W bx cs) (k : Below W.heap.size W W') : Bx W' bx cs := (k.block bx (Array.getElem?_eq_some_iff.1 b).1).trans b
theorem Bx.onlyS {w W W' : World} {g h r q bx : Nat} {cs : List Value} {s t : SS} (b : Bx W bx cs) (P : PJ w W g h r q s t) (o : Only [g, h] W W') : Bx W' bx cs := by
  refine (o.block bx (Array.getElem?_eq_some_iff.1 b).1 ?_).trans b
  intro e
  unfold Bx at b
  simp only [List.mem_cons, List.not_mem_nil, or_false] at e
  rcases e with e | e
  · rw [e, P.hs.st.box] at b; simp at b
  · rw [e, P.hs.st.room] at b; simp at b
theorem sl_out {w W : World} {ao : Option Addr} {n c : Nat} {vs : List Value} (h : Sl w (.slice ao n c) vs) {S : List Nat} (hS : ∀ j ∈ S, w.heap.size ≤ j) (_k : Below w.heap.size w W) : vs ≠ [] → ∀ a, ao = some a → a.block ∉ S := by
  intro hv a ha hm
  have h1 := (Sl.old h (Nat.le_refl _)) hv a n c (by rw [ha])
  have h2 := hS _ hm
  omega
theorem Rf.home {w : World} {r q h h' : Nat} {s : SS} (t : Rf w r q h s) (hh : w.heap.size ≤ h') : Rf w r q h' s := by
  obtain ⟨cap, vals, h1, h2, h3⟩ := t.lst
  refine ⟨t.ok, cap, vals, h1, h2, fun k bs hk => ?_⟩
  obtain ⟨v, hv, hr⟩ := h3 k bs hk
  exact ⟨v, hv, hr.home hh⟩
/-- What the elder store does, keeps the reference's, whose blocks lie besides out of the new one's room. -/
theorem Rf.only2 {w u : World} {r q h h' g : Nat} {s a : SS} (t' : Rf w r q h' s) (t : Rf w r q h s) (b : St w g h a) (k : Only [g, h] w u) : Rf u r q h' s := by
  have tu := t.only b k
  obtain ⟨cap, vals, h1, h2, h3⟩ := t'.lst
  obtain ⟨cap2, vals2, m1, m2, m3⟩ := t.lst
  obtain ⟨cap3, vals3, n1, n2, n3⟩ := tu.lst
  have er : u.heap[r]? = w.heap[r]? := by
    refine k.block r t.lt ?_
    intro e
    simp only [List.mem_cons, List.not_mem_nil, or_false] at e
    rcases e with e | e
    · rw [e, b.box] at m1; simp at m1
    · rw [e, b.room] at m1; simp at m1
  have e3 : cap3 = cap := by
    rw [er, h1] at n1
    simp only [Option.some.injEq, Obj.cells.injEq, and_true] at n1
    have := congrArg (fun l => l[0]?) n1
    simp [rx] at this
    exact this.symm
  have e2 : cap2 = cap := by
    rw [h1] at m1
    simp only [Option.some.injEq, Obj.cells.injEq, and_true] at m1
    have := congrArg (fun l => l[0]?) m1
    simp [rx] at this
    exact this.symm
  subst e2 e3
  have hl : vals.length = s.rows.length := by have := h2.1; omega
  refine ⟨t'.ok, _, vals3, er.trans h1, n2, fun j bs hj => ?_⟩
  have hjl : j < s.rows.length := (List.getElem?_eq_some_iff.1 hj).1
  obtain ⟨v3, hv3, p3, c3, cur3, e3', a1, a2, a3, a4⟩ := n3 j bs hj
  obtain ⟨v1, hv1, p1, c1, cur1, e1', b1, b2, b3, b4⟩ := h3 j bs hj
  obtain ⟨cs, hq⟩ := t.qblk
  have eq : u.heap[q]? = w.heap[q]? := by
    refine k.block q t.ltq ?_
    intro e
    simp only [List.mem_cons, List.not_mem_nil, or_false] at e
    rcases e with e | e
    · rw [e, b.box] at hq; simp at hq
    · rw [e, b.room] at hq; simp at hq
  have ev : v3 = v1 := by
    have x1 := h2.cellAt j (by omega)
    have x2 := n2.cellAt j (by omega)
    rw [World.cell?_of_block (w := w) (a := ⟨q, j, none⟩) eq, x1, hv1, hv3] at x2
    simpa using x2.symm
  rw [ev, e1'] at e3'
  simp only [Value.slice.injEq, Option.some.injEq, Addr.mk.injEq, and_true] at e3'
  refine ⟨v3, hv3, p3, c3, cur3, by rw [ev, e1', e3'.1, e3'.2.2], a1, ?_, a3, a4⟩
  rw [← e3'.1]
  exact b2
end Go.Proofs.Ytkjbgjiddpkcpaa
