/- Rows that grow; trees in a row (stage 13). -/
import Derived.Test.YtgdoanhemgklpaaGreatDoorV6
import Derived.Maps.AppendAt
namespace Go.Proofs.YtgdoanhemgklpaaGreatDoor
open Go.RowKit
open Adr Lx Sx
theorem Kp.grown {rb : Nat} {a W w : World} {row : Option Nat} (h : Kp rb a W) (hg : W.grownBy w row) (hr : ∀ k, row = some k → a.heap.size ≤ k) : Kp rb a w :=
  ⟨hg.os.trans h.os, hg.tape.trans h.tape, hg.output.trans h.output, Nat.le_trans h.size hg.size, fun j h1 h2 => (hg.block j (Nat.lt_of_lt_of_le h1 h.size) (fun e => by have := hr j e.symm; omega)).trans (h.block j h1 h2)⟩
theorem Bk.grown {W w : World} {row : Option Nat} {g : Nat} {cs : Array Value} (h : Bk W g cs) (hg : W.grownBy w row) (hr : row ≠ some g) : Bk w g cs := by
  have hl := h.lt
  obtain ⟨t, h⟩ := h
  exact ⟨t, (hg.block g hl (Ne.symm hr)).trans h⟩
theorem Rd.grown {W w : World} {row : Option Nat} {rb tb cap : Nat} {T : TL} {i : Nat} (h : Rd W rb tb cap T i) (hg : W.grownBy w row) (h1 : row ≠ some rb) (h2 : row ≠ some tb) : Rd w rb tb cap T i :=
  ⟨h.own.grown hg h1, fun a u hu => (World.cell?_of_block (w := W) (hg.block tb h.lt (Ne.symm h2))).trans (h.laid a u hu), Nat.lt_of_lt_of_le h.lt hg.size, h.ne, h.wf, h.ir⟩
theorem Et.grown {S : Nat → Prop} {W w : World} {row : Option Nat} {v : Value} {t : Tr} (h : Et S W v t) (hg : W.grownBy w row) (hr : ∀ k, row = some k → ¬ S k) : Et S w v t := by
  obtain ⟨d, h⟩ := h
  exact ⟨d, h.keep hg.size (fun x hx hl => hg.block x hl (fun e => hr x e.symm hx))⟩
/-- One thing more at the end of a row. -/
theorem push_at {base te e n b : Nat} {z : Value} {W : World} {v : Value} {m : Nat} {xs : List Value} {cs : Array Value} (hu : Tryz.prog.underlying te = some (.slice e)) (hi : (Tryz.prog.info? e).map (fun i => (i.zero, i.size, i.bytes)) = some (some z, n, b)) (hz : z.cells.size = n) (hn : 0 < n) (hb : b ≤ 1000)
    (o : W.ownsRow base e n v m xs) (hm : m ≤ 1000001) (hbase : base ≤ W.heap.size) (hc : cs.toList.length = n) (h1 : ∀ u ∈ cs.toList, u.oneCell' = true) :
    ∃ v' w', (Builtin.append_ #[te, te] te #[v, .slice (some ⟨W.heap.size, 0, none⟩) 1 1]).run Tryz.prog (W.alloc (.cells cs e)) = .ok v' w' ∧ w'.ownsRow base e n v' (m + 1) (xs ++ cs.toList) ∧ (W.alloc (.cells cs e)).grownBy w' v.ownBlock ∧ (v'.ownBlock = v.ownBlock ∨ v'.ownBlock = some (W.heap.size + 1)) := by
  obtain ⟨i0, hi, hz0, hz1, hz2⟩ := info_parts hi
  have oA : (W.alloc (.cells cs e)).ownsRow base e n v m xs := by
    refine ⟨o.1, ?_⟩
    rcases o.2 with h' | ⟨g, cap, cur, rfl, hb, hg, r⟩
    · exact Or.inl h'
    · exact Or.inr ⟨g, cap, cur, rfl, hb, ((below_new1 W (.cells cs e)).block g (World.ownsRow.lt o g rfl).2).trans hg, r⟩
  have hF := Bk.fresh W cs e
  obtain ⟨v', w', hr, hown, hg, _, hw⟩ := run_append_own_at (P := Tryz.prog) (W.alloc (.cells cs e)) base te te e i0 z n b hu hi hz0 hz1 hz2 hz hn v m xs oA ⟨W.heap.size, 0, none⟩ 1 1 cs.toList (by rw [hc, Nat.one_mul])
    (fun j u hj => by rw [show (⟨W.heap.size, 0, none⟩ : Addr).add j = ⟨W.heap.size, j, none⟩ by (simp [Addr.add]; omega), hF.cell j, ← Array.getElem?_toList]; exact hj) h1 (by simp only [maxLen]; omega) (Nat.le_trans (Nat.mul_le_mul (show m + 1 ≤ 1000002 by omega) hb) (by decide)) (by simp; omega)
  exact ⟨v', w', hr, hown, hg, by rw [World.size_alloc] at hw; exact hw⟩
theorem info7 : (Tryz.prog.info? 25).map (fun i => (i.zero, i.size, i.bytes)) = some (some (.agg #[.int .i64 0, .int .i64 0, .int .i64 0, .string ⟨#[]⟩, .string ⟨#[]⟩, .slice none 0 0, .int .i64 0]), 7, 88) := by kernel_rfl
/-- These cells are these trees, one behind the other. -/
def Us (S : Nat → Prop) (w : World) (xs : List Value) (ts : List Tr) : Prop := xs.length = ts.length * 7 ∧ ∀ j t, ts[j]? = some t → ∃ o k n nm fl L p,
  (xs[j * 7]? = some (.int .i64 o) ∧ xs[j * 7 + 1]? = some (.int .i64 k) ∧ xs[j * 7 + 2]? = some (.int .i64 n) ∧ xs[j * 7 + 3]? = some (.string nm) ∧ xs[j * 7 + 4]? = some (.string fl) ∧ xs[j * 7 + 5]? = some L ∧ xs[j * 7 + 6]? = some (.int .i64 p)) ∧ Et S w (.agg #[.int .i64 o, .int .i64 k, .int .i64 n, .string nm, .string fl, L, .int .i64 p]) t
theorem Us.all {S S' : Nat → Prop} {w w' : World} {xs : List Value} {ts : List Tr} (h : Us S w xs ts) (f : ∀ v t, Et S w v t → Et S' w' v t) : Us S' w' xs ts := by
  refine ⟨h.1, fun j t ht => ?_⟩
  obtain ⟨o, k, n, nm, fl, L, p, a, b⟩ := h.2 j t ht
  exact ⟨o, k, n, nm, fl, L, p, a, f _ _ b⟩
theorem Us.one {S : Nat → Prop} {w : World} {o k n : Int} {nm fl : ByteArray} {L : Value} {p : Int} {t : Tr} (h : Et S w (.agg #[.int .i64 o, .int .i64 k, .int .i64 n, .string nm, .string fl, L, .int .i64 p]) t) : Us S w [.int .i64 o, .int .i64 k, .int .i64 n, .string nm, .string fl, L, .int .i64 p] [t] := by
  refine ⟨rfl, fun j t ht => ?_⟩
  cases j with
  | zero => obtain rfl := Option.some.inj ht; exact ⟨o, k, n, nm, fl, L, p, ⟨rfl, rfl, rfl, rfl, rfl, rfl, rfl⟩, h⟩
  | succ j => simp at ht
theorem Us.push {S : Nat → Prop} {w : World} {xs : List Value} {ts : List Tr} (h : Us S w xs ts) {o k n : Int} {nm fl : ByteArray} {L : Value} {p : Int} {t : Tr} (ht : Et S w (.agg #[.int .i64 o, .int .i64 k, .int .i64 n, .string nm, .string fl, L, .int .i64 p]) t) : Us S w (xs ++ [.int .i64 o, .int .i64 k, .int .i64 n, .string nm, .string fl, L, .int .i64 p]) (ts ++ [t]) := by
  refine ⟨by simp [h.1]; omega, fun j u hu => ?_⟩
  by_cases hj : j < ts.length
  · rw [List.getElem?_append_left hj] at hu
    obtain ⟨o, k, n, nm, fl, L, p, ⟨a0, a1, a2, a3, a4, a5, a6⟩, b⟩ := h.2 j u hu
    have hl : ∀ c, c < 7 → j * 7 + c < xs.length := fun c hc => by rw [h.1]; omega
    refine ⟨o, k, n, nm, fl, L, p, ⟨?_, ?_, ?_, ?_, ?_, ?_, ?_⟩, b⟩
    · rw [List.getElem?_append_left (show j * 7 < _ from hl 0 (by omega))]; exact a0
    · rw [List.getElem?_append_left (hl 1 (by omega))]; exact a1
    · rw [List.getElem?_append_left (hl 2 (by omega))]; exact a2
    · rw [List.getElem?_append_left (hl 3 (by omega))]; exact a3
    · rw [List.getElem?_append_left (hl 4 (by omega))]; exact a4
    · rw [List.getElem?_append_left (hl 5 (by omega))]; exact a5
    · rw [List.getElem?_append_left (hl 6 (by omega))]; exact a6
  · rw [List.getElem?_append_right (by omega)] at hu
    obtain rfl : j = ts.length := by
      by_cases hz : j - ts.length = 0
      · omega
      · obtain ⟨q, hq⟩ : ∃ q, j - ts.length = q + 1 := ⟨j - ts.length - 1, by omega⟩
        rw [hq] at hu
        simp at hu
    rw [Nat.sub_self] at hu
    obtain rfl := Option.some.inj hu
    refine ⟨o, k, n, nm, fl, L, p, ⟨?_, ?_, ?_, ?_, ?_, ?_, ?_⟩, ht⟩
    all_goals rw [← h.1, List.getElem?_append_right (by omega)]
    all_goals first | rw [Nat.sub_self] | rw [Nat.add_sub_cancel_left]
    all_goals rfl
theorem Et.nodeN {S : Nat → Prop} {w : World} {d : Nd} {g cap : Nat} {ts : List Tr} {xs : List Value} (ha : d.ar = ts.length) (h0 : 0 < ts.length) (hc : ts.length ≤ cap) (hS : S g) (hg : g < w.heap.size) (hr : ∀ j u, xs[j]? = some u → w.cell? ⟨g, j, none⟩ = some u) (us : Us S w xs ts) :
    Et S w (ev d.op d.kind d.n (tx d.name) (tx d.field) (.slice (some ⟨g, 0, none⟩) ts.length cap) d.pl) (mkT d ts) := by
  have key : ∀ m, m ≤ ts.length → ∃ D, ∀ j t, j < m → ts[j]? = some t → ∃ o k n nm fl L p, RowE w g j o k n nm fl L p ∧ EA S D w (ev o k n nm fl L p) t := by
    intro m
    induction m with
    | zero => exact fun _ => ⟨0, fun j t hj => by omega⟩
    | succ m ih =>
      intro hm
      obtain ⟨D, hD⟩ := ih (by omega)
      obtain ⟨o, k, n, nm, fl, L, p, ⟨a0, a1, a2, a3, a4, a5, a6⟩, ⟨D', hb⟩⟩ := us.2 m _ (List.getElem?_eq_getElem (show m < ts.length by omega))
      refine ⟨max D D', fun j t hj ht => ?_⟩
      by_cases e : j = m
      · subst e
        rw [List.getElem?_eq_getElem (show j < ts.length by omega)] at ht
        obtain rfl := Option.some.inj ht
        exact ⟨o, k, n, nm, fl, L, p, ⟨hr _ _ a0, hr _ _ a1, hr _ _ a2, hr _ _ a3, hr _ _ a4, hr _ _ a5, hr _ _ a6⟩, hb.deeper (Nat.le_max_right _ _)⟩
      · obtain ⟨o, k, n, nm, fl, L, p, x, y⟩ := hD j t (by omega) ht
        exact ⟨o, k, n, nm, fl, L, p, x, y.deeper (Nat.le_max_left _ _)⟩
  obtain ⟨D, hD⟩ := key ts.length (Nat.le_refl _)
  refine ⟨D + 1, d, _, rfl, rfl, Or.inr ⟨g, cap, by rw [ha], by omega, by omega, hS, hg, fun j hj => ?_⟩⟩
  have hj' : j < ts.length := by omega
  obtain ⟨o, k, n, nm, fl, L, p, x, y⟩ := hD j _ hj' (List.getElem?_eq_getElem hj')
  exact ⟨o, k, n, nm, fl, L, p, x, by rw [mkT_at (List.getElem?_eq_getElem hj')]; exact y⟩
theorem Et.one {S : Nat → Prop} {w : World} {a b c d e L f : Value} {t : Tr} (h : Et S w (.agg #[a, b, c, d, e, L, f]) t) : L.oneCell' = true := by
  obtain ⟨m, h⟩ := h
  cases m with
  | zero => exact h.elim
  | succ m =>
    obtain ⟨nd, M, _, hv, hL⟩ := h
    unfold ev at hv
    simp only [Value.agg.injEq, Array.mk.injEq, List.cons.injEq] at hv
    obtain ⟨_, _, _, _, _, rfl, _⟩ := hv
    rcases hL with ⟨_, rfl⟩ | ⟨g, cap, rfl, _⟩ <;> rfl
theorem us_step {base rb g s : Nat} {wr w3 w5 : World} {ob : Obj} {xs : List Value} {ts : List Tr} {o k n : Int} {nm fl : ByteArray} {L : Value} {p : Int} {t : Tr} {v5 : Value} (hU : Us (fun x => base ≤ x ∧ x ≠ g) wr xs ts) (hk : Kp rb wr w3) (hrb : rb < base) (hb : base ≤ s) (hgs : g < s)
    (E3 : Et (fun x => s ≤ x) w3 (.agg #[.int .i64 o, .int .i64 k, .int .i64 n, .string nm, .string fl, L, .int .i64 p]) t) (hg5 : (w3.alloc ob).grownBy w5 (some g)) (hw5 : v5.ownBlock = some g ∨ v5.ownBlock = some (w3.heap.size + 1)) :
    ∃ g', v5.ownBlock = some g' ∧ Us (fun x => base ≤ x ∧ x ≠ g') w5 (xs ++ [.int .i64 o, .int .i64 k, .int .i64 n, .string nm, .string fl, L, .int .i64 p]) (ts ++ [t]) := by
  have hs := hk.size
  have U3 : Us (fun x => base ≤ x ∧ x ≠ g ∧ x ≠ w3.heap.size + 1) w3 xs ts := hU.all fun v t e => (e.kp hk (fun h => by have : base ≤ rb := h.1; omega)).into (fun x hx hl => ⟨hx.1, hx.2, by omega⟩)
  have T3 : Et (fun x => base ≤ x ∧ x ≠ g ∧ x ≠ w3.heap.size + 1) w3 (.agg #[.int .i64 o, .int .i64 k, .int .i64 n, .string nm, .string fl, L, .int .i64 p]) t := E3.into (fun x (hx : s ≤ x) hl => ⟨by omega, by omega, by omega⟩)
  have U5 := (U3.push T3).all (S' := fun x => base ≤ x ∧ x ≠ g ∧ x ≠ w3.heap.size + 1) (w' := w5) fun v t e => (e.alloc ob).grown hg5 (fun k hk h => by obtain rfl := Option.some.inj hk; exact h.2.1 rfl)
  rcases hw5 with h | h
  · exact ⟨g, h, U5.all fun v t e => e.into (fun x hx _ => ⟨hx.1, hx.2.1⟩)⟩
  · exact ⟨w3.heap.size + 1, h, U5.all fun v t e => e.into (fun x hx _ => ⟨hx.1, hx.2.2⟩)⟩
end Go.Proofs.YtgdoanhemgklpaaGreatDoor
