/- What the laws hold: code that is being written; Place; straight code (stage 20). -/
import Derived.Test.YtkknfolahfmghaaDoorK2
namespace Go.Proofs.YtkknfolahfmghaaDoor
open Go.RowKit
open Fb Cod
def insv (L : List Ins) : List Value := L.flatMap Ins.cs
theorem insv_len (L : List Ins) : (insv L).length = L.length * 5 := by
  induction L with
  | nil => rfl
  | cons a L ih =>
    have e : insv (a :: L) = a.cs ++ insv L := by simp [insv]
    rw [e, List.length_append, ih, List.length_cons]
    simp [Ins.cs]
    omega
theorem insv_app (a b : List Ins) : insv (a ++ b) = insv a ++ insv b := by simp [insv]
theorem insv_at : ∀ (L : List Ins) (i : Nat) (x : Ins), L[i]? = some x → ∀ k u, x.cs[k]? = some u → (insv L)[i * 5 + k]? = some u
  | [], i, x, h, _, _, _ => by simp at h
  | a :: L, 0, x, h, k, u, hk => by
    simp at h
    subst h
    have hk5 : k < a.cs.length := (List.getElem?_eq_some_iff.1 hk).1
    show (a.cs ++ insv L)[0 * 5 + k]? = some u
    rw [Nat.zero_mul, Nat.zero_add, List.getElem?_append_left hk5]
    exact hk
  | a :: L, i + 1, x, h, k, u, hk => by
    have := insv_at L i x (by simpa using h) k u hk
    show (a.cs ++ insv L)[(i + 1) * 5 + k]? = some u
    rw [List.getElem?_append_right (by simp [Ins.cs]; omega), show (i + 1) * 5 + k - a.cs.length = i * 5 + k by simp [Ins.cs]; omega]
    exact this
theorem one_ins (L : List Ins) : ∀ u ∈ insv L, u.oneCell' = true := by
  intro u hu
  simp only [insv, List.mem_flatMap] at hu
  obtain ⟨x, _, hx⟩ := hu
  simp [Ins.cs] at hx
  rcases hx with rfl | rfl | rfl | rfl | rfl <;> rfl
theorem Tryd.infoIns : (Tryd.prog.info? 41).map (fun i => (i.zero, i.size, i.bytes)) = some (some (.agg #[.int .i64 0, .int .i64 0, .int .i64 0, .int .i64 0, .string ⟨#[]⟩]), 5, 48) := by kernel_rfl
/-- Code that is being written, in block cb. -/
structure Bc (w1 W : World) (cb : Nat) (lv : Value) (L : List Ins) : Prop where
  row : W.heap[cb]? = some (.cells [.slice none 0 0, lv].toArray 25 (0, 0))
  own : W.ownsRow w1.heap.size 41 5 lv L.length (insv L)
  ne : lv.ownBlock ≠ some cb
  cB : w1.heap.size ≤ cb
  kb : Below w1.heap.size w1 W
theorem Bc.start (w1 : World) : Bc w1 (w1.alloc (.cells #[.slice none 0 0, .slice none 0 0] 25)) w1.heap.size (.slice none 0 0) [] :=
  ⟨heap_alloc_new w1 _, World.ownsRow_nil .., by simp [Value.ownBlock], Nat.le_refl _, below_new1 _ _⟩
theorem Bc.lt {w1 W : World} {cb : Nat} {lv : Value} {L : List Ins} (h : Bc w1 W cb lv L) : cb < W.heap.size := row_lt h.row
theorem Bc.c0 {w1 W : World} {cb : Nat} {lv : Value} {L : List Ins} (h : Bc w1 W cb lv L) : W.cell? ⟨cb, 0, none⟩ = some (.slice none 0 0) := cell_row (k := 0) h.row rfl
theorem Bc.c1 {w1 W : World} {cb : Nat} {lv : Value} {L : List Ins} (h : Bc w1 W cb lv L) : W.cell? ⟨cb, 1, none⟩ = some lv := cell_row (k := 1) h.row rfl
theorem Bc.push {w1 W w3 : World} {cb : Nat} {lv v' : Value} {L N : List Ins} {o : Obj} (h : Bc w1 W cb lv L) (h3 : w3.ownsRow w1.heap.size 41 5 v' (L.length + N.length) (insv L ++ insv N)) (hg : (W.alloc o).grownBy w3 lv.ownBlock) (hat : v'.ownBlock = lv.ownBlock ∨ v'.ownBlock = some (W.alloc o).heap.size) :
    w3.heap[cb]? = some (.cells [.slice none 0 0, lv].toArray 25 (0, 0)) ∧ Bc w1 (w3.setCell ⟨cb, 1, none⟩ v') cb v' (L ++ N) := by
  have k1 := below_new1 W o
  have hl := h.lt
  have r3 : w3.heap[cb]? = some (.cells [.slice none 0 0, lv].toArray 25 (0, 0)) := (hg.block cb (by simp; omega) (fun e => h.ne e.symm)).trans ((k1.block cb hl).trans h.row)
  have ne' : v'.ownBlock ≠ some cb := fun e => by
    rcases hat with q | q
    · exact h.ne (q.symm.trans e)
    · rw [e] at q
      simp only [Option.some.injEq, World.size_alloc] at q
      omega
  have t : Turn cb w3 (w3.setCell ⟨cb, 1, none⟩ v') := (Turn.refl cb w3).set 1 _
  have kB : Below w1.heap.size w1 w3 := (below_and h.kb k1).grown hg (below_and h.kb k1).size (fun k hk => (h.own.lt k hk).1)
  refine ⟨r3, set_row r3 _, ?_, ne', h.cB, kB.trans (t.below h.cB kB.size)⟩
  rw [List.length_append, insv_app]
  exact h3.kept t (Or.inr (fun e => ne' e))
theorem Bc.cd {w1 W : World} {cb : Nat} {lv : Value} {L : List Ins} (h : Bc w1 W cb lv L) (h9 : L.length ≤ 1000000) : ∃ la lc, lv = .slice la L.length lc ∧ Cd W none 0 0 la L.length lc [] L := by
  rcases h.own.2 with ⟨e, h0⟩ | ⟨g, cap, cur, e, hb, hg, hn, hm, hs, ht⟩
  · refine ⟨none, 0, by rw [e, h0], Sl.nil W, rfl, by decide, Or.inl (List.length_eq_zero_iff.1 h0), rfl, h9⟩
  · refine ⟨some ⟨g, 0, none⟩, cap, e, Sl.nil W, rfl, by decide, Or.inr ⟨g, 0, rfl, fun i x hx k u hk => ?_⟩, rfl, h9⟩
    have hi := (List.getElem?_eq_some_iff.1 hx).1
    have hk5 : k < 5 := by have := (List.getElem?_eq_some_iff.1 hk).1; simpa [Ins.cs] using this
    have o := h.own
    rw [e] at o
    rw [Nat.zero_add, o.cellAt (i * 5 + k) (by omega)]
    exact insv_at L i x hx k u hk
/-! straight code -/
namespace Cod
/-- Straight on to place m: the depths are D's. -/
structure Str (L : List Ins) (D : Nat → Nat) (m : Nat) : Prop where
  d0 : D 0 = 0
  on : ∀ i, i < m → nexts L (i, D i) = [(i + 1, D (i + 1))] ∧ faultB L (i, D i) = false
  ends : nexts L (m, D m) = []
theorem Str.reach {L : List Ins} {D : Nat → Nat} {m : Nat} (h : Str L D m) {s : Nat × Nat} (hr : Cod.Reach L s) : s.1 ≤ m ∧ s.2 = D s.1 := by
  refine Reach.ind (P := fun s => s.1 ≤ m ∧ s.2 = D s.1) ⟨Nat.zero_le _, h.d0.symm⟩ (fun q r hq hn => ?_) hr
  obtain ⟨i, d⟩ := q
  simp only at hq
  obtain ⟨h1, rfl⟩ := hq
  rcases Nat.lt_or_ge i m with hi | hi
  · rw [(h.on i hi).1] at hn
    simp at hn
    subst hn
    exact ⟨hi, rfl⟩
  · have : i = m := by omega
    subst this
    rw [h.ends] at hn
    cases hn
theorem Str.to {L : List Ins} {D : Nat → Nat} {m : Nat} (h : Str L D m) : ∀ i, i ≤ m → Cod.Reach L (i, D i)
  | 0, _ => by rw [h.d0]; exact .start
  | i + 1, hi => (h.to i (by omega)).to (by rw [(h.on i (by omega)).1]; simp)
theorem Str.bad {L : List Ins} {D : Nat → Nat} {m : Nat} (h : Str L D m) (hm : m < L.length) (hf : faultB L (m, D m) = true) : Fin L m := by
  refine ⟨Nat.le_of_lt hm, fun i hi hw => ?_, fun _ => ⟨D m, h.to m (Nat.le_refl _), Or.inl (fault_is.2 hf)⟩⟩
  obtain ⟨d, hr, hf' | ⟨e, he, hne⟩⟩ := hw
  · have h1 := h.reach hr
    simp only at h1
    rw [h1.2] at hf'
    have := (h.on i hi).2
    rw [fault_is.1 hf'] at this
    cases this
  · have h1 := (h.reach hr).2
    have h2 := (h.reach he).2
    simp only at h1 h2
    exact hne (h2.trans h1.symm)
theorem Str.good {L : List Ins} {D : Nat → Nat} {m : Nat} (h : Str L D m) (hf : faultB L (m, D m) = false) : Fin L L.length := by
  refine ⟨Nat.le_refl _, fun i _ hw => ?_, fun h => absurd h (Nat.lt_irrefl _)⟩
  obtain ⟨d, hr, hf' | ⟨e, he, hne⟩⟩ := hw
  · have h1 := h.reach hr
    simp only at h1
    rw [h1.2] at hf'
    have h2 := fault_is.1 hf'
    rcases Nat.lt_or_ge i m with hi | hi
    · rw [(h.on i hi).2] at h2; cases h2
    · have : i = m := by omega
      subst this
      rw [hf] at h2; cases h2
  · have h1 := (h.reach hr).2
    have h2 := (h.reach he).2
    simp only at h1 h2
    exact hne (h2.trans h1.symm)
end Cod
end Go.Proofs.YtkknfolahfmghaaDoor
