/- The reference's store in memory; the walks of its small calls (stage 8). -/
import Derived.Test.YtkjbgjiddpkcpaaS3
namespace Go.Proofs.Ytkjbgjiddpkcpaa
open Go.RowKit
open Pdu
def rx (b : Value) (s : SS) : List Value := [b, .int .i64 (s.sz : Int), .int .i64 (s.n : Int), .int .i64 s.lft, .int .i64 s.pre, .bool s.dead]
/-- One block of the reference's: all of a block of memory's first bytes, in another block than h. -/
def RowIn (w : World) (h : Nat) (v : Value) (bs : List Nat) : Prop := ∃ p c cur, v = .slice (some ⟨p, 0, none⟩) bs.length c ∧ bs.length ≤ c ∧ p ≠ h ∧ w.heap[p]? = some (.cells cur 5 (0, 0)) ∧ cur.toList.take bs.length = u8s bs
/-- The reference's store: its box in block r, its list of blocks in block q; none of its blocks lies in block h. -/
structure Rf (w : World) (r q h : Nat) (s : SS) : Prop where
  ok : s.Ok
  lst : ∃ (cap : Nat) (vals : List Value), w.heap[r]? = some (.cells (rx (.slice (some ⟨q, 0, none⟩) s.rows.length cap) s).toArray 35 (0, 0)) ∧ w.ownsRow 0 30 1 (.slice (some ⟨q, 0, none⟩) s.rows.length cap) s.rows.length vals ∧ ∀ (k : Nat) (bs : List Nat), s.rows[k]? = some bs → ∃ v, vals[k]? = some v ∧ RowIn w h v bs
theorem RowIn.sl {w : World} {h : Nat} {v : Value} {bs : List Nat} (r : RowIn w h v bs) : Sl w v (u8s bs) := by
  obtain ⟨p, c, cur, rfl, hc, _, hp, ht⟩ := r
  refine Or.inr ⟨p, 0, c, by rw [u8s_len], by rw [u8s_len]; exact hc, fun k u hk => ?_⟩
  rw [Nat.zero_add, cell_of_row w p k cur 5 (0, 0) hp]
  rw [← ht, List.getElem?_take] at hk
  split at hk
  · rw [← Array.getElem?_toList]; exact hk
  · cases hk
theorem RowIn.only {w u : World} {h : Nat} {v : Value} {bs : List Nat} {S : List Nat} (r : RowIn w h v bs) (k : Only S w u) (hS : ∀ p c cur fl, v = .slice (some ⟨p, 0, none⟩) bs.length c → w.heap[p]? = some (.cells cur 5 fl) → p ∉ S) : RowIn u h v bs := by
  obtain ⟨p, c, cur, rfl, hc, hh, hp, ht⟩ := r
  exact ⟨p, c, cur, rfl, hc, hh, (k.block p (Array.getElem?_eq_some_iff.1 hp).1 (hS p c cur (0, 0) rfl hp)).trans hp, ht⟩
theorem RowIn.of_own {w : World} {base h : Nat} {v : Value} {bs : List Nat} (o : w.ownsRow base 5 1 v bs.length (u8s bs)) (h0 : bs ≠ []) (hh : h < base) : RowIn w h v bs := by
  rcases o.2 with ⟨_, h1⟩ | ⟨g, cap, cur, rfl, hb, hg, hn, _, _, ht⟩
  · exact absurd (List.length_eq_zero_iff.1 h1) h0
  · exact ⟨g, cap, cur, rfl, hn, by omega, hg, by rw [Nat.mul_one] at ht; exact ht⟩
theorem RowIn.home {w : World} {h h' : Nat} {v : Value} {bs : List Nat} (r : RowIn w h v bs) (hh : w.heap.size ≤ h') : RowIn w h' v bs := by
  obtain ⟨p, c, cur, rfl, hc, _, hp, ht⟩ := r
  exact ⟨p, c, cur, rfl, hc, by have := (Array.getElem?_eq_some_iff.1 hp).1; omega, hp, ht⟩
theorem Rf.box {w : World} {r q h : Nat} {s : SS} (t : Rf w r q h s) : ∃ cap, w.heap[r]? = some (.cells (rx (.slice (some ⟨q, 0, none⟩) s.rows.length cap) s).toArray 35 (0, 0)) := by
  obtain ⟨cap, vals, h1, _⟩ := t.lst
  exact ⟨cap, h1⟩
theorem Rf.lt {w : World} {r q h : Nat} {s : SS} (t : Rf w r q h s) : r < w.heap.size := by
  obtain ⟨cap, h1⟩ := t.box
  exact (Array.getElem?_eq_some_iff.1 h1).1
theorem Rf.qblk {w : World} {r q h : Nat} {s : SS} (t : Rf w r q h s) : ∃ cs, w.heap[q]? = some (.cells cs 30 (0, 0)) := by
  obtain ⟨cap, vals, _, h2, _⟩ := t.lst
  rcases h2.2 with ⟨h, _⟩ | ⟨g, c, cur, e, _, hg, _⟩
  · cases h
  · simp only [Value.slice.injEq, Option.some.injEq, Addr.mk.injEq, and_true, true_and] at e
    obtain ⟨rfl, _⟩ := e
    exact ⟨cur, hg⟩
theorem Rf.ltq {w : World} {r q h : Nat} {s : SS} (t : Rf w r q h s) : q < w.heap.size := by
  obtain ⟨cs, hq⟩ := t.qblk
  exact (Array.getElem?_eq_some_iff.1 hq).1
theorem Rf.ne {w : World} {r q h : Nat} {s : SS} (t : Rf w r q h s) : r ≠ q := fun e => by
  obtain ⟨cs, hq⟩ := t.qblk
  obtain ⟨cap, h1⟩ := t.box
  rw [e, hq] at h1
  simp at h1
theorem Rf.heapq {w u : World} {r q h : Nat} {s : SS} (t : Rf w r q h s) (k1 : u.heap[r]? = w.heap[r]?) (k2 : u.heap[q]? = w.heap[q]?) (k3 : ∀ v bs, RowIn w h v bs → RowIn u h v bs) : Rf u r q h s := by
  obtain ⟨cap, vals, h1, h2, h3⟩ := t.lst
  refine ⟨t.ok, cap, vals, k1.trans h1, ⟨h2.1, ?_⟩, fun k bs hk => ?_⟩
  · rcases h2.2 with ⟨h, _⟩ | ⟨g, c, cur, e, hb, hg, r⟩
    · cases h
    · have e' := e
      simp only [Value.slice.injEq, Option.some.injEq, Addr.mk.injEq, and_true, true_and] at e'
      obtain ⟨rfl, _⟩ := e'
      exact Or.inr ⟨_, c, cur, e, hb, k2.trans hg, r⟩
  · obtain ⟨v, hv, hr⟩ := h3 k bs hk
    exact ⟨v, hv, k3 v bs hr⟩
theorem Rf.below {w u : World} {r q h : Nat} {s : SS} (t : Rf w r q h s) (k : Below w.heap.size w u) : Rf u r q h s := t.heapq (k.block r t.lt) (k.block q t.ltq) (fun v bs hr => hr.only (S := []) (Only.ofBelow k) (fun _ _ _ _ _ _ h => by cases h))
theorem Rf.same {w u : World} {r q h : Nat} {s : SS} (t : Rf w r q h s) (k : Same w u) : Rf u r q h s := t.below k.below
/-- What the store h belongs to does, keeps the reference's. -/
theorem Rf.only {w u : World} {r q h g : Nat} {s a : SS} (t : Rf w r q h s) (b : St w g h a) (k : Only [g, h] w u) : Rf u r q h s := by
  obtain ⟨cs, hq⟩ := t.qblk
  obtain ⟨cap, h1⟩ := t.box
  refine t.heapq (k.block r t.lt ?_) (k.block q t.ltq ?_) (fun v bs hr => ?_)
  · intro e
    simp only [List.mem_cons, List.not_mem_nil, or_false] at e
    rcases e with e | e
    · rw [e, b.box] at h1; simp at h1
    · rw [e, b.room] at h1; simp at h1
  · intro e
    simp only [List.mem_cons, List.not_mem_nil, or_false] at e
    rcases e with e | e
    · rw [e, b.box] at hq; simp at hq
    · rw [e, b.room] at hq; simp at hq
  · obtain ⟨p, c, cur, rfl, hc, hh, hp, ht⟩ := hr
    refine ⟨p, c, cur, rfl, hc, hh, (k.block p (Array.getElem?_eq_some_iff.1 hp).1 ?_).trans hp, ht⟩
    intro e
    simp only [List.mem_cons, List.not_mem_nil, or_false] at e
    rcases e with e | e
    · rw [e, b.box] at hp; simp at hp
    · exact hh e
/-- What the reference's store does, keeps the other. -/
theorem St.rfk {w u : World} {r q h g : Nat} {s a : SS} (b : St w g h a) (t : Rf w r q h s) (k : Only [r, q] w u) : St u g h a := by
  obtain ⟨cs, hq⟩ := t.qblk
  obtain ⟨cap, h1⟩ := t.box
  refine b.only k ?_ ?_
  · intro e
    simp only [List.mem_cons, List.not_mem_nil, or_false] at e
    rcases e with e | e
    · rw [← e, b.box] at h1; simp at h1
    · rw [← e, b.box] at hq; simp at hq
  · intro e
    simp only [List.mem_cons, List.not_mem_nil, or_false] at e
    rcases e with e | e
    · rw [← e, b.room] at h1; simp at h1
    · rw [← e, b.room] at hq; simp at hq
/-- A cell of the box turned. -/
theorem Rf.set {w : World} {r q h : Nat} {s : SS} (t : Rf w r q h s) (k : Nat) (v : Value) (s' : SS) (e : ∀ cap, (rx (.slice (some ⟨q, 0, none⟩) s.rows.length cap) s).set k v = rx (.slice (some ⟨q, 0, none⟩) s'.rows.length cap) s') (hr : s'.rows = s.rows) (o : s'.Ok) : Rf (w.setCell ⟨r, k, none⟩ v) r q h s' := by
  obtain ⟨cap, vals, h1, h2, h3⟩ := t.lst
  obtain ⟨cs, hq⟩ := t.qblk
  have hT : Turn r w (w.setCell ⟨r, k, none⟩ v) := (Turn.refl r w).set k v
  refine ⟨o, cap, vals, ?_, ?_, ?_⟩
  · rw [set_row h1, e]
  · rw [hr]
    refine h2.kept hT (Or.inr ?_)
    intro e2
    have e3 : q = r := by simpa [Value.ownBlock] using e2
    exact t.ne e3.symm
  · rw [hr]
    intro k2 bs hk
    obtain ⟨v2, hv, hr2⟩ := h3 k2 bs hk
    refine ⟨v2, hv, hr2.only (S := [r]) (Only.ofTurn hT (by simp)) ?_⟩
    intro p c cur fl _ hp hm
    simp only [List.mem_cons, List.not_mem_nil, or_false] at hm
    rw [hm, h1] at hp
    simp at hp
theorem Rf.setN {w : World} {r q h : Nat} {s : SS} (t : Rf w r q h s) (n : Nat) : Rf (w.setCell ⟨r, 2, none⟩ (.int .i64 (n : Int))) r q h { s with n := n } := t.set 2 _ _ (fun _ => rfl) rfl ⟨t.ok.lo, t.ok.hi, t.ok.nlo, t.ok.nhi, t.ok.len, t.ok.byt, t.ok.mx⟩
theorem Rf.setLeft {w : World} {r q h : Nat} {s : SS} (t : Rf w r q h s) (n : Int) (hm : n ≤ 9223372036854775807) : Rf (w.setCell ⟨r, 3, none⟩ (.int .i64 n)) r q h { s with lft := n } := t.set 3 _ _ (fun _ => rfl) rfl ⟨t.ok.lo, t.ok.hi, t.ok.nlo, t.ok.nhi, t.ok.len, t.ok.byt, hm⟩
theorem Rf.setPre {w : World} {r q h : Nat} {s : SS} (t : Rf w r q h s) (n : Int) : Rf (w.setCell ⟨r, 4, none⟩ (.int .i64 n)) r q h { s with pre := n } := t.set 4 _ _ (fun _ => rfl) rfl ⟨t.ok.lo, t.ok.hi, t.ok.nlo, t.ok.nhi, t.ok.len, t.ok.byt, t.ok.mx⟩
theorem Rf.setDead {w : World} {r q h : Nat} {s : SS} (t : Rf w r q h s) (d : Bool) : Rf (w.setCell ⟨r, 5, none⟩ (.bool d)) r q h { s with dead := d } := t.set 5 _ _ (fun _ => rfl) rfl ⟨t.ok.lo, t.ok.hi, t.ok.nlo, t.ok.nhi, t.ok.len, t.ok.byt, t.ok.mx⟩
theorem Rf.cells {w : World} {r q h : Nat} {s : SS} (t : Rf w r q h s) : ∃ cap, w.cell? ⟨r, 0, none⟩ = some (.slice (some ⟨q, 0, none⟩) s.rows.length cap) ∧ s.rows.length ≤ cap := by
  obtain ⟨cap, vals, h1, h2, _⟩ := t.lst
  refine ⟨cap, cell_row h1 rfl, ?_⟩
  rcases h2.2 with ⟨h, _⟩ | ⟨g, c, cur, e, _, _, hn, _⟩
  · cases h
  · simp only [Value.slice.injEq] at e
    rw [e.2.2]
    exact hn
theorem Rf.cSize {w : World} {r q h : Nat} {s : SS} (t : Rf w r q h s) : w.cell? ⟨r, 1, none⟩ = some (.int .i64 (s.sz : Int)) := by obtain ⟨_, h1⟩ := t.box; exact cell_row h1 rfl
theorem Rf.cN {w : World} {r q h : Nat} {s : SS} (t : Rf w r q h s) : w.cell? ⟨r, 2, none⟩ = some (.int .i64 (s.n : Int)) := by obtain ⟨_, h1⟩ := t.box; exact cell_row h1 rfl
theorem Rf.cLeft {w : World} {r q h : Nat} {s : SS} (t : Rf w r q h s) : w.cell? ⟨r, 3, none⟩ = some (.int .i64 s.lft) := by obtain ⟨_, h1⟩ := t.box; exact cell_row h1 rfl
theorem Rf.cPre {w : World} {r q h : Nat} {s : SS} (t : Rf w r q h s) : w.cell? ⟨r, 4, none⟩ = some (.int .i64 s.pre) := by obtain ⟨_, h1⟩ := t.box; exact cell_row h1 rfl
theorem Rf.cDead {w : World} {r q h : Nat} {s : SS} (t : Rf w r q h s) : w.cell? ⟨r, 5, none⟩ = some (.bool s.dead) := by obtain ⟨_, h1⟩ := t.box; exact cell_row h1 rfl
theorem Rf.free {w : World} {r q h : Nat} {s : SS} (t : Rf w r q h s) (k : Nat) : w.frozen? ⟨r, k, none⟩ = false := by obtain ⟨_, h1⟩ := t.box; exact frozen_row h1
theorem Rf.freeq {w : World} {r q h : Nat} {s : SS} (t : Rf w r q h s) (k : Nat) : w.frozen? ⟨q, k, none⟩ = false := by
  obtain ⟨cs, hq⟩ := t.qblk
  simp [World.frozen?, hq]
theorem Rf.cRow {w : World} {r q h k : Nat} {s : SS} (t : Rf w r q h s) (hk : k < s.rows.length) : ∃ p c, w.cell? ⟨q, k, none⟩ = some (.slice (some ⟨p, 0, none⟩) s.sz c) ∧ s.sz ≤ c ∧ RowIn w h (.slice (some ⟨p, 0, none⟩) s.sz c) (s.row k) := by
  obtain ⟨cap, vals, h1, h2, h3⟩ := t.lst
  obtain ⟨v, hv, hr⟩ := h3 k (s.row k) (by unfold SS.row; rw [Int.toNat_natCast, List.getD_eq_getElem?_getD, List.getElem?_eq_getElem hk]; rfl)
  have hl := (t.ok.row hk).1
  have hr' := hr
  obtain ⟨p, c, cur, rfl, hc, hh, hp, ht⟩ := hr'
  rw [hl] at hv hr hc
  refine ⟨p, c, ?_, hc, hr⟩
  rw [h2.cellAt k (by omega), hv]
/-- One block another one. -/
theorem Rf.put {w : World} {r q h k : Nat} {s : SS} {v : Value} {bs : List Nat} (t : Rf w r q h s) (hl : bs.length = s.sz) (hB : Bytes bs) (hr : RowIn w h v bs) : Rf (w.setCell ⟨q, k, none⟩ v) r q h { s with rows := s.rows.set k bs } := by
  obtain ⟨cap, vals, h1, h2, h3⟩ := t.lst
  obtain ⟨cs, hq⟩ := t.qblk
  have hT : Turn q w (w.setCell ⟨q, k, none⟩ v) := (Turn.refl q w).set k v
  have hkeep : ∀ v2 b2, RowIn w h v2 b2 → RowIn (w.setCell ⟨q, k, none⟩ v) h v2 b2 := fun v2 b2 hr2 => hr2.only (S := [q]) (Only.ofTurn hT (by simp)) (fun p c cur fl _ hp hm => by
    simp only [List.mem_cons, List.not_mem_nil, or_false] at hm
    rw [hm, hq] at hp
    simp at hp)
  refine ⟨t.ok.upd hl hB _ _ _ _ t.ok.mx, cap, vals.set k v, ?_, ?_, ?_⟩
  · rw [Below.heap_setCell _ _ _ _ (fun e => t.ne e), h1]
    simp [rx]
  · have := (h2.stored k v).1
    simpa using this
  · intro j b hj
    simp only [List.getElem?_set] at hj ⊢
    split at hj
    · rename_i hjk
      subst hjk
      split at hj
      · rename_i hlt
        simp only [Option.some.injEq] at hj
        subst hj
        have : k < vals.length := by have := h2.1; omega
        exact ⟨v, by simp [this], hkeep v _ hr⟩
      · cases hj
    · rename_i hjk
      obtain ⟨v2, hv2, hr2⟩ := h3 j b hj
      exact ⟨v2, by simp [hjk, hv2], hkeep v2 b hr2⟩
end Go.Proofs.Ytkjbgjiddpkcpaa
