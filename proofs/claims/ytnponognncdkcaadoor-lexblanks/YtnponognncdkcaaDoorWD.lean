/- How far the next token reaches; tokens in a row of memory (stage 12). -/
import Derived.Test.YtnponognncdkcaaDoorWC
import Derived.Lib.IndexMore
import Derived.Laws.AppendOwn
namespace Go.Proofs.YtnponognncdkcaaDoor
open Go.RowKit
open Adr Lx
theorem ltR_ok {tok k : Nat} {n : Int} {a z : Nat} (h : (ltR tok k n a z).e = 0) : (ltR tok k n a z).z = a + z ∧ 1 ≤ z := by
  unfold ltR at *
  by_cases h0 : z = 0
  · rw [if_pos h0] at h; simp [er] at h
  · rw [if_neg h0] at h ⊢
    split at h
    · simp [er] at h
    · rename_i h1; rw [if_neg h1]; exact ⟨rfl, by omega⟩
theorem span_le (l : List UInt8) : (span l).2 ≤ l.length := (spanK_most l 5 (by omega)).1
theorem tmR_ok {l : List UInt8} {a : Nat} (ha : a ≤ l.length) (h : (tmR l a).e = 0) : 1 ≤ (tmR l a).z ∧ (tmR l a).z ≤ l.length := by
  unfold tmR at *
  split at h
  · rename_i hq
    rw [if_pos hq]
    obtain ⟨e, h1⟩ := ltR_ok h
    have h2 := span_le ((l.drop a).drop 1)
    have h3 := hp_le hq
    rw [List.length_drop] at h3
    rw [List.length_drop, List.length_drop] at h2
    simp at h3
    omega
  · rename_i hq
    rw [if_neg hq]
    obtain ⟨e, h1⟩ := ltR_ok h
    have h2 := span_le (l.drop a)
    rw [List.length_drop] at h2
    omega
theorem tyR_ok {l : List UInt8} {a k : Nat} (ha : a ≤ l.length) (h : (tyR l a k).e = 0) : 1 ≤ (tyR l a k).z ∧ (tyR l a k).z ≤ l.length := by
  unfold tyR at *
  split at h
  · rename_i hq
    rw [if_pos hq]
    rw [Bool.and_eq_true] at hq
    have h3 := hp_le hq.2
    rw [List.length_drop] at h3
    simp at h3
    exact ⟨by show 1 ≤ a + 4; omega, by show a + 4 ≤ _; omega⟩
  · rename_i hq
    rw [if_neg hq]
    split at h
    · rename_i hq2
      rw [if_pos hq2]
      rw [Bool.and_eq_true] at hq2
      have h3 := hp_le hq2.2
      rw [List.length_drop] at h3
      simp at h3
      exact ⟨by show 1 ≤ a + 5; omega, by show a + 5 ≤ _; omega⟩
    · rename_i hq2
      rw [if_neg hq2]
      split at h
      · rename_i hq3
        rw [if_pos hq3]
        rw [Bool.and_eq_true] at hq3
        obtain ⟨e, h1⟩ := ltR_ok h
        have h2 := (rd_le 10 ((l.drop a).drop 1)).1
        have h3 := hp_le hq3.1
        rw [List.length_drop] at h3
        rw [List.length_drop, List.length_drop] at h2
        simp at h3
        omega
      · rename_i hq3
        rw [if_neg hq3]
        obtain ⟨e, h1⟩ := ltR_ok h
        have h2 := (num_le (l.drop a)).1
        rw [List.length_drop] at h2
        omega
theorem plainW_ok {w : List UInt8} (h : (plainW w).e = 0) : (plainW w).z = w.length := by
  unfold plainW at *
  split at h
  · rename_i hq; rw [if_pos hq]
  · rename_i hq; rw [if_neg hq]
    split at h
    · rename_i hq; rw [if_pos hq]
    · rename_i hq; rw [if_neg hq]
      split at h
      · rename_i hq; rw [if_pos hq]
      · rename_i hq; rw [if_neg hq]
        split at h
        · simp [er] at h
        · rename_i hq; rw [if_neg hq]
theorem wdR_ok {l : List UInt8} (h1 : 1 ≤ cz inW l) (h : (wdR l).e = 0) : 1 ≤ (wdR l).z ∧ (wdR l).z ≤ l.length := by
  have hz := cz_le inW l
  unfold wdR at *
  split at h
  · rename_i hq
    rw [if_pos hq]
    rw [Bool.and_eq_true] at hq
    have h3 := hp_le hq.1
    rw [List.length_drop] at h3
    simp at h3
    exact tmR_ok (by omega) h
  · rename_i hq
    rw [if_neg hq]
    split at h
    · rename_i hq2
      rw [if_pos hq2]
      rw [Bool.and_eq_true] at hq2
      have h3 := hp_le hq2.1
      rw [List.length_drop] at h3
      simp at h3
      exact tyR_ok (by omega) h
    · rename_i hq2
      rw [if_neg hq2]
      rw [plainW_ok h, List.length_take]
      omega
theorem nx_cons (c : UInt8) (l : List UInt8) : nx (c :: l) = if isL c then wdR (c :: l) else if dgt c then unR (c :: l) else if decide (c.toNat = 37) then adR (c :: l) else if decide (c.toNat = 10) then ⟨⟨7, 0, 0, [10]⟩, 1, 0⟩ else sgR (c :: l) := rfl
theorem nx_ok {l : List UInt8} (h0 : 0 < l.length) (h : (nx l).e = 0) : 1 ≤ (nx l).z ∧ (nx l).z ≤ l.length := by
  cases l with
  | nil => simp at h0
  | cons c l =>
    rw [nx_cons] at *
    by_cases h1 : isL c = true
    · rw [if_pos h1] at h ⊢
      refine wdR_ok ?_ h
      unfold cz
      rw [List.takeWhile_cons, show inW c = true by unfold inW; rw [h1]; rfl]
      simp
    · rw [if_neg h1] at h ⊢
      by_cases h2 : dgt c = true
      · rw [if_pos h2] at h ⊢
        have hn := (num_le (c :: l)).1
        unfold unR at *
        split at h
        · simp [er] at h
        · rename_i q; rw [if_neg q]
          split at h
          · simp [er] at h
          · rename_i q2; rw [if_neg q2]; exact ⟨by show 1 ≤ (num (c :: l)).2; omega, hn⟩
      · rw [if_neg h2] at h ⊢
        split at h
        · rename_i q; rw [if_pos q]
          have hz := adz_le (l := c :: l) h0
          unfold adR at *
          split at h
          · rename_i q; rw [if_pos q]; exact ⟨hz.2, hz.1⟩
          · rename_i q; simp [er] at h; exact absurd h q
        · rename_i q; rw [if_neg q]
          split at h
          · rename_i q; rw [if_pos q]; exact ⟨Nat.le_refl _, h0⟩
          · rename_i q; rw [if_neg q]
            have hz := sgz_le (l := c :: l) h0
            unfold sgR at *
            split at h
            · simp [er] at h
            · rename_i q; rw [if_neg q]; exact ⟨by show 1 ≤ sgz (c :: l); omega, hz.1⟩
theorem csz_le {l : List UInt8} (h2 : 2 ≤ l.length) : csz l ≤ l.length := by
  unfold csz
  split
  · exact Nat.zero_le _
  · have h := Lib.index_room (l.drop 2) [42, 41] (by omega)
    rw [List.length_drop] at h
    simp at h
    omega
/-- The cells of these tokens, at these places. -/
def tcs (L : List (Tk × Nat)) : List Value := L.flatMap fun p => [.int .i64 p.1.tok, .int .i64 p.1.kind, .int .i64 p.1.n, .string (tx p.1.text), .int .i64 p.2]
theorem tcs_app (L M : List (Tk × Nat)) : tcs (L ++ M) = tcs L ++ tcs M := by simp [tcs]
theorem tcs_len (L : List (Tk × Nat)) : (tcs L).length = L.length * 5 := by
  induction L with
  | nil => rfl
  | cons a L ih => simp only [tcs, List.flatMap_cons, List.length_append, List.length_cons] at *; rw [ih]; simp only [List.length_nil]; omega
/-- A slice of the call's own holds these tokens. -/
def Tks (base : Nat) (W : World) (v : Value) (L : List (Tk × Nat)) : Prop := W.ownsRow base 31 5 v L.length (tcs L)
theorem Tks.nil (base : Nat) (W : World) : Tks base W (.slice none 0 0) [] := ⟨rfl, Or.inl ⟨rfl, rfl⟩⟩
theorem Tks.below {base : Nat} {W W' : World} {v : Value} {L : List (Tk × Nat)} (o : Tks base W v L) (k : Below W.heap.size W W') : Tks base W' v L := by
  refine ⟨o.1, ?_⟩
  rcases o.2 with h' | ⟨g, cap, cur, rfl, hb, hg, r⟩
  · exact Or.inl h'
  · have hlt : g < W.heap.size := (World.ownsRow.lt o g rfl).2
    exact Or.inr ⟨g, cap, cur, rfl, hb, (k.block g hlt).trans hg, r⟩
theorem Tks.shape {base : Nat} {W : World} {v : Value} {L : List (Tk × Nat)} (o : Tks base W v L) : ∃ ao c, v = .slice ao L.length c := by
  rcases o.2 with ⟨rfl, h0⟩ | ⟨g, cap, cur, rfl, _⟩
  · exact ⟨none, 0, by rw [h0]⟩
  · exact ⟨_, _, rfl⟩
theorem infoTk : (Tryd.prog.info? 31).map (fun i => (i.zero, i.size, i.bytes)) = some (some (.agg #[.int .i64 0, .int .i64 0, .int .i64 0, .string ⟨#[]⟩, .int .i64 0]), 5, 48) := by kernel_rfl
theorem info_parts {P : Program} {e : TypeId} {z : Value} {n b : Nat} (h : (P.info? e).map (fun i => (i.zero, i.size, i.bytes)) = some (some z, n, b)) : ∃ i, P.info? e = some i ∧ i.zero = some z ∧ i.size = n ∧ i.bytes = b := by
  obtain ⟨i, hi, h2⟩ := Option.map_eq_some_iff.1 h
  simp only [Prod.mk.injEq] at h2
  exact ⟨i, hi, h2.1, h2.2.1, h2.2.2⟩
theorem five_cells (w : World) (e : TypeId) (x y z u v : Value) : ∀ j q, [x, y, z, u, v][j]? = some q → (w.alloc (.cells #[x, y, z, u, v] e)).cell? ((⟨w.heap.size, 0, none⟩ : Addr).add j) = some q := by
  intro j q hj
  match j, hj with
  | 0, hj => simp at hj; subst hj; simp [Addr.add]
  | 1, hj => simp at hj; subst hj; simp [Addr.add]
  | 2, hj => simp at hj; subst hj; simp [Addr.add]
  | 3, hj => simp at hj; subst hj; simp [Addr.add]
  | 4, hj => simp at hj; subst hj; simp [Addr.add]
/-- One token more. -/
theorem tks_push {base : Nat} {W : World} {v : Value} {L : List (Tk × Nat)} (o : Tks base W v L) (hL : L.length ≤ 100000) (hbase : base ≤ W.heap.size) (t : Tk) (a : Nat) :
    ∃ v' w', (Builtin.append_ #[24, 24] 24 #[v, .slice (some ⟨W.heap.size, 0, none⟩) 1 1]).run Tryd.prog (W.alloc (.cells #[.int .i64 t.tok, .int .i64 t.kind, .int .i64 t.n, .string (tx t.text), .int .i64 a] 31)) = .ok v' w' ∧ Tks base w' v' (L ++ [(t, a)]) ∧ Below base W w' := by
  obtain ⟨i0, hi, hz0, hz1, hz2⟩ := info_parts infoTk
  have oA : Tks base (W.alloc (.cells #[.int .i64 t.tok, .int .i64 t.kind, .int .i64 t.n, .string (tx t.text), .int .i64 a] 31)) v L := o.below (below_new1 W _)
  obtain ⟨v', w', hr, hown, hg, _⟩ := run_append_own (P := Tryd.prog) (W.alloc (.cells #[.int .i64 t.tok, .int .i64 t.kind, .int .i64 t.n, .string (tx t.text), .int .i64 a] 31)) base 24 24 31 i0 _ 5 48 Tryd.underlying24 hi hz0 hz1 hz2 rfl (by decide) v L.length (tcs L) oA ⟨W.heap.size, 0, none⟩ 1 1
    [.int .i64 t.tok, .int .i64 t.kind, .int .i64 t.n, .string (tx t.text), .int .i64 a] rfl (five_cells W _ _ _ _ _ _) (by intro u hu; simp at hu; rcases hu with rfl | rfl | rfl | rfl | rfl <;> rfl) (by simp only [maxLen]; omega) (by omega) (by simp; omega)
  refine ⟨v', w', hr, ?_, ?_⟩
  · unfold Tks
    rw [tcs_app, List.length_append]
    exact hown
  · have hB : Below base W (W.alloc (.cells #[.int .i64 t.tok, .int .i64 t.kind, .int .i64 t.n, .string (tx t.text), .int .i64 a] 31)) := Below.alloc (Below.refl _ _) hbase _
    exact hB.grown hg (by simp; omega) (fun k hk => (World.ownsRow.lt o k hk).1)
end Go.Proofs.YtnponognncdkcaaDoor
