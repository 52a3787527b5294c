/- Texts as rows of tokens; a text in brackets (stage 13). -/
import Derived.Test.YtgdoanhemgklpaaGreatDoorZ1
import Derived.Test.YtgdoanhemgklpaaGreatDoorZ2
import Derived.Test.YtgdoanhemgklpaaGreatDoorVD
namespace Go.Proofs.YtgdoanhemgklpaaGreatDoor
open Go.RowKit
open Adr Lx Sx
theorem at_cons {l : List UInt8} {k : Nat} {c : UInt8} {r : List UInt8} (e : l.drop k = c :: r) : ∃ h : k < l.length, l[k] = c ∧ l.drop (k + 1) = r := by
  have h : k < l.length := by
    have := congrArg List.length e
    rw [List.length_drop, List.length_cons] at this
    omega
  rw [List.drop_eq_getElem_cons h] at e
  exact ⟨h, (List.cons.inj e).1, (List.cons.inj e).2⟩
/-- Scanning p, where what stands behind it is of the sort F, tells the tokens M. -/
def Sc (F : List UInt8 → Prop) (p : List UInt8) (M : List Tk) : Prop :=
  ∀ (L : List UInt8) (k : Nat) (A : TL) (r : List UInt8), At false L k A → L.drop k = p ++ r → F r → ∃ Q : TL, Q.map Prod.fst = M ∧ At false L (k + p.length) (A ++ Q) ∧ L.drop (k + p.length) = r
theorem Sc.app {F G : List UInt8 → Prop} {p q : List UInt8} {M N : List Tk} (h : Sc F p M) (g : Sc G q N) (hf : ∀ r, G r → F (q ++ r)) : Sc G (p ++ q) (M ++ N) := by
  intro L k A r ha hd hr
  obtain ⟨Q, q1, q2, q3⟩ := h L k A (q ++ r) ha (by rw [hd, List.append_assoc]) (hf r hr)
  obtain ⟨Q', p1, p2, p3⟩ := g L _ _ r q2 q3 hr
  refine ⟨Q ++ Q', by rw [List.map_append, q1, p1], ?_, ?_⟩
  · rw [List.length_append, ← Nat.add_assoc, ← List.append_assoc]; exact p2
  · rw [List.length_append, ← Nat.add_assoc]; exact p3
theorem Sc.mono {F G : List UInt8 → Prop} {p : List UInt8} {M : List Tk} (h : Sc F p M) (hf : ∀ r, G r → F r) : Sc G p M := fun L k A r ha hd hr => h L k A r ha hd (hf r hr)
/-- Whatever stands behind; the end, or a sign that ends every token. -/
def Any (_ : List UInt8) : Prop := True
def Fo (r : List UInt8) : Prop := r = [] ∨ ∃ c m, r = c :: m ∧ Stp c
theorem sc_nil (F : List UInt8 → Prop) : Sc F [] [] := fun L k A r ha hd _ => ⟨[], rfl, by rw [List.append_nil]; exact ha, hd⟩
theorem sc_blank {c : UInt8} (hc : blk c false = true) : Sc Any [c] [] := by
  intro L k A r ha hd _
  obtain ⟨h1, h2, h3⟩ := at_cons (r := r) hd
  exact ⟨[], rfl, by rw [List.append_nil]; exact ha.blank h1 (by rw [h2]; exact hc), h3⟩
theorem sc_tok {F : List UInt8 → Prop} {p : List UInt8} {t : Tk} (hn : ∀ r, F r → nx (p ++ r) = ⟨t, p.length, 0⟩) (hb : ∃ d q, p = d :: q ∧ blk d false = false) (hc : ∀ r, F r → hp (p ++ r) [40, 42] = false) : Sc F p [t] := by
  intro L k A r ha hd hr
  have e := hn r hr
  obtain ⟨d, q, rfl, hb⟩ := hb
  obtain ⟨h1, h2, h3⟩ := at_cons (r := q ++ r) hd
  have q2 := ha.token h1 (by rw [h2]; exact hb) (by rw [hd]; exact hc r hr) (by rw [hd, e])
  rw [hd, e] at q2
  exact ⟨[(t, k)], rfl, q2, by rw [← List.drop_drop, hd, List.drop_left]⟩
theorem Sc.whole {F : List UInt8 → Prop} {p : List UInt8} {M : List Tk} (h : Sc F p M) (h0 : F []) (hl : p.length ≤ 65536) : ∃ Q : TL, Q.map Prod.fst = M ∧ toks p false = (Q ++ [(nul, p.length)], none) := by
  obtain ⟨Q, q1, q2, q3⟩ := h p 0 [] [] (At.start _ _) (by simp) h0
  have e := q2.out (by omega)
  refine ⟨Q, q1, ?_⟩
  unfold toks
  rw [if_neg (by omega), e]
  rfl
/-- A number of a kind. -/
def Lit (k : Nat) (n : Int) : Prop := (k = 0 ∧ 0 ≤ n ∧ n ≤ 4294967295) ∨ (1 ≤ k ∧ k ≤ 11 ∧ klo k ≤ n ∧ n ≤ khi k)
/-- A name. -/
structure IsN (s : List UInt8) : Prop where
  c : ∃ c r, s = c :: r ∧ isL c = true
  w : ∀ c ∈ s, inW c = true
  p : plainW s = ⟨⟨2, 0, 0, s⟩, s.length, 0⟩
  z : s.length ≤ 32
/-- What is so of every token of a text. -/
def Gk (t : Tk) : Prop := t.tok ≠ 0 ∧ (t.tok = 2 → IsN t.text) ∧ (t.tok = 3 → t.kind ≤ 10 ∧ Lit t.kind t.n) ∧ (t.tok = 4 → t.kind = 11 ∧ Lit 11 t.n)
theorem kf_le (l : List UInt8) : kf l ≤ 11 := by
  unfold kf
  cases h : (List.range 12).find? (isK l) with
  | none => exact Nat.zero_le _
  | some k =>
    have := List.mem_range.1 (List.mem_of_find?_eq_some h)
    show k ≤ 11
    omega
theorem gk_of {t : Tk} (h : t.tok = 1 ∨ t.tok = 5 ∨ t.tok = 6 ∨ t.tok = 7) : Gk t := ⟨by omega, fun e => by omega, fun e => by omega, fun e => by omega⟩
theorem gk_3 {k : Nat} {n : Int} {s : List UInt8} (hk : k ≤ 10) (h : Lit k n) : Gk ⟨3, k, n, s⟩ := ⟨by show ¬ 3 = 0; decide, fun e => absurd (show 3 = 2 from e) (by decide), fun _ => ⟨hk, h⟩, fun e => absurd (show 3 = 4 from e) (by decide)⟩
theorem gk_4 {n : Int} {s : List UInt8} (h : Lit 11 n) : Gk ⟨4, 11, n, s⟩ := ⟨by show ¬ 4 = 0; decide, fun e => absurd (show 4 = 2 from e) (by decide), fun e => absurd (show 4 = 3 from e) (by decide), fun _ => ⟨rfl, h⟩⟩
theorem gk_ltR3 {k : Nat} {n : Int} {a z : Nat} (h1 : 1 ≤ k) (h2 : k ≤ 10) (h : (ltR 3 k n a z).e = 0) : Gk (ltR 3 k n a z).t := by
  obtain ⟨_, _, h3, h4, h5⟩ := ltR_z h
  rw [h5]
  exact gk_3 h2 (Or.inr ⟨h1, by omega, h3, h4⟩)
theorem gk_ltR4 {n : Int} {a z : Nat} (h : (ltR 4 11 n a z).e = 0) : Gk (ltR 4 11 n a z).t := by
  obtain ⟨_, _, h3, h4, h5⟩ := ltR_z h
  rw [h5]
  exact gk_4 (Or.inr ⟨by decide, by decide, h3, h4⟩)
theorem gk_plain {w : List UInt8} (hc : ∃ c r, w = c :: r ∧ isL c = true) (hw : ∀ c ∈ w, inW c = true) (h : (plainW w).e = 0) : Gk (plainW w).t := by
  by_cases h1 : (w == [84, 82, 85, 69]) = true
  · have e : plainW w = ⟨tru 1, w.length, 0⟩ := by unfold plainW; rw [if_pos h1]
    rw [e]; exact gk_3 (by decide) (Or.inr (by decide))
  · by_cases h2 : (w == [70, 65, 76, 83, 69]) = true
    · have e : plainW w = ⟨tru 0, w.length, 0⟩ := by unfold plainW; rw [if_neg h1, if_pos h2]
      rw [e]; exact gk_3 (by decide) (Or.inr (by decide))
    · by_cases h3 : wrd w = true
      · have e : plainW w = ⟨⟨1, 0, 0, w⟩, w.length, 0⟩ := by unfold plainW; rw [if_neg h1, if_neg h2, if_pos h3]
        rw [e]; exact gk_of (Or.inl rfl)
      · by_cases h4 : 32 < w.length
        · have e : plainW w = er 121 := by unfold plainW; rw [if_neg h1, if_neg h2, if_neg h3, if_pos h4]
          rw [e] at h; cases h
        · have e : plainW w = ⟨⟨2, 0, 0, w⟩, w.length, 0⟩ := by unfold plainW; rw [if_neg h1, if_neg h2, if_neg h3, if_neg h4]
          rw [e]
          exact ⟨by show ¬ 2 = 0; decide, fun _ => ⟨hc, hw, e, Nat.not_lt.1 h4⟩, fun q => absurd (show 2 = 3 from q) (by decide), fun q => absurd (show 2 = 4 from q) (by decide)⟩
theorem nx_gk {l : List UInt8} (h : (nx l).e = 0) : Gk (nx l).t := by
  cases l with
  | nil => cases h
  | cons c l =>
    rw [nx_cons] at h ⊢
    by_cases h1 : isL c = true
    · rw [if_pos h1] at h ⊢
      unfold wdR at h ⊢
      split at h
      · rename_i q
        rw [if_pos q]
        unfold tmR at h ⊢
        split at h
        · rename_i q2; rw [if_pos q2]; exact gk_ltR4 h
        · rename_i q2; rw [if_neg q2]; exact gk_ltR4 h
      · rename_i q
        rw [if_neg q]
        split at h
        · rename_i q2
          rw [if_pos q2]
          have hk := kf_le ((c :: l).take (cz inW (c :: l)))
          rw [Bool.and_eq_true] at q2
          have k1 : 1 ≤ kf ((c :: l).take (cz inW (c :: l))) := by
            have := q2.2
            simp only [Bool.not_eq_true', decide_eq_false_iff_not] at this
            omega
          have k2 : kf ((c :: l).take (cz inW (c :: l))) ≤ 10 := by
            by_cases q3 : kf ((c :: l).take (cz inW (c :: l))) = 11
            · exfalso
              apply q
              rw [q2.1, decide_eq_true q3]
              rfl
            · omega
          generalize kf ((c :: l).take (cz inW (c :: l))) = k at *
          unfold tyR at h ⊢
          split at h
          · rename_i q3; rw [if_pos q3]; exact gk_3 (by decide) (Or.inr (by decide))
          · rename_i q3
            rw [if_neg q3]
            split at h
            · rename_i q4; rw [if_pos q4]; exact gk_3 (by decide) (Or.inr (by decide))
            · rename_i q4
              rw [if_neg q4]
              split at h
              · rename_i q5; rw [if_pos q5]; exact gk_ltR3 k1 k2 h
              · rename_i q5; rw [if_neg q5]; exact gk_ltR3 k1 k2 h
        · rename_i q2
          rw [if_neg q2]
          have e : (c :: l).take (cz inW (c :: l)) = (c :: l).takeWhile inW := by
            unfold cz
            exact (List.prefix_iff_eq_take.1 (List.takeWhile_prefix inW)).symm
          rw [e] at h ⊢
          have hc : inW c = true := by unfold inW; rw [h1]; rfl
          refine gk_plain ⟨c, l.takeWhile inW, by rw [List.takeWhile_cons, hc]; rfl, h1⟩ (fun d hd => ?_) h
          have := List.all_takeWhile (l := c :: l) (p := inW)
          exact List.all_eq_true.1 this d hd
    · rw [if_neg h1] at h ⊢
      by_cases h2 : dgt c = true
      · rw [if_pos h2] at h ⊢
        unfold unR at h ⊢
        split at h
        · cases h
        · rename_i q
          rw [if_neg q]
          split at h
          · cases h
          · rename_i q2; rw [if_neg q2]; exact gk_3 (by decide) (Or.inl ⟨rfl, by omega, by omega⟩)
      · rw [if_neg h2] at h ⊢
        by_cases h3 : (decide (c.toNat = 37)) = true
        · rw [if_pos h3] at h ⊢
          unfold adR at h ⊢
          split at h
          · rename_i q; rw [if_pos q]; exact gk_of (Or.inr (Or.inl rfl))
          · rename_i q; exact absurd h q
        · rw [if_neg h3] at h ⊢
          by_cases h4 : (decide (c.toNat = 10)) = true
          · rw [if_pos h4]; exact gk_of (Or.inr (Or.inr (Or.inr rfl)))
          · rw [if_neg h4] at h ⊢
            unfold sgR at h ⊢
            split at h
            · cases h
            · rename_i q; rw [if_neg q]; exact gk_of (Or.inr (Or.inr (Or.inl rfl)))
theorem index_long : ∀ {l s : List UInt8}, 0 ≤ Lib.index l s → s.length ≤ l.length
  | [], s, h => by
    unfold Lib.index at h
    cases s with
    | nil => exact Nat.le_refl _
    | cons a s => exact absurd (show (0 : Int) ≤ -1 from h) (by decide)
  | b :: l, s, h => by
    unfold Lib.index at h
    by_cases q : s.isPrefixOf (b :: l) = true
    · exact (List.isPrefixOf_iff_prefix.1 q).length_le
    · rw [if_neg q] at h
      by_cases q2 : (Lib.index l s == -1) = true
      · rw [if_pos q2] at h; exact absurd h (by decide)
      · have q3 : ¬ Lib.index l s = -1 := fun e => q2 (by rw [e]; rfl)
        have := Lib.index_ge l s
        have := index_long (l := l) (s := s) (by omega)
        rw [List.length_cons]
        omega
theorem index_app {m : List UInt8} : ∀ {l s : List UInt8}, 0 ≤ Lib.index l s → Lib.index (l ++ m) s = Lib.index l s
  | [], s, h => by
    unfold Lib.index at h
    cases s with
    | nil => cases m <;> rfl
    | cons a s => exact absurd (show (0 : Int) ≤ -1 from h) (by decide)
  | b :: l, s, h => by
    rw [List.cons_append]
    unfold Lib.index at h ⊢
    by_cases q : s.isPrefixOf (b :: l) = true
    · rw [if_pos q, if_pos (List.isPrefixOf_iff_prefix.2 ((List.isPrefixOf_iff_prefix.1 q).trans (show b :: l <+: b :: (l ++ m) from ⟨m, rfl⟩)))]
    · rw [if_neg q] at h ⊢
      by_cases q2 : (Lib.index l s == -1) = true
      · rw [if_pos q2] at h; exact absurd h (by decide)
      · have q3 : ¬ Lib.index l s = -1 := fun e => q2 (by rw [e]; rfl)
        have h0 := Lib.index_ge l s
        have hl := index_long (l := l) (s := s) (by omega)
        have q4 : ¬ s.isPrefixOf (b :: (l ++ m)) = true := fun e => q (by
          rw [List.isPrefixOf_iff_prefix] at e ⊢
          exact List.prefix_of_prefix_length_le e (show b :: l <+: b :: (l ++ m) from ⟨m, rfl⟩) (by rw [List.length_cons]; omega))
        rw [if_neg q4, index_app (l := l) (s := s) (by omega)]
theorem csz_app {l : List UInt8} (m : List UInt8) (h2 : 2 ≤ l.length) (h : ¬ csz l = 0) : csz (l ++ m) = csz l := by
  have e : 0 ≤ Lib.index (l.drop 2) [42, 41] := by
    by_cases q : Lib.index (l.drop 2) [42, 41] < 0
    · exact absurd (by unfold csz; rw [if_pos q]) h
    · omega
  unfold csz
  rw [List.drop_append_of_le_length h2, index_app e]
/-- A text that is told as tokens is told so, too, where a blank stands behind it. -/
theorem scn_sc : ∀ (f : Nat) (l : List UInt8) (a : Nat) (A B : TL), l.length ≤ f → scn false f l a A = (B, none) → ∃ Q : TL, B = A ++ Q ∧ Sc (fun r => ∃ m, r = 32 :: m) l (Q.map Prod.fst) ∧ ∀ t ∈ Q.map Prod.fst, Gk t
  | 0, l, a, A, B, hf, h => by
    have e : l = [] := List.length_eq_zero_iff.1 (by omega)
    subst e
    cases h
    exact ⟨[], by rw [List.append_nil], sc_nil _, fun t ht => by cases ht⟩
  | f + 1, [], a, A, B, hf, h => by
    cases h
    exact ⟨[], by rw [List.append_nil], sc_nil _, fun t ht => by cases ht⟩
  | f + 1, c :: l, a, A, B, hf, h => by
    rw [scn_cons] at h
    by_cases hb : blk c false = true
    · rw [if_pos hb] at h
      obtain ⟨Q, q1, q2, q3⟩ := scn_sc f l (a + 1) A B (by rw [List.length_cons] at hf; omega) h
      exact ⟨Q, q1, Sc.app (sc_blank hb) q2 (fun _ _ => trivial), q3⟩
    · rw [if_neg hb] at h
      have hb2 : blk c false = false := by simpa using hb
      by_cases hc : hp (c :: l) [40, 42] = true
      · rw [if_pos hc] at h
        by_cases h0 : csz (c :: l) = 0
        · rw [if_pos h0] at h; cases (Prod.mk.inj h).2
        · rw [if_neg h0] at h
          have h2 := hp_le hc
          have hz := csz_le (l := c :: l) h2
          have hz1 : 1 ≤ csz (c :: l) := by omega
          obtain ⟨Q, q1, q2, q3⟩ := scn_sc f ((c :: l).drop (csz (c :: l))) _ A B (by rw [List.length_drop]; omega) h
          refine ⟨Q, q1, ?_, q3⟩
          intro L k A' r ha hd hr
          obtain ⟨m, rfl⟩ := hr
          have e1 : csz (L.drop k) = csz (c :: l) := by rw [hd]; exact csz_app _ h2 h0
          have e2 : hp (L.drop k) [40, 42] = true := by
            rw [hd]
            exact hp_iff.2 ((hp_iff.1 hc).trans ⟨_, rfl⟩)
          obtain ⟨h1, h3, h4⟩ := at_cons (r := l ++ 32 :: m) hd
          have a1 := ha.comment h1 (by rw [h3]; exact hb2) e2 (by rw [e1]; exact h0)
          rw [e1] at a1
          obtain ⟨Q', p1, p2, p3⟩ := q2 L _ A' (32 :: m) a1 (by rw [← List.drop_drop, hd, List.drop_append_of_le_length hz]) ⟨m, rfl⟩
          have e3 : k + csz (c :: l) + ((c :: l).drop (csz (c :: l))).length = k + (c :: l).length := by rw [List.length_drop]; omega
          rw [e3] at p2 p3
          exact ⟨Q', p1, p2, p3⟩
      · rw [if_neg hc] at h
        by_cases he : (nx (c :: l)).e = 0
        · rw [if_pos he] at h
          have hz := nx_ok (l := c :: l) (by simp) he
          obtain ⟨Q, q1, q2, q3⟩ := scn_sc f ((c :: l).drop (nx (c :: l)).z) _ (A ++ [((nx (c :: l)).t, a)]) B (by rw [List.length_drop]; omega) h
          refine ⟨((nx (c :: l)).t, a) :: Q, by rw [q1, List.append_assoc]; rfl, ?_, ?_⟩
          · intro L k A' r ha hd hr
            obtain ⟨m, rfl⟩ := hr
            have e1 : nx (L.drop k) = nx (c :: l) := by rw [hd]; exact nx_app (Or.inl rfl) c l m
            have e2 : hp (L.drop k) [40, 42] = false := by
              rw [hd, hp_app m [40, 42] (c :: l) (by decide)]
              simpa using hc
            obtain ⟨h1, h3, h4⟩ := at_cons (r := l ++ 32 :: m) hd
            have a1 := ha.token h1 (by rw [h3]; exact hb2) e2 (by rw [e1]; exact he)
            rw [e1] at a1
            obtain ⟨Q', p1, p2, p3⟩ := q2 L _ _ (32 :: m) a1 (by rw [← List.drop_drop, hd, List.drop_append_of_le_length hz.2]) ⟨m, rfl⟩
            have e3 : k + (nx (c :: l)).z + ((c :: l).drop (nx (c :: l)).z).length = k + (c :: l).length := by rw [List.length_drop]; omega
            rw [e3] at p2 p3
            refine ⟨((nx (c :: l)).t, k) :: Q', by rw [List.map_cons, List.map_cons, p1], ?_, p3⟩
            rw [List.append_assoc] at p2
            exact p2
          · intro t ht
            rw [List.map_cons] at ht
            rcases List.mem_cons.1 ht with ht | ht
            · rw [ht]; exact nx_gk he
            · exact q3 t ht
        · rw [if_neg he] at h; cases (Prod.mk.inj h).2
theorem cu_map (T : TL) (i : Nat) : (cu T i).1 = (T.map Prod.fst).getD i nul := by
  unfold cu
  rw [List.getD_eq_getElem?_getD, List.getD_eq_getElem?_getD, List.getElem?_map]
  cases T[i]? <;> rfl
theorem getD_l {A B : List Tk} {i : Nat} (h : i < A.length) : (A ++ B).getD i nul = A.getD i nul := by
  rw [List.getD_eq_getElem?_getD, List.getD_eq_getElem?_getD, List.getElem?_append_left h]
theorem getD_r {A B : List Tk} {i : Nat} (h : A.length ≤ i) : (A ++ B).getD i nul = B.getD (i - A.length) nul := by
  rw [List.getD_eq_getElem?_getD, List.getD_eq_getElem?_getD, List.getElem?_append_right h]
/-- What Tokens tells. -/
theorem toks_sc {l : List UInt8} {T : TL} (h : toks l false = (T, none)) : ∃ M : List Tk, T.map Prod.fst = M ++ [nul] ∧ Sc (fun r => ∃ m, r = 32 :: m) l M ∧ (∀ t ∈ M, Gk t) ∧ M.length ≤ l.length := by
  unfold toks at h
  by_cases hb : 65536 < l.length
  · rw [if_pos hb] at h; cases (Prod.mk.inj h).2
  · rw [if_neg hb] at h
    obtain ⟨h1, h2⟩ := Prod.mk.inj h
    obtain ⟨Q, q1, q2, q3⟩ := scn_sc l.length l 0 [] (scn false l.length l 0 []).1 (Nat.le_refl _) (by rw [← h2])
    have hlen := scn_len false l.length l 0 []
    rw [q1, List.nil_append, List.length_nil] at hlen
    refine ⟨Q.map Prod.fst, by rw [← h1, q1, List.map_append]; rfl, q2, q3, by rw [List.length_map]; omega⟩
/-- The bracket that opens. -/
def opn : Tk := ⟨6, 0, 0, [40]⟩
def N42 (r : List UInt8) : Prop := ∀ c ∈ r.head?, ¬ c = 42
theorem hp_4042 {c : UInt8} {r : List UInt8} (h : ¬ c = 40) : hp (c :: r) [40, 42] = false := by
  rw [hp_cons, beq_eq_false_iff_ne.2 (fun e => h e.symm), Bool.false_and]
theorem sgn_one {c : UInt8} (h : c = 40 ∨ c = 41 ∨ c = 91 ∨ c = 93 ∨ c = 44 ∨ c = 43 ∨ c = 45 ∨ c = 42 ∨ c = 47) (r : List UInt8) : nx (c :: r) = ⟨⟨6, 0, 0, [c]⟩, 1, 0⟩ := by
  have e : sgz (c :: r) = 1 := by
    unfold sgz
    have e2 : two.contains ((c :: r).take 2) = false := by
      cases r with
      | nil => rcases h with rfl | rfl | rfl | rfl | rfl | rfl | rfl | rfl | rfl <;> decide
      | cons x r =>
        show two.contains [c, x] = false
        have : ¬ [c, x] ∈ two := by rcases h with rfl | rfl | rfl | rfl | rfl | rfl | rfl | rfl | rfl <;> simp [two]
        simpa using this
    rw [e2, Bool.and_false, if_neg Bool.false_ne_true, if_pos]
    show ([c].all one.contains) = true
    rcases h with rfl | rfl | rfl | rfl | rfl | rfl | rfl | rfl | rfl <;> decide
  have e3 : nx (c :: r) = sgR (c :: r) := by
    rw [nx_cons]
    rcases h with rfl | rfl | rfl | rfl | rfl | rfl | rfl | rfl | rfl <;> rfl
  rw [e3]
  unfold sgR
  rw [e]
  rfl
theorem sc_opn : Sc N42 [40] [opn] := sc_tok (fun r _ => sgn_one (Or.inl rfl) r) ⟨40, [], rfl, by decide⟩ (fun r hr => by
  cases r with
  | nil => rfl
  | cons x r =>
    have hx : ¬ x = 42 := hr x (by simp)
    show hp (40 :: x :: r) [40, 42] = false
    rw [hp_cons, hp_cons, beq_eq_false_iff_ne.2 (fun e => hx e.symm), Bool.false_and, Bool.and_false])
theorem sc_sgn {c : UInt8} (h : c = 41 ∨ c = 91 ∨ c = 93 ∨ c = 44 ∨ c = 43 ∨ c = 45 ∨ c = 42 ∨ c = 47) : Sc Any [c] [⟨6, 0, 0, [c]⟩] := by
  refine sc_tok (fun r _ => sgn_one (Or.inr h) r) ⟨c, [], rfl, ?_⟩ (fun r _ => hp_4042 ?_)
  · rcases h with rfl | rfl | rfl | rfl | rfl | rfl | rfl | rfl <;> decide
  · rcases h with rfl | rfl | rfl | rfl | rfl | rfl | rfl | rfl <;> decide
/-- A text in brackets, as tokens. -/
theorem toks_brackets {l : List UInt8} {T : TL} (h : toks l false = (T, none)) (hl : l.length ≤ 60000) : ∃ T' : TL, toks ([40, 32] ++ l ++ [32, 41]) false = (T', none) ∧ Lk T T' ∧ T.length ≤ T'.length ∧ (cu T' 0).1 = opn ∧ ∀ k, k < T.length → ck T k = 0 → (cu T' (k + 1)).1 = shut ∧ (cu T' (k + 2)).1 = nul := by
  obtain ⟨M, m1, m2, m3, m4⟩ := toks_sc h
  have s : Sc Any ([40, 32] ++ l ++ [32, 41]) ([opn] ++ [] ++ M ++ ([] ++ [shut])) := by
    refine Sc.app (F := fun r => ∃ m, r = 32 :: m) (Sc.app (F := Any) (Sc.app (F := N42) sc_opn (sc_blank (c := 32) (by decide)) ?_) m2 ?_) (Sc.app (F := Any) (sc_blank (c := 32) (by decide)) (sc_sgn (c := 41) (Or.inl rfl)) ?_) ?_
    · intro r _ c hc
      cases hc
      decide
    · exact fun _ _ => trivial
    · exact fun _ _ => trivial
    · exact fun r _ => ⟨[41] ++ r, rfl⟩
  obtain ⟨Q, q1, q2⟩ := s.whole trivial (by rw [List.length_append, List.length_append]; simp; omega)
  have e : (Q ++ [(nul, ([40, 32] ++ l ++ [32, 41]).length)]).map Prod.fst = opn :: (M ++ [shut, nul]) := by
    rw [List.map_append, q1]
    simp
  have eT : T.length = M.length + 1 := by rw [← List.length_map (f := Prod.fst), m1, List.length_append]; rfl
  refine ⟨_, q2, ?_, ?_, ?_, ?_⟩
  · intro i
    rw [cu_map, cu_map, e, m1]
    rw [List.getD_cons_succ]
    rcases Nat.lt_trichotomy i M.length with q | q | q
    · left
      rw [getD_l q, getD_l q]
    · right
      rw [getD_r (by omega), getD_r (by omega), q, Nat.sub_self]
      exact ⟨rfl, rfl⟩
    · left
      rw [getD_r (by omega), getD_r (by omega)]
      obtain ⟨j, rfl⟩ : ∃ j, i = M.length + 1 + j := ⟨i - M.length - 1, by omega⟩
      rw [show M.length + 1 + j - M.length = j + 1 by omega]
      cases j <;> rfl
  · rw [eT, ← List.length_map (f := Prod.fst), e, List.length_cons, List.length_append]
    omega
  · rw [cu_map, e]; rfl
  · intro k hk h0
    have hkM : k = M.length := by
      by_cases q : k < M.length
      · exfalso
        unfold ck at h0
        rw [cu_map, m1, getD_l q, List.getD_eq_getElem?_getD, List.getElem?_eq_getElem q] at h0
        exact (m3 _ (List.getElem_mem q)).1 h0
      · omega
    subst hkM
    constructor
    · rw [cu_map, e, List.getD_cons_succ, getD_r (by omega), Nat.sub_self]; rfl
    · rw [cu_map, e, List.getD_cons_succ, getD_r (by omega), show M.length + 1 - M.length = 1 by omega]; rfl
end Go.Proofs.YtgdoanhemgklpaaGreatDoor
