/- What an expression's tree is written as; every tree that was read can be written (stage 13). -/
import Derived.Test.YtgdoanhemgklpaaGreatDoorZ3
namespace Go.Proofs.YtgdoanhemgklpaaGreatDoor
open Go.RowKit
open Adr Lx Sx
/-- A literal's text. -/
def kdt (k : Nat) : List UInt8 := if k = 0 then [] else nmK k ++ [35]
def ltx (k : Nat) (n : Int) : List UInt8 :=
  if k = 11 then (if n < 0 then [84, 35, 45] ++ dgs 10 (-n).toNat ++ [109, 115] else [84, 35] ++ dgs 10 n.toNat ++ [109, 115])
  else if n < 0 then kdt k ++ [45] ++ dgs 10 (-n).toNat else kdt k ++ dgs 10 n.toNat
/-- An operator's text. -/
def opw : Nat → List UInt8
  | 5 => [42]
  | 6 => [47]
  | 7 => [77, 79, 68]
  | 8 => [43]
  | 9 => [45]
  | 10 => [60]
  | 11 => [62]
  | 12 => [60, 61]
  | 13 => [62, 61]
  | 14 => [61]
  | 15 => [60, 62]
  | 16 => [65, 78, 68]
  | 17 => [88, 79, 82]
  | 18 => [79, 82]
  | _ => []
theorem opw_len (o : Nat) : (opw o).length ≤ 3 := by unfold opw; split <;> decide
/-- A node's text, with its operands' texts. -/
def Nl (nd : Nd) (ls : List (List UInt8)) (l : List UInt8) : Prop :=
  (nd.op = 1 ∧ nd.name = [] ∧ nd.field = [] ∧ ls = [] ∧ Lit nd.kind nd.n ∧ l = ltx nd.kind nd.n) ∨
  (nd.op = 2 ∧ nd.kind = 0 ∧ nd.n = 0 ∧ IsN nd.name ∧ ((ls = [] ∧ nd.field = [] ∧ l = nd.name) ∨ (ls = [] ∧ IsN nd.field ∧ l = nd.name ++ [46] ++ nd.field) ∨ (∃ a, ls = [a] ∧ nd.field = [] ∧ l = nd.name ++ [91] ++ a ++ [93]))) ∨
  ((nd.op = 3 ∨ nd.op = 4) ∧ nd.kind = 0 ∧ nd.n = 0 ∧ nd.name = [] ∧ nd.field = [] ∧ ∃ a, ls = [a] ∧ l = (if nd.op = 3 then [45, 32] else [78, 79, 84, 32]) ++ ([40] ++ a ++ [41])) ∨
  (nd.op = 19 ∧ nd.kind = 0 ∧ nd.n = 0 ∧ nd.field = [] ∧ IsN nd.name ∧ ∃ a r, ls = a :: r ∧ l = nd.name ++ [40] ++ a ++ (r.flatMap fun b => [44, 32] ++ b) ++ [41]) ∨
  (5 ≤ nd.op ∧ nd.op ≤ 18 ∧ nd.kind = 0 ∧ nd.n = 0 ∧ nd.name = [] ∧ nd.field = [] ∧ ∃ a b, ls = [a, b] ∧ l = [40] ++ a ++ [41] ++ [32] ++ opw nd.op ++ [32] ++ ([40] ++ b ++ [41]))
/-- A tree is written so; d: more than its depth. -/
def Pr : Nat → Tr → List UInt8 → Prop
  | 0, _, _ => False
  | d + 1, t, l => ∃ nd ts ls, t = mkT nd ts ∧ nd.ar = ts.length ∧ ls.length = ts.length ∧ (∀ (j : Nat) (a : Tr) (b : List UInt8), ts[j]? = some a → ls[j]? = some b → Pr d a b) ∧ Nl nd ls l
theorem Pr.deeper : ∀ {d d' : Nat} {t : Tr} {l : List UInt8}, Pr d t l → d ≤ d' → Pr d' t l
  | 0, _, _, _, h, _ => h.elim
  | d + 1, 0, _, _, _, hd => by omega
  | d + 1, d' + 1, t, l, ⟨nd, ts, ls, h1, h2, h3, h4, h5⟩, hd => ⟨nd, ts, ls, h1, h2, h3, fun j a b ha hb => (h4 j a b ha hb).deeper (by omega), h5⟩
theorem Pr.leaf {nd : Nd} {l : List UInt8} (ha : nd.ar = 0) (h : Nl nd [] l) : Pr 1 (mkT nd []) l := ⟨nd, [], [], rfl, ha, rfl, fun j a b q => (by cases j <;> cases q), h⟩
theorem Pr.node1 {D : Nat} {nd : Nd} {t : Tr} {a l : List UInt8} (ha : nd.ar = 1) (ht : Pr D t a) (h : Nl nd [a] l) : Pr (D + 1) (mkT nd [t]) l := by
  refine ⟨nd, [t], [a], rfl, ha, rfl, fun j x y hx hy => ?_, h⟩
  cases j with
  | zero => cases hx; cases hy; exact ht
  | succ j => cases hx
theorem Pr.node2 {D D' : Nat} {nd : Nd} {t u : Tr} {a b l : List UInt8} (ha : nd.ar = 2) (ht : Pr D t a) (hu : Pr D' u b) (h : Nl nd [a, b] l) : Pr (max D D' + 1) (mkT nd [t, u]) l := by
  refine ⟨nd, [t, u], [a, b], rfl, ha, rfl, fun j x y hx hy => ?_, h⟩
  cases j with
  | zero => cases hx; cases hy; exact ht.deeper (Nat.le_max_left _ _)
  | succ j =>
    cases j with
    | zero => cases hx; cases hy; exact hu.deeper (Nat.le_max_right _ _)
    | succ j => cases hx
theorem dgs_le10 {n : Nat} (h : n ≤ 4294967295) : (dgs 10 n).length ≤ 10 ∧ 1 ≤ (dgs 10 n).length := dgs_len (b := 10) (by omega) 9 n (Nat.lt_of_le_of_lt h (by decide))
theorem kdt_le (k : Nat) (hk : k ≤ 11) : (kdt k).length ≤ 6 := by
  have hc : k = 0 ∨ k = 1 ∨ k = 2 ∨ k = 3 ∨ k = 4 ∨ k = 5 ∨ k = 6 ∨ k = 7 ∨ k = 8 ∨ k = 9 ∨ k = 10 ∨ k = 11 := by omega
  rcases hc with rfl | rfl | rfl | rfl | rfl | rfl | rfl | rfl | rfl | rfl | rfl | rfl <;> decide
theorem lit_range {k : Nat} {n : Int} (h : Lit k n) : k ≤ 11 ∧ -2147483648 ≤ n ∧ n ≤ 4294967295 ∧ (n < 0 → 1 ≤ k ∧ klo k < 0) := by
  rcases h with ⟨rfl, h1, h2⟩ | ⟨h0, h1, h2, h3⟩
  · exact ⟨by omega, by omega, by omega, fun q => by omega⟩
  · have hc : k = 1 ∨ k = 2 ∨ k = 3 ∨ k = 4 ∨ k = 5 ∨ k = 6 ∨ k = 7 ∨ k = 8 ∨ k = 9 ∨ k = 10 ∨ k = 11 := by omega
    refine ⟨h1, ?_, ?_, fun q => ⟨h0, by omega⟩⟩
    · have : -2147483648 ≤ klo k := by rcases hc with rfl | rfl | rfl | rfl | rfl | rfl | rfl | rfl | rfl | rfl | rfl <;> decide
      omega
    · have : khi k ≤ 4294967295 := by rcases hc with rfl | rfl | rfl | rfl | rfl | rfl | rfl | rfl | rfl | rfl | rfl <;> decide
      omega
theorem ltx_len {k : Nat} {n : Int} (h : Lit k n) : (ltx k n).length ≤ 20 := by
  obtain ⟨h1, h2, h3, _⟩ := lit_range h
  have hk := kdt_le k h1
  have a1 := (dgs_le10 (n := n.toNat) (by omega)).1
  have a2 := (dgs_le10 (n := (-n).toNat) (by omega)).1
  unfold ltx
  split
  · split
    · simp only [List.length_append, List.length_cons, List.length_nil]; omega
    · simp only [List.length_append, List.length_cons, List.length_nil]; omega
  · split
    · simp only [List.length_append, List.length_cons, List.length_nil]; omega
    · simp only [List.length_append]; omega
/-- What a tree that was read from i on is written as. -/
def Wr (i k : Nat) (t : Tr) : Prop := ∃ D l, Pr D t l ∧ l.length ≤ 40 * (k - i)
def Gd (T : TL) (i : Nat) (p : Re Tr) : Prop := ∀ t, p.v = some t → i < p.k ∧ p.k < T.length ∧ Wr i p.k t
/-- The tokens of a text. -/
def GT (T : TL) : Prop := ∀ i, (cu T i).1 = nul ∨ (i + 1 < T.length ∧ Gk (cu T i).1)
theorem GT.text {T : TL} (h : GT T) {s : List UInt8} (hs : s ≠ []) {i : Nat} (hi : isT T s i = true) : i + 1 < T.length := by
  rcases h i with e | ⟨e, _⟩
  · unfold isT ct at hi
    rw [e] at hi
    exact absurd (eq_of_beq hi).symm hs
  · exact e
theorem GT.sort {T : TL} (h : GT T) {t i : Nat} (hi : ck T i = t) (ht : t ≠ 0) : i + 1 < T.length ∧ Gk (cu T i).1 := by
  rcases h i with e | e
  · unfold ck at hi
    rw [e] at hi
    exact absurd hi.symm ht
  · exact e
theorem ite_both {α : Type} {P : α → Prop} {c : Prop} [Decidable c] {a b : α} (ha : P a) (hb : P b) : P (if c then a else b) := by split; exact ha; exact hb
theorem opr_range (s : List UInt8) : (opr s).1 = 0 ∨ (5 ≤ (opr s).1 ∧ (opr s).1 ≤ 18 ∧ s ≠ []) := by
  by_cases hs : s = []
  · subst hs; left; rfl
  · have : (fun x : Nat × Nat => x.1 = 0 ∨ (5 ≤ x.1 ∧ x.1 ≤ 18)) (opr s) := by
      unfold opr
      repeat (refine ite_both (P := fun x : Nat × Nat => x.1 = 0 ∨ (5 ≤ x.1 ∧ x.1 ≤ 18)) (Or.inr ⟨by decide, by decide⟩) ?_)
      exact Or.inl rfl
    rcases this with q | ⟨q1, q2⟩
    · exact Or.inl q
    · exact Or.inr ⟨q1, q2, hs⟩
theorem wr_bin {i k m op pl : Nat} {t r : Tr} (h1 : 5 ≤ op) (h2 : op ≤ 18) (hi : i ≤ k) (hm : k + 1 ≤ m) (ht : Wr i k t) (hr : Wr (k + 1) m r) : Wr i m (bin2 op pl t r) := by
  obtain ⟨D, a, p1, p2⟩ := ht
  obtain ⟨D', b, q1, q2⟩ := hr
  refine ⟨_, _, Pr.node2 rfl p1 q1 (Or.inr (Or.inr (Or.inr (Or.inr ⟨h1, h2, rfl, rfl, rfl, rfl, a, b, rfl, rfl⟩)))), ?_⟩
  have := opw_len op
  simp only [List.length_append, List.length_cons, List.length_nil]
  omega
theorem bl_gd {T : TL} (G : GT T) (lv : Nat) {b : Nat → Re Tr} (hb : ∀ i, i < T.length → Gd T i (b i)) : ∀ (f : Nat) (t : Tr) (k i : Nat), i < k → k < T.length → Wr i k t → Gd T i (bl T lv b f t k)
  | 0, _, _, _, _, _, _ => fun t h => by cases h
  | f + 1, t, k, i, hi, hk, ht => by
    unfold bl
    split
    · intro c hc
      cases hc
      exact ⟨hi, hk, ht⟩
    · rename_i q
      have q0 : ¬ (opr (ct T k)).1 = 0 := fun e => q (by rw [decide_eq_true e]; rfl)
      rcases opr_range (ct T k) with e | ⟨e1, e2, e3⟩
      · exact absurd e q0
      · have hk1 : k + 1 < T.length := by
          rcases G k with e | ⟨e, _⟩
          · unfold ct at e3; rw [e] at e3; exact absurd rfl e3
          · exact e
        intro c hc
        cases hp : (b (k + 1)).v with
        | none => rw [th_none hp] at hc; cases hc
        | some r =>
          obtain ⟨g1, g2, g3⟩ := hb (k + 1) hk1 r hp
          rw [th_some hp] at hc ⊢
          have w := wr_bin (op := (opr (ct T k)).1) (pl := ca T k) e1 e2 (by omega) (by omega) ht g3
          by_cases h3 : lv = 3
          · rw [if_pos h3] at hc ⊢
            cases hc
            exact ⟨by show i < (b (k + 1)).k; omega, g2, w⟩
          · rw [if_neg h3] at hc ⊢
            exact bl_gd G lv hb f _ _ i (by omega) g2 w c hc
theorem bi_gd {T : TL} (G : GT T) {u : Nat → Re Tr} (hu : ∀ i, i < T.length → Gd T i (u i)) : ∀ (c i : Nat), i < T.length → Gd T i (bi T u c i)
  | 0, i, hi => hu i hi
  | c + 1, i, hi => by
    unfold bi
    intro t ht
    cases hp : (bi T u c i).v with
    | none => rw [th_none hp] at ht; cases ht
    | some a =>
      obtain ⟨g1, g2, g3⟩ := bi_gd G hu c i hi a hp
      rw [th_some hp] at ht ⊢
      exact bl_gd G _ (bi_gd G hu c) _ _ _ i g1 g2 g3 t ht
/-- Going on behind something that was read. -/
theorem Gd.bind {T : TL} {i : Nat} {p : Re Tr} {f : Tr → Nat → Re Tr} {j : Nat} (h : Gd T j p) (k : ∀ a m, j < m → m < T.length → Wr j m a → Gd T i (f a m)) : Gd T i (th p f) := by
  intro c hc
  cases hp : p.v with
  | none => rw [th_none hp] at hc; cases hc
  | some a =>
    obtain ⟨g1, g2, g3⟩ := h a hp
    rw [th_some hp] at hc ⊢
    exact k a p.k g1 g2 g3 c hc
theorem gd_ok {T : TL} {i k : Nat} {t : Tr} (h1 : i < k) (h2 : k < T.length) (h3 : Wr i k t) : Gd T i (ok t k) := fun c hc => by cases hc; exact ⟨h1, h2, h3⟩
theorem gd_no {T : TL} {i e k : Nat} : Gd T i (no e k) := fun c hc => by cases hc
theorem gd_xp {T : TL} (G : GT T) {s : List UInt8} (hs : s ≠ []) {i k : Nat} {f : Unit → Nat → Re Tr} (h : k + 1 < T.length → Gd T i (f () (k + 1))) : Gd T i (th (xp T s k) f) := by
  unfold xp
  by_cases q : isT T s k = true
  · rw [if_pos q]; exact h (G.text hs q)
  · rw [if_neg q]; exact gd_no
theorem wr_lit {T : TL} {i : Nat} (hl : Lit (cu T i).1.kind (cu T i).1.n) : Wr i (i + 1) (litOf (cu T i)) :=
  ⟨1, _, Pr.leaf rfl (Or.inl ⟨rfl, rfl, rfl, rfl, hl, rfl⟩), Nat.le_trans (ltx_len hl) (by omega)⟩
theorem lit_gd {T : TL} (G : GT T) {i : Nat} : Gd T i (litT T i) := by
  unfold litT
  by_cases h4 : ck T i = 4
  · rw [if_pos h4]
    obtain ⟨g1, g2⟩ := G.sort h4 (by decide)
    have q := g2.2.2.2 h4
    exact gd_ok (by omega) g1 (wr_lit (by rw [q.1]; exact q.2))
  · rw [if_neg h4]
    unfold tof
    by_cases h3 : ck T i = 3
    · rw [if_pos h3]
      obtain ⟨g1, g2⟩ := G.sort h3 (by decide)
      have q := g2.2.2.1 h3
      show Gd T i (ok (litOf (cu T i)) (i + 1))
      exact gd_ok (by omega) g1 (wr_lit q.2)
    · rw [if_neg h3]; exact gd_no
theorem vr_gd {T : TL} (G : GT T) {x : Nat → Re Tr} (hx : ∀ i, i < T.length → Gd T i (x i)) {i : Nat} (h2 : ck T i = 2) : Gd T i (vr T x (cu T i) (i + 1)) := by
  obtain ⟨g1, g2⟩ := G.sort h2 (by decide)
  have hn := g2.2.1 h2
  unfold vr
  by_cases q1 : isT T [46] (i + 1) = true
  · rw [if_pos q1]
    unfold tof
    by_cases q2 : ck T (i + 1 + 1) = 2
    · rw [if_pos q2]
      obtain ⟨f1, f2⟩ := G.sort q2 (by decide)
      have hf := f2.2.1 q2
      show Gd T i (ok (mkT ⟨2, 0, 0, (cu T i).1.text, (cu T (i + 1 + 1)).1.text, (cu T i).2, 0⟩ []) (i + 1 + 1 + 1))
      refine gd_ok (by omega) f1 ⟨1, _, Pr.leaf rfl (Or.inr (Or.inl ⟨rfl, rfl, rfl, hn, Or.inr (Or.inl ⟨rfl, hf, rfl⟩)⟩)), ?_⟩
      have := hn.z
      have := hf.z
      simp only [List.length_append, List.length_cons, List.length_nil]
      omega
    · rw [if_neg q2]; exact gd_no
  · rw [if_neg q1]
    by_cases q2 : isT T [91] (i + 1) = true
    · rw [if_pos q2]
      have := G.text (by decide) q2
      refine Gd.bind (hx (i + 1 + 1) this) fun a m hm1 hm2 hm3 => gd_xp G (by decide) fun hm4 => gd_ok (by omega) hm4 ?_
      obtain ⟨D, l, p1, p2⟩ := hm3
      refine ⟨D + 1, _, Pr.node1 rfl p1 (Or.inr (Or.inl ⟨rfl, rfl, rfl, hn, Or.inr (Or.inr ⟨l, rfl, rfl, rfl⟩)⟩)), ?_⟩
      have := hn.z
      simp only [List.length_append, List.length_cons, List.length_nil]
      omega
    · rw [if_neg q2]
      refine gd_ok (by omega) g1 ⟨1, _, Pr.leaf rfl (Or.inr (Or.inl ⟨rfl, rfl, rfl, hn, Or.inl ⟨rfl, rfl, rfl⟩⟩)), ?_⟩
      have := hn.z
      show (cu T i).1.text.length ≤ _
      omega
/-- Arguments that were read. -/
def Wrs (i k : Nat) (ts : List Tr) : Prop := ∃ D a r, (a :: r).length = ts.length ∧ (∀ (j : Nat) (x : Tr) (y : List UInt8), ts[j]? = some x → (a :: r)[j]? = some y → Pr D x y) ∧ (a ++ (r.flatMap fun b => [44, 32] ++ b)).length ≤ 40 * (k - i)
theorem wrs_more {i k m : Nat} {ts : List Tr} {t : Tr} (hi : i ≤ k) (hm : k + 1 ≤ m) (h : Wrs i k ts) (ht : Wr (k + 1) m t) : Wrs i m (ts ++ [t]) := by
  obtain ⟨D, a, r, h1, h2, h3⟩ := h
  obtain ⟨D', b, p1, p2⟩ := ht
  refine ⟨max D D', a, r ++ [b], ?_, ?_, ?_⟩
  · simp only [List.length_cons, List.length_append, List.length_nil] at h1 ⊢; omega
  · intro j x y hx hy
    rw [← List.cons_append] at hy
    by_cases q : j < ts.length
    · rw [List.getElem?_append_left q] at hx
      rw [List.getElem?_append_left (by omega)] at hy
      exact (h2 j x y hx hy).deeper (Nat.le_max_left _ _)
    · rw [List.getElem?_append_right (by omega)] at hx
      rw [List.getElem?_append_right (by omega), h1] at hy
      generalize j - ts.length = z at hx hy
      cases z with
      | zero => cases hx; cases hy; exact p1.deeper (Nat.le_max_right _ _)
      | succ z => cases hx
  · rw [List.flatMap_append, ← List.append_assoc, List.length_append]
    simp only [List.flatMap_cons, List.flatMap_nil, List.length_append, List.length_cons, List.length_nil] at h3 ⊢
    omega
theorem rp_gd {T : TL} (G : GT T) {x : Nat → Re Tr} (hx : ∀ i, i < T.length → Gd T i (x i)) : ∀ (f : Nat) (ts : List Tr) (k i : Nat), i < k → k < T.length → Wrs i k ts → ∀ us, (rp (isT T [44]) (fun l m => th (x (m + 1)) fun a z => ok (l ++ [a]) z) f ts k).v = some us → i < (rp (isT T [44]) (fun l m => th (x (m + 1)) fun a z => ok (l ++ [a]) z) f ts k).k ∧ (rp (isT T [44]) (fun l m => th (x (m + 1)) fun a z => ok (l ++ [a]) z) f ts k).k < T.length ∧ Wrs i (rp (isT T [44]) (fun l m => th (x (m + 1)) fun a z => ok (l ++ [a]) z) f ts k).k us
  | 0, _, _, _, _, _, _ => fun us h => by cases h
  | f + 1, ts, k, i, hi, hk, ht => by
    intro us
    unfold rp
    by_cases q : isT T [44] k = true
    · rw [if_pos q]
      have hk1 := G.text (by decide) q
      cases hp : (x (k + 1)).v with
      | none => rw [th_none (p := x (k + 1)) hp]; intro h; cases h
      | some a =>
        obtain ⟨g1, g2, g3⟩ := hx (k + 1) hk1 a hp
        rw [th_some (p := x (k + 1)) hp]
        exact rp_gd G hx f (ts ++ [a]) (x (k + 1)).k i (by omega) g2 (wrs_more (by omega) (by omega) ht g3) us
    · rw [if_neg q]
      intro h
      cases h
      exact ⟨hi, hk, ht⟩
theorem cal_gd {T : TL} (G : GT T) {x : Nat → Re Tr} (hx : ∀ i, i < T.length → Gd T i (x i)) {i : Nat} (h2 : ck T i = 2) (hi : i + 2 < T.length) : Gd T i (cal T x (cu T i) (i + 2)) := by
  obtain ⟨g1, g2⟩ := G.sort h2 (by decide)
  have hn := g2.2.1 h2
  unfold cal
  refine Gd.bind (hx (i + 2) hi) fun a m hm1 hm2 hm3 => ?_
  obtain ⟨D, l, p1, p2⟩ := hm3
  have w0 : Wrs (i + 2) m [a] := by
    refine ⟨D, l, [], rfl, fun j x y hx hy => ?_, by rw [List.flatMap_nil, List.append_nil]; exact p2⟩
    cases j with
    | zero => cases hx; cases hy; exact p1
    | succ j => cases hx
  have R := rp_gd G hx (T.length + 1) [a] m (i + 2) hm1 hm2 w0
  generalize rp (isT T [44]) (fun l m => th (x (m + 1)) fun a z => ok (l ++ [a]) z) (T.length + 1) [a] m = p at R
  intro t ht
  cases hp : p.v with
  | none => rw [th_none hp] at ht; cases ht
  | some us =>
    obtain ⟨r1, r2, D2, b, r, r3, r4, r5⟩ := R us hp
    rw [th_some hp] at ht ⊢
    refine gd_xp (i := i) (f := fun _ z => ok (mkT ⟨19, 0, 0, (cu T i).1.text, [], (cu T i).2, us.length⟩ us) z) G (by decide) (fun hz => gd_ok (by omega) hz ?_) t ht
    refine ⟨D2 + 1, _, ⟨_, us, b :: r, rfl, rfl, r3, r4, Or.inr (Or.inr (Or.inr (Or.inl ⟨rfl, rfl, rfl, rfl, hn, b, r, rfl, rfl⟩)))⟩, ?_⟩
    have := hn.z
    simp only [List.length_append, List.length_cons, List.length_nil] at r5 ⊢
    show (cu T i).1.text.length + _ + _ + _ + _ ≤ _
    omega
theorem una_gd {T : TL} (G : GT T) : ∀ (d i : Nat), i < T.length → Gd T i (una T d i)
  | 0, i, _ => by
    unfold una
    split <;> exact gd_no
  | d + 1, i, hi => by
    have u1 : ∀ op, (op = 3 ∨ op = 4) → i + 1 < T.length → Gd T i (un1 op (ca T i) (una T d (i + 1))) := fun op ho h1 => by
      unfold un1
      refine Gd.bind (una_gd G d (i + 1) h1) fun a m hm1 hm2 hm3 => gd_ok (by omega) hm2 ?_
      obtain ⟨D, l, p1, p2⟩ := hm3
      refine ⟨D + 1, _, Pr.node1 rfl p1 (Or.inr (Or.inr (Or.inl ⟨ho, rfl, rfl, rfl, rfl, l, rfl, rfl⟩))), ?_⟩
      rw [List.length_append]
      simp only [List.length_append, List.length_cons, List.length_nil]
      have e2 : (if op = 3 then ([45, 32] : List UInt8) else [78, 79, 84, 32]).length ≤ 4 := by rcases ho with rfl | rfl <;> decide
      omega
    unfold una
    split
    · exact gd_no
    · split
      · rename_i q; exact u1 3 (Or.inl rfl) (G.text (by decide) q)
      · split
        · rename_i q; exact u1 4 (Or.inr rfl) (G.text (by decide) q)
        · have hx := bi_gd G (una_gd G d) 6
          unfold pri
          split
          · rename_i q
            refine Gd.bind (hx (i + 1) (G.text (by decide) q)) fun a m hm1 hm2 hm3 => gd_xp G (by decide) fun hm4 => gd_ok (by omega) hm4 ?_
            obtain ⟨D, l, p1, p2⟩ := hm3
            exact ⟨D, l, p1, by omega⟩
          · split
            · rename_i q2
              split
              · rename_i q3; exact cal_gd G hx q2 (G.text (by decide) q3)
              · exact vr_gd G hx q2
            · exact lit_gd G
/-- What was read can be written, in so many signs. -/
theorem onl_wr {T : TL} {t : Tr} {k : Nat} (G : GT T) (h0 : 0 < T.length) (h : onl T = ok t k) : k < T.length ∧ ∃ D l, Pr D t l ∧ l.length ≤ 40 * k := by
  obtain ⟨a1, a2, a3⟩ := onl_in h
  obtain ⟨g1, g2, D, l, p1, p2⟩ := bi_gd G (una_gd G 32) 6 0 h0 t a1
  have a2 : (bi T (una T 32) 6 0).k = k := a2
  rw [a2] at g1 g2 p2
  exact ⟨g2, D, l, p1, by omega⟩
theorem toks_gt {l : List UInt8} {T : TL} (h : toks l false = (T, none)) : GT T ∧ 0 < T.length ∧ T.length ≤ l.length + 1 := by
  obtain ⟨M, m1, m2, m3, m4⟩ := toks_sc h
  have eT : T.length = M.length + 1 := by rw [← List.length_map (f := Prod.fst), m1, List.length_append]; rfl
  refine ⟨fun i => ?_, by omega, by omega⟩
  rw [cu_map, m1]
  by_cases q : i < M.length
  · right
    rw [getD_l q, List.getD_eq_getElem?_getD, List.getElem?_eq_getElem q]
    exact ⟨by omega, m3 _ (List.getElem_mem q)⟩
  · left
    rw [getD_r (by omega)]
    generalize i - M.length = z
    cases z <;> rfl
end Go.Proofs.YtgdoanhemgklpaaGreatDoor
