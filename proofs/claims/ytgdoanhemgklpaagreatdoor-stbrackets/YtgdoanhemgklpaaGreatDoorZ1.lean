/- An expression in brackets is itself: the reader's plain mathematics (stage 13). -/
import Derived.Test.YtgdoanhemgklpaaGreatDoorV1
namespace Go.Proofs.YtgdoanhemgklpaaGreatDoor
open Go.RowKit
open Adr Lx Sx
/-- A node without its place. -/
def sp (d : Nd) : Nd := ⟨d.op, d.kind, d.n, d.name, d.field, 0, d.ar⟩
/-- A tree without places. -/
def br (t : Tr) : Tr := fun p => (t p).map sp
theorem th_some {α β : Type} {p : Re α} {f : α → Nat → Re β} {a : α} (h : p.v = some a) : th p f = f a p.k := by unfold th; rw [h]
theorem th_none {α β : Type} {p : Re α} {f : α → Nat → Re β} (h : p.v = none) : th p f = ⟨none, p.k, p.e⟩ := by unfold th; rw [h]
theorem br_mkT {d d' : Nd} {ts ts' : List Tr} (h : sp d = sp d') (hs : ts.map br = ts'.map br) : br (mkT d ts) = br (mkT d' ts') := by
  funext p
  cases p with
  | nil => show some (sp d) = some (sp d'); rw [h]
  | cons i p =>
    have e : (ts.map br)[i]? = (ts'.map br)[i]? := by rw [hs]
    rw [List.getElem?_map, List.getElem?_map] at e
    show Option.map sp (mkT d ts (i :: p)) = Option.map sp (mkT d' ts' (i :: p))
    cases h1 : ts[i]? with
    | none =>
      cases h2 : ts'[i]? with
      | none => simp only [mkT, h1, h2]
      | some t' => rw [h1, h2] at e; cases e
    | some t =>
      cases h2 : ts'[i]? with
      | none => rw [h1, h2] at e; cases e
      | some t' =>
        rw [h1, h2] at e
        have e2 : br t = br t' := Option.some.inj e
        simp only [mkT, h1, h2]
        exact congrFun e2 p
/-- Where p reads something, q reads what goes with it, one token further; or is too deep. -/
def Sm {α β : Type} (R : α → β → Prop) (p : Re α) (q : Re β) : Prop :=
  ∀ a, p.v = some a → (q.v = none ∧ q.e = 131) ∨ ∃ b, R a b ∧ q.v = some b ∧ q.k = p.k + 1
theorem Sm.bind {α β γ δ : Type} {R : α → β → Prop} {R' : γ → δ → Prop} {p : Re α} {q : Re β} {f : α → Nat → Re γ} {g : β → Nat → Re δ} (h : Sm R p q) (k : ∀ a b m, R a b → Sm R' (f a m) (g b (m + 1))) : Sm R' (th p f) (th q g) := by
  intro c hc
  cases hp : p.v with
  | none => rw [th_none hp] at hc; cases hc
  | some a =>
    rw [th_some hp] at hc ⊢
    rcases h a hp with ⟨h1, h2⟩ | ⟨b, h1, h2, h3⟩
    · left; rw [th_none h1]; exact ⟨rfl, h2⟩
    · rw [th_some h2, h3]; exact k a b p.k h1 c hc
theorem Sm.yes {α β : Type} {R : α → β → Prop} {a : α} {b : β} {k : Nat} (h : R a b) : Sm R (ok a k) (ok b (k + 1)) := fun c hc => by
  cases hc; exact Or.inr ⟨b, h, rfl, rfl⟩
theorem Sm.nay {α β : Type} {R : α → β → Prop} {e k : Nat} {q : Re β} : Sm R (no e k) q := fun c hc => by cases hc
/-- The sign that shuts a bracket. -/
def shut : Tk := ⟨6, 0, 0, [41]⟩
/-- The tokens of T lie in T', one further; where T ends a bracket is shut. -/
def Lk (T T' : TL) : Prop := ∀ i, (cu T' (i + 1)).1 = (cu T i).1 ∨ ((cu T i).1 = nul ∧ (cu T' (i + 1)).1 = shut)
theorem Lk.is {T T' : TL} (h : Lk T T') {s : List UInt8} (h0 : s ≠ []) (h1 : s ≠ [41]) (i : Nat) : isT T' s (i + 1) = isT T s i := by
  unfold isT ct
  rcases h i with e | ⟨e1, e2⟩
  · rw [e]
  · rw [e1, e2]
    show ([41] == s) = ([] == s)
    rw [beq_eq_false_iff_ne.2 (Ne.symm h1), beq_eq_false_iff_ne.2 (Ne.symm h0)]
theorem Lk.fits {T T' : TL} (h : Lk T T') {s : List UInt8} (h0 : s ≠ []) {i : Nat} (hi : isT T s i = true) : isT T' s (i + 1) = true := by
  unfold isT ct at *
  rcases h i with e | ⟨e1, e2⟩
  · rw [e]; exact hi
  · rw [e1] at hi
    have : s = [] := (eq_of_beq hi).symm
    exact absurd this h0
theorem Lk.ck {T T' : TL} (h : Lk T T') {t : Nat} (h0 : t ≠ 0) (h1 : t ≠ 6) (i : Nat) : (ck T' (i + 1) = t) = (ck T i = t) := by
  unfold Sx.ck
  rcases h i with e | ⟨e1, e2⟩
  · rw [e]
  · rw [e1, e2]
    show (6 = t) = (0 = t)
    exact propext ⟨fun q => absurd q.symm h1, fun q => absurd q.symm h0⟩
theorem Lk.op {T T' : TL} (h : Lk T T') (i : Nat) : opr (ct T' (i + 1)) = opr (ct T i) := by
  unfold ct
  rcases h i with e | ⟨e1, e2⟩
  · rw [e]
  · rw [e1, e2]; rfl
theorem Lk.at {T T' : TL} (h : Lk T T') {i t : Nat} (hi : Sx.ck T i = t) (h0 : t ≠ 0) : (cu T' (i + 1)).1 = (cu T i).1 := by
  rcases h i with e | ⟨e1, e2⟩
  · exact e
  · unfold Sx.ck at hi; rw [e1] at hi; exact absurd hi.symm h0
def Al (t t' : Tr) : Prop := br t = br t'
theorem Lk.xp {T T' : TL} (h : Lk T T') {s : List UInt8} (h0 : s ≠ []) (i : Nat) : Sm (fun _ _ => True) (xp T s i) (xp T' s (i + 1)) := by
  unfold Sx.xp
  by_cases q : isT T s i = true
  · rw [if_pos q, if_pos (h.fits h0 q)]; exact Sm.yes trivial
  · rw [if_neg q]; exact Sm.nay
theorem Lk.tof {T T' : TL} (h : Lk T T') {t : Nat} (h0 : t ≠ 0) (h1 : t ≠ 6) (i : Nat) : Sm (fun a b => a.1 = b.1) (tof T t i) (tof T' t (i + 1)) := by
  unfold Sx.tof
  by_cases q : Sx.ck T i = t
  · rw [if_pos q, if_pos (by rw [h.ck h0 h1]; exact q)]; exact Sm.yes (h.at q h0).symm
  · rw [if_neg q]; exact Sm.nay
theorem al_bin {op pl pl' : Nat} {t t' r r' : Tr} (h : Al t t') (k : Al r r') : Al (bin2 op pl t r) (bin2 op pl' t' r') := by
  have h : br t = br t' := h
  have k : br r = br r' := k
  exact br_mkT rfl (by rw [List.map_cons, List.map_cons, List.map_cons, List.map_cons, h, k])
theorem bl_sim {T T' : TL} (L : Lk T T') (lv : Nat) {b b' : Nat → Re Tr} (hb : ∀ i, Sm Al (b i) (b' (i + 1))) : ∀ (f f' : Nat) (t t' : Tr) (k : Nat), f ≤ f' → Al t t' → Sm Al (bl T lv b f t k) (bl T' lv b' f' t' (k + 1))
  | 0, _, _, _, _, _, _ => Sm.nay
  | f + 1, 0, _, _, _, hf, _ => by omega
  | f + 1, f' + 1, t, t', k, hf, ht => by
    unfold bl
    rw [L.op k]
    split
    · exact Sm.yes ht
    · refine Sm.bind (hb (k + 1)) fun r r' m hr => ?_
      split
      · exact Sm.yes (al_bin ht hr)
      · exact bl_sim L lv hb f f' _ _ m (by omega) (al_bin ht hr)
theorem bi_sim {T T' : TL} (L : Lk T T') (hl : T.length ≤ T'.length) {u u' : Nat → Re Tr} (hu : ∀ i, Sm Al (u i) (u' (i + 1))) : ∀ (c i : Nat), Sm Al (bi T u c i) (bi T' u' c (i + 1))
  | 0, i => hu i
  | c + 1, i => by
    unfold bi
    exact Sm.bind (bi_sim L hl hu c i) fun t t' k ht => bl_sim L _ (bi_sim L hl hu c) _ _ t t' k (by omega) ht
theorem rp_sim {α β : Type} {R : α → β → Prop} {g g' : Nat → Bool} {b : α → Nat → Re α} {b' : β → Nat → Re β} (hg : ∀ i, g' (i + 1) = g i) (hb : ∀ a a' i, R a a' → Sm R (b a i) (b' a' (i + 1))) : ∀ (f f' : Nat) (a : α) (a' : β) (k : Nat), f ≤ f' → R a a' → Sm R (rp g b f a k) (rp g' b' f' a' (k + 1))
  | 0, _, _, _, _, _, _ => Sm.nay
  | f + 1, 0, _, _, _, hf, _ => by omega
  | f + 1, f' + 1, a, a', k, hf, ha => by
    unfold rp
    rw [hg k]
    split
    · exact Sm.bind (hb a a' k ha) fun c c' m hc => rp_sim hg hb f f' c c' m (by omega) hc
    · exact Sm.yes ha
theorem Lk.beg {T T' : TL} (h : Lk T T') (i : Nat) : beg T' (i + 1) = beg T i := by
  unfold Sx.beg
  simp only [h.ck (t := 2) (by decide) (by decide) i, h.ck (t := 3) (by decide) (by decide) i, h.ck (t := 4) (by decide) (by decide) i]
  rw [h.is (by decide) (by decide), h.is (by decide) (by decide), h.is (by decide) (by decide)]
theorem Lk.litT {T T' : TL} (h : Lk T T') (i : Nat) : Sm Al (litT T i) (litT T' (i + 1)) := by
  have e : ∀ a b : Tk × Nat, a.1 = b.1 → Al (litOf a) (litOf b) := fun a b q => by
    unfold litOf
    refine br_mkT ?_ rfl
    unfold sp
    rw [q]
  unfold Sx.litT
  simp only [h.ck (t := 4) (by decide) (by decide) i]
  split
  · rename_i q
    exact Sm.yes (e _ _ (h.at q (by decide)).symm)
  · exact Sm.bind (h.tof (by decide) (by decide) i) fun a b k q => Sm.yes (e _ _ q)
theorem Lk.vr {T T' : TL} (h : Lk T T') {x x' : Nat → Re Tr} (hx : ∀ i, Sm Al (x i) (x' (i + 1))) (t t' : Tk × Nat) (ht : t.1 = t'.1) (i : Nat) : Sm Al (vr T x t i) (vr T' x' t' (i + 1)) := by
  unfold Sx.vr
  rw [h.is (by decide) (by decide), h.is (by decide) (by decide)]
  split
  · refine Sm.bind (h.tof (by decide) (by decide) (i + 1)) fun a b k q => Sm.yes ?_
    refine br_mkT ?_ rfl
    unfold sp
    rw [q, ht]
  · split
    · refine Sm.bind (hx (i + 1)) fun a b k q => Sm.bind (h.xp (by decide) k) fun _ _ m _ => Sm.yes ?_
      refine br_mkT ?_ ?_
      · unfold sp
        rw [ht]
      · have q : br a = br b := q
        rw [List.map_cons, List.map_cons, q, List.map_nil]
    · refine Sm.yes ?_
      unfold plainV
      refine br_mkT ?_ rfl
      unfold sp
      rw [ht]
theorem Lk.cal {T T' : TL} (h : Lk T T') (hl : T.length ≤ T'.length) {x x' : Nat → Re Tr} (hx : ∀ i, Sm Al (x i) (x' (i + 1))) (t t' : Tk × Nat) (ht : t.1 = t'.1) (i : Nat) : Sm Al (cal T x t i) (cal T' x' t' (i + 1)) := by
  unfold Sx.cal
  refine Sm.bind (hx i) fun a b k q => ?_
  have q : br a = br b := q
  refine Sm.bind (R := fun (l l' : List Tr) => l.map br = l'.map br) (rp_sim (fun j => h.is (by decide) (by decide) j) (fun l l' j hl2 => ?_) _ _ _ _ k (by omega) (by rw [List.map_cons, List.map_cons, q])) fun l l' m hll => ?_
  · refine Sm.bind (hx (j + 1)) fun c d z hc => Sm.yes ?_
    have hc : br c = br d := hc
    rw [List.map_append, List.map_append, hl2, List.map_cons, List.map_cons, hc]
  · refine Sm.bind (h.xp (by decide) m) fun _ _ z _ => Sm.yes ?_
    refine br_mkT ?_ hll
    unfold sp
    rw [ht, show l.length = l'.length by rw [← List.length_map (f := br), hll, List.length_map]]
theorem una_sim {T T' : TL} (h : Lk T T') (hl : T.length ≤ T'.length) : ∀ (d d' i : Nat), Sm Al (una T d i) (una T' d' (i + 1))
  | 0, _, i => by
    unfold una
    split <;> exact Sm.nay
  | d + 1, 0, i => by
    intro a ha
    left
    unfold una at ha ⊢
    rw [h.beg i]
    cases hb : beg T i with
    | false => rw [hb] at ha; cases ha
    | true => exact ⟨rfl, rfl⟩
  | d + 1, d' + 1, i => by
    unfold una
    rw [h.beg i, h.is (by decide) (by decide), h.is (by decide) (by decide)]
    have u1 : ∀ op, Sm Al (un1 op (ca T i) (una T d (i + 1))) (un1 op (ca T' (i + 1)) (una T' d' (i + 1 + 1))) := fun op => by
      unfold un1
      refine Sm.bind (una_sim h hl d d' (i + 1)) fun a b k q => Sm.yes ?_
      have q : br a = br b := q
      exact br_mkT rfl (by rw [List.map_cons, List.map_cons, q, List.map_nil])
    split
    · exact Sm.nay
    · split
      · exact u1 3
      · split
        · exact u1 4
        · have hx := bi_sim h hl (una_sim h hl d d') 6
          unfold pri
          rw [h.is (by decide) (by decide), h.is (by decide) (by decide)]
          simp only [h.ck (t := 2) (by decide) (by decide) i]
          split
          · exact Sm.bind (hx (i + 1)) fun a b k q => Sm.bind (h.xp (by decide) k) fun _ _ m _ => Sm.yes q
          · split
            · rename_i q2
              have e := (h.at q2 (by decide)).symm
              split
              · exact h.cal hl hx _ _ e (i + 2)
              · exact h.vr hx _ _ e (i + 1)
            · exact h.litT i
theorem xpr_sim {T T' : TL} (h : Lk T T') (hl : T.length ≤ T'.length) (d d' i : Nat) : Sm Al (xpr T d i) (xpr T' d' (i + 1)) := bi_sim h hl (una_sim h hl d d') 6 i
/-- No operator stands behind what was read: that is all. -/
theorem bl_stop {T : TL} {lv : Nat} {b : Nat → Re Tr} {t : Tr} {k : Nat} (h : opr (ct T k) = (0, 0)) (f : Nat) : bl T lv b (f + 1) t k = ok t k := by
  unfold bl
  rw [h]
  rfl
theorem bi_stop {T : TL} {u : Nat → Re Tr} {i : Nat} {t : Tr} {k : Nat} (hu : u i = ok t k) (h : opr (ct T k) = (0, 0)) : ∀ c, bi T u c i = ok t k
  | 0 => hu
  | c + 1 => by
    unfold bi
    rw [bi_stop hu h c]
    exact bl_stop h T.length
theorem bi_none {T : TL} {u : Nat → Re Tr} {i : Nat} (hu : (u i).v = none) : ∀ c, (bi T u c i).v = none ∧ (bi T u c i).e = (u i).e
  | 0 => ⟨hu, rfl⟩
  | c + 1 => by
    obtain ⟨h1, h2⟩ := bi_none (T := T) hu c
    unfold bi
    rw [th_none h1]
    exact ⟨rfl, h2⟩
/-- What a whole text's expression comes to. -/
theorem onl_out {T : TL} {t : Tr} {k : Nat} (h : xpr T 32 0 = ok t k) (h0 : ck T k = 0) : onl T = ok t k := by
  unfold onl
  rw [h]
  show th (endT T k) _ = _
  unfold endT
  rw [if_pos h0]
  rfl
theorem onl_none {T : TL} (h : (xpr T 32 0).v = none) : onl T = no (xpr T 32 0).e (xpr T 32 0).k := by
  unfold onl
  rw [th_none h]
  rfl
theorem onl_in {T : TL} {t : Tr} {k : Nat} (h : onl T = ok t k) : (xpr T 32 0).v = some t ∧ (xpr T 32 0).k = k ∧ ck T k = 0 := by
  unfold onl at h
  cases hv : (xpr T 32 0).v with
  | none => rw [th_none hv] at h; cases h
  | some a =>
    rw [th_some hv] at h
    unfold endT at h
    by_cases q : ck T (xpr T 32 0).k = 0
    · rw [if_pos q] at h
      cases h
      exact ⟨rfl, rfl, q⟩
    · rw [if_neg q] at h; cases h
/-- An expression in brackets: itself, or too deep. -/
theorem onl_brackets {T T' : TL} {t : Tr} {k : Nat} (h : onl T = ok t k) (L : Lk T T') (hl : T.length ≤ T'.length) (h0 : (cu T' 0).1 = ⟨6, 0, 0, [40]⟩) (h1 : (cu T' (k + 1)).1 = shut) (h2 : (cu T' (k + 2)).1 = nul) : (∃ e, onl T' = no 131 e) ∨ ∃ t' m, br t' = br t ∧ onl T' = ok t' m := by
  obtain ⟨a1, a2, a3⟩ := onl_in h
  have b0 : isT T' [40] 0 = true := by unfold isT ct; rw [h0]; rfl
  have b1 : beg T' 0 = true := by unfold beg; rw [b0, Bool.or_true]
  have b2 : isT T' [45] 0 = false := by unfold isT ct; rw [h0]; rfl
  have b3 : isT T' [78, 79, 84] 0 = false := by unfold isT ct; rw [h0]; rfl
  have e : una T' 32 0 = th (bi T' (una T' 31) 6 1) fun a k => th (xp T' [41] k) fun _ m => ok a m := by
    show una T' (31 + 1) 0 = _
    unfold una
    rw [b1, b2, b3]
    show pri T' (bi T' (una T' 31) 6) 0 = _
    unfold pri
    rw [if_pos b0]
  rcases xpr_sim L hl 32 31 0 t a1 with ⟨c1, c2⟩ | ⟨b, c1, c2, c3⟩
  · left
    have d1 : (una T' 32 0).v = none ∧ (una T' 32 0).e = 131 := by
      have c1 : (bi T' (una T' 31) 6 1).v = none := c1
      rw [e, th_none c1]
      exact ⟨rfl, c2⟩
    obtain ⟨d3, d4⟩ := bi_none (T := T') d1.1 6
    refine ⟨(xpr T' 32 0).k, ?_⟩
    rw [onl_none d3]
    show no (bi T' (una T' 32) 6 0).e _ = _
    rw [d4, d1.2]
  · right
    have c4 : (bi T' (una T' 31) 6 1).k = k + 1 := c3.trans (by rw [a2])
    have d1 : una T' 32 0 = ok b (k + 2) := by
      have c2 : (bi T' (una T' 31) 6 1).v = some b := c2
      rw [e, th_some c2, c4]
      show th (xp T' [41] (k + 1)) _ = _
      unfold xp
      rw [if_pos (by unfold isT ct; rw [h1]; rfl)]
      rfl
    have d2 : xpr T' 32 0 = ok b (k + 2) := bi_stop d1 (by unfold ct; rw [h2]; rfl) 6
    exact ⟨b, k + 2, c1.symm, onl_out d2 (by unfold ck; rw [h2]; rfl)⟩
end Go.Proofs.YtgdoanhemgklpaaGreatDoor
