/- Slots, in plain mathematics: what holds between calls, and what a write does to it (stage 9). -/
import Derived.Test.YtoiadofoclgnoaaM4
namespace Go.Proofs.Ytoiadofoclgnoaa
open Go.RowKit
open Pdu
/-- Nothing was ever laid. -/
def InvN (s : SS) : Prop := (∀ i, i < 4 → (Rs s i).t = 0) ∧ Bg s = false
/-- r is what is found. -/
structure InvS (s : SS) (n : Nat) (r : Rc) (T : Nat) : Prop where
  t0 : r.t ≠ 0
  tT : r.t ≤ T
  len : r.l.length = n
  is : ∃ i, i < 4 ∧ Rs s i = r
  top : ∀ i, i < 4 → (Rs s i).t ≤ r.t
  uniq : ∀ i, i < 4 → (Rs s i).t = r.t → Rs s i = r
  lens : ∀ i, i < 4 → (Rs s i).t ≠ 0 → (Rs s i).l.length = n
/-- What was laid last. -/
abbrev Last := Option (Nat × List Int)
def Ivr (s : SS) (n T : Nat) (o : Last) : Prop := match o with
  | none => InvN s
  | some x => ∃ t, InvS s n ⟨t, x.1, x.2⟩ T
/-- .. and the journal knows. -/
def Sd (s : SS) (n T slot turn : Nat) (o : Last) : Prop := match o with
  | none => InvN s ∧ slot = 1 ∧ turn = 0
  | some x => InvS s n ⟨turn, x.1, x.2⟩ T ∧ slot < 2 ∧ Rs s (2 * slot) = ⟨turn, x.1, x.2⟩ ∧ Rs s (2 * slot + 1) = ⟨turn, x.1, x.2⟩
theorem Sd.ivr {s : SS} {n T slot turn : Nat} {o : Last} (h : Sd s n T slot turn o) : Ivr s n T o := by
  cases o with
  | none => exact h.1
  | some x => exact ⟨turn, h.1⟩
theorem Sd.slot {s : SS} {n T slot turn : Nat} {o : Last} (h : Sd s n T slot turn o) : slot < 2 := by
  cases o with
  | none => have := h.2.1; omega
  | some x => exact h.2.1
theorem Sd.turn {s : SS} {n T slot turn : Nat} {o : Last} (h : Sd s n T slot turn o) : turn ≤ T := by
  cases o with
  | none => have := h.2.2; omega
  | some x => exact h.1.tT
theorem InvS.rise {s : SS} {n T : Nat} {r : Rc} (h : InvS s n r T) {T' : Nat} (hT : T ≤ T') : InvS s n r T' := ⟨h.t0, Nat.le_trans h.tT hT, h.len, h.is, h.top, h.uniq, h.lens⟩
theorem Ivr.rise {s : SS} {n T : Nat} {o : Last} (h : Ivr s n T o) {T' : Nat} (hT : T ≤ T') : Ivr s n T' o := by
  cases o with
  | none => exact h
  | some x => obtain ⟨t, h⟩ := h; exact ⟨t, h.rise hT⟩
/-- All blocks but a are as they were. -/
def But (a : Nat) (s s' : SS) : Prop := ∀ j : Nat, j ≠ a → s'.row j = s.row j
theorem But.rs {a : Nat} {s s' : SS} (h : But a s s') {j : Nat} (hj : j ≠ a) : Rs s' j = Rs s j := by unfold Rs; rw [h j hj]
theorem But.bg {s s' : SS} (h : But 0 s s') : Bg s' = Bg s := by
  unfold Bg
  show (bgn (s'.row ((1 : Nat) : Int)) || bgn (s'.row ((2 : Nat) : Int)) || bgn (s'.row ((3 : Nat) : Int))) = (bgn (s.row ((1 : Nat) : Int)) || bgn (s.row ((2 : Nat) : Int)) || bgn (s.row ((3 : Nat) : Int)))
  rw [h 1 (by decide), h 2 (by decide), h 3 (by decide)]
/-- Behind the first write of a slot. -/
structure Mid (s : SS) (n T a turn : Nat) (r : Rc) : Prop where
  is : Rs s a = r
  rt : r.t = turn + 1
  rl : r.l.length = n
  le : turn ≤ T
  low : ∀ i, i < 4 → i ≠ a → (Rs s i).t ≤ turn
  lens : ∀ i, i < 4 → i ≠ a → (Rs s i).t ≠ 0 → (Rs s i).l.length = n
theorem Sd.mid {s s' : SS} {n T slot turn : Nat} {o : Last} {r : Rc} (h : Sd s n T slot turn o) (hb : But (2 * (1 - slot)) s s') (hr : Rs s' (2 * (1 - slot)) = r) (ht : r.t = turn + 1) (hl : r.l.length = n) : Mid s' n T (2 * (1 - slot)) turn r := by
  refine ⟨hr, ht, hl, h.turn, fun i hi hne => ?_, fun i hi hne => ?_⟩
  · rw [hb.rs hne]
    cases o with
    | none => rw [h.1.1 i hi]; omega
    | some x => exact h.1.top i hi
  · rw [hb.rs hne]
    cases o with
    | none => intro q; exact absurd (h.1.1 i hi) q
    | some x => exact h.1.lens i hi
theorem Mid.ivr {s : SS} {n T a turn sc : Nat} {l : List Int} (h : Mid s n T a turn ⟨turn + 1, sc, l⟩) (ha : a < 4) : Ivr s n (T + 1) (some (sc, l)) := by
  have hle := h.le
  refine ⟨turn + 1, by simp, by show turn + 1 ≤ T + 1; omega, h.rl, ⟨a, ha, h.is⟩, fun i hi => ?_, fun i hi => ?_, fun i hi => ?_⟩
  · by_cases e : i = a
    · rw [e, h.is]; exact Nat.le_refl _
    · have := h.low i hi e; show _ ≤ turn + 1; omega
  · intro q
    by_cases e : i = a
    · rw [e, h.is]
    · have := h.low i hi e
      have q : (Rs s i).t = turn + 1 := q
      omega
  · by_cases e : i = a
    · rw [e, h.is]; exact fun _ => h.rl
    · exact h.lens i hi e
/-- A first write that tore. -/
theorem Sd.tore {s s' : SS} {n T slot turn : Nat} {o : Last} (h : Sd s n T slot turn o) (hb : But (2 * (1 - slot)) s s') (hr : Rs s' (2 * (1 - slot)) = Rs s (2 * (1 - slot)) ∨ Rs s' (2 * (1 - slot)) = r0) : Ivr s' n T o := by
  have key : ∀ i, i < 4 → Rs s' i = Rs s i ∨ (Rs s' i = r0 ∧ i = 2 * (1 - slot)) := by
    intro i hi
    by_cases e : i = 2 * (1 - slot)
    · subst e
      rcases hr with hr | hr
      · exact Or.inl hr
      · exact Or.inr ⟨hr, rfl⟩
    · exact Or.inl (hb.rs e)
  cases o with
  | none =>
    obtain ⟨h1, h2, h3⟩ := h
    subst h2
    refine ⟨fun i hi => ?_, ?_⟩
    · rcases key i hi with e | ⟨e, _⟩
      · rw [e]; exact h1.1 i hi
      · rw [e]; rfl
    · have : But 0 s s' := hb
      rw [this.bg]
      exact h1.2
  | some x =>
    obtain ⟨h1, h2, h3, h4⟩ := h
    have hne : 2 * slot ≠ 2 * (1 - slot) := by omega
    refine ⟨turn, h1.t0, h1.tT, h1.len, ⟨2 * slot, by omega, by rw [hb.rs hne]; exact h3⟩, fun i hi => ?_, fun i hi => ?_, fun i hi => ?_⟩
    · rcases key i hi with e | ⟨e, _⟩
      · rw [e]; exact h1.top i hi
      · rw [e]; exact Nat.zero_le _
    · rcases key i hi with e | ⟨e, _⟩
      · rw [e]; exact h1.uniq i hi
      · rw [e]; intro q; exact absurd q.symm h1.t0
    · rcases key i hi with e | ⟨e, _⟩
      · rw [e]; exact h1.lens i hi
      · rw [e]; intro q; exact absurd rfl q
/-- The second write, whole or not. -/
theorem Mid.nxt {s s' : SS} {n T a turn : Nat} {r : Rc} (h : Mid s n T a turn r) (hb : But (a + 1) s s') (hr : Rs s' (a + 1) = Rs s (a + 1) ∨ Rs s' (a + 1) = r0) : Mid s' n T a turn r := by
  refine ⟨by rw [hb.rs (by omega)]; exact h.is, h.rt, h.rl, h.le, fun i hi hne => ?_, fun i hi hne => ?_⟩
  · by_cases e : i = a + 1
    · subst e
      rcases hr with e | e
      · rw [e]; exact h.low _ hi hne
      · rw [e]; exact Nat.zero_le _
    · rw [hb.rs e]; exact h.low i hi hne
  · by_cases e : i = a + 1
    · subst e
      rcases hr with e | e
      · rw [e]; exact h.lens _ hi hne
      · rw [e]; intro q; exact absurd rfl q
    · rw [hb.rs e]; exact h.lens i hi hne
theorem Mid.both {s s' : SS} {n T a turn sc : Nat} {l : List Int} (h : Mid s n T a turn ⟨turn + 1, sc, l⟩) (hb : But (a + 1) s s') (hr : Rs s' (a + 1) = ⟨turn + 1, sc, l⟩) (ha : a = 0 ∨ a = 2) : InvS s' n ⟨turn + 1, sc, l⟩ (T + 1) ∧ Rs s' a = ⟨turn + 1, sc, l⟩ := by
  have hle := h.le
  have e0 : Rs s' a = ⟨turn + 1, sc, l⟩ := by rw [hb.rs (by omega)]; exact h.is
  have key : ∀ i, i < 4 → Rs s' i = ⟨turn + 1, sc, l⟩ ∨ ((Rs s' i).t ≤ turn ∧ ((Rs s' i).t ≠ 0 → (Rs s' i).l.length = n)) := by
    intro i hi
    by_cases e : i = a + 1
    · rw [e]; exact Or.inl hr
    · by_cases e2 : i = a
      · rw [e2]; exact Or.inl e0
      · right
        rw [hb.rs e]
        exact ⟨h.low i hi e2, h.lens i hi e2⟩
  refine ⟨⟨by simp, by show turn + 1 ≤ T + 1; omega, h.rl, ⟨a, by omega, e0⟩, fun i hi => ?_, fun i hi => ?_, fun i hi => ?_⟩, e0⟩
  · rcases key i hi with e | e
    · rw [e]; exact Nat.le_refl _
    · have := e.1; show _ ≤ turn + 1; omega
  · intro q
    rcases key i hi with e | e
    · exact e
    · have := e.1
      have q : (Rs s' i).t = turn + 1 := q
      omega
  · rcases key i hi with e | e
    · rw [e]; exact fun _ => h.rl
    · exact e.2
/-- The newest record of n numbers is what was laid last. -/
theorem InvS.nw {s : SS} {n T : Nat} {r : Rc} (h : InvS s n r T) {m a : Int} (hm : m = -1 ∨ m = (n : Int)) (hn : NwK (Rs s) m 4 a) : ∃ j : Nat, j < 4 ∧ a = j ∧ Rs s j = r := by
  obtain ⟨i, hi, hr⟩ := h.is
  have ho : okr (Rs s) m i := ⟨by rw [hr]; exact h.t0, by rw [hr, h.len]; exact hm⟩
  rcases hn with ⟨_, hn⟩ | ⟨j, hj, rfl, hjo, hmax⟩
  · exact absurd ho (hn i hi)
  · refine ⟨j, hj, rfl, h.uniq j hj ?_⟩
    have h1 := hmax i hi ho
    rw [hr] at h1
    have h2 := h.top j hj
    omega
theorem InvN.nw {s : SS} (h : InvN s) {m a : Int} (hn : NwK (Rs s) m 4 a) : a = -1 := by
  rcases hn with ⟨rfl, _⟩ | ⟨j, hj, rfl, hjo, _⟩
  · rfl
  · exact absurd (h.1 j hj) hjo.1
theorem InvS.sc {s : SS} {n T sc : Nat} {r : Rc} (h : InvS s n r T) (hs : ScOf (Rs s) sc) : sc = r.s := by
  obtain ⟨i, hi, hr⟩ := h.is
  rcases hs with ⟨_, h0⟩ | ⟨j, hj, rfl, _, hmax⟩
  · exact absurd (by rw [← hr]; exact h0 i hi) h.t0
  · have h1 := hmax i hi
    rw [hr] at h1
    have h2 := h.top j hj
    rw [h.uniq j hj (by omega)]
/-- The other block of the slot, mended. -/
theorem InvS.mend {s s' : SS} {n T o : Nat} {r : Rc} (h : InvS s n r T) {j : Nat} (hj : j < 4) (hr : Rs s j = r) (hne : o ≠ j) (hb : But o s s') (hq : Rs s' o = Rs s o ∨ Rs s' o = r0 ∨ Rs s' o = r) : InvS s' n r T := by
  have key : ∀ i, i < 4 → Rs s' i = Rs s i ∨ Rs s' i = r0 ∨ Rs s' i = r := by
    intro i hi
    by_cases e : i = o
    · subst e; exact hq
    · exact Or.inl (hb.rs e)
  refine ⟨h.t0, h.tT, h.len, ⟨j, hj, by rw [hb.rs (fun e => hne e.symm)]; exact hr⟩, fun i hi => ?_, fun i hi => ?_, fun i hi => ?_⟩
  · rcases key i hi with e | e | e
    · rw [e]; exact h.top i hi
    · rw [e]; exact Nat.zero_le _
    · rw [e]; exact Nat.le_refl _
  · rcases key i hi with e | e | e
    · rw [e]; exact h.uniq i hi
    · rw [e]; intro q; exact absurd q.symm h.t0
    · rw [e]; exact fun _ => rfl
  · rcases key i hi with e | e | e
    · rw [e]; exact h.lens i hi
    · rw [e]; intro q; exact absurd rfl q
    · rw [e]; exact fun _ => h.len
/-- What a write of a record does. -/
structure Wd (s s' : SS) (i : Nat) (r : Rc) (e : Nat) : Prop where
  but : But i s s'
  sz : s'.sz = s.sz
  len : s'.rows.length = s.rows.length
  n : s'.n ≤ s.n + 1
  how : (e = 0 ∧ s'.dead = false ∧ Rs s' i = r ∧ (s.lft < 0 → s'.lft < 0)) ∨ (e = 82 ∧ s.lft = 0 ∧ s'.dead = true ∧ (Rs s' i = Rs s i ∨ Rs s' i = r0 ∨ Rs s' i = r))
/-- Blocks that were written are whole, the others are as they were. -/
def Kp (s s' : SS) : Prop := ∀ i : Nat, i < 4 → s'.row i = s.row i ∨ (Rs s' i).t ≠ 0
theorem Kp.refl (s : SS) : Kp s s := fun _ _ => Or.inl rfl
theorem Kp.trans {a b c : SS} (h : Kp a b) (k : Kp b c) : Kp a c := by
  intro i hi
  rcases k i hi with e | e
  · rcases h i hi with e2 | e2
    · exact Or.inl (e.trans e2)
    · refine Or.inr ?_
      unfold Rs at e2 ⊢
      rw [e]
      exact e2
  · exact Or.inr e
theorem Wd.kp {s s' : SS} {i : Nat} {r : Rc} (h : Wd s s' i r 0) (ht : r.t ≠ 0) : Kp s s' := by
  intro j hj
  by_cases e : j = i
  · subst e
    rcases h.how with ⟨_, _, hr, _⟩ | ⟨q, _⟩
    · exact Or.inr (by rw [hr]; exact ht)
    · cases q
  · exact Or.inl (h.but j e)
theorem row_set (s : SS) (i j : Nat) (b : List Nat) (n : Nat) (d : Bool) (l p : Int) (hi : i < s.rows.length) : SS.row ⟨s.sz, s.rows.set ((i : Int)).toNat b, n, d, l, p⟩ (j : Int) = if i = j then b else s.row j := by
  unfold SS.row
  simp only [Int.toNat_natCast]
  rw [List.getD_eq_getElem?_getD, List.getElem?_set]
  by_cases h : i = j
  · subst h
    simp [hi]
  · simp [h, List.getD_eq_getElem?_getD]
theorem wrt_rec {s s' : SS} {i e : Nat} {r : Rc} {p q : List Nat} (o : s.Ok) (hf : s.fit = true) (hd : s.dead = false) (hi : i < 4) (hI : Ints r.l) (hl : 36 + 8 * r.l.length ≤ s.sz) (ht : r.t < 18446744073709551616) (hs : r.s < 18446744073709551616) (hp : ∀ k, stm p k = stm (pk s.sz r.t r.s r.l) k) (W : Wrt s i p s' e q) : Wd s s' i r e := by
  obtain ⟨k, hk1, hk3, hk2, hk4, _, rfl, rfl⟩ := W
  have hf2 := fit_is hf
  have hz := o.hi
  have hi2 : i < s.rows.length := by omega
  have he : s.err (i : Int) = 0 := by unfold SS.err; rw [hd, if_neg (by decide), if_neg (by omega)]
  have hlen : (stm p k).length = s.sz := by rw [hp k, stm_len, pk_len hl]
  have hrow := (o.row hi2).1
  have hu : unp (stm p k) = r := by rw [hp k]; exact unp_pk hl hz hI ht hs (by omega)
  have hE : s.errW i s.sz = if s.lft = 0 then 82 else 0 := by
    unfold SS.errW
    rw [if_neg (by rw [he]; simp), if_neg (by simp)]
  have hW : s.wr i (stm p k) = if s.lft = 0 then s.torn i (stm p k) else s.dn i (stm p k) := by
    unfold SS.wr
    rw [if_neg (by rw [he, hlen]; simp)]
  rw [hE, hW]
  by_cases h0 : s.lft = 0
  · rw [if_pos h0, if_pos h0]
    have hc := clip_le s.sz s.pre
    refine ⟨fun j hj => ?_, rfl, by simp [SS.torn], by simp [SS.torn], Or.inr ⟨rfl, h0, rfl, ?_⟩⟩
    · unfold SS.torn
      rw [row_set s i j _ _ _ _ _ hi2, if_neg (fun e => hj e.symm)]
    · have e1 : Rs (s.torn i (stm p k)) i = unp ((stm p k).take (clip s.sz s.pre) ++ (s.row i).drop (clip s.sz s.pre)) := by
        unfold Rs SS.torn
        rw [row_set s i i _ _ _ _ _ hi2, if_pos rfl]
      rw [e1]
      by_cases c0 : clip s.sz s.pre = 0
      · left
        rw [c0, List.take_zero, List.drop_zero]
        rfl
      · by_cases c1 : clip s.sz s.pre = s.sz
        · right; right
          rw [c1, List.take_of_length_le (by omega), List.drop_eq_nil_of_le (by omega), List.append_nil, hu]
        · right; left
          refine unp_torn (k := k) (by rw [hlen, hrow]) (by omega) ?_ hk4 (by omega) (by omega)
          rw [hp k, stm_is hl]
          rfl
  · rw [if_neg h0, if_neg h0]
    refine ⟨fun j hj => ?_, rfl, by simp [SS.dn], by simp [SS.dn], Or.inl ⟨rfl, hd, ?_, fun q => ?_⟩⟩
    · unfold SS.dn
      rw [row_set s i j _ _ _ _ _ hi2, if_neg (fun e => hj e.symm)]
    · unfold Rs SS.dn
      rw [row_set s i i _ _ _ _ _ hi2, if_pos rfl, hu]
    · show (if 0 < s.lft then s.lft - 1 else s.lft) < 0
      rw [if_neg (by omega)]
      exact q
end Go.Proofs.Ytoiadofoclgnoaa
