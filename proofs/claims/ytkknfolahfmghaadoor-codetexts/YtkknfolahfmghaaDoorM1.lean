/- Code in plain mathematics: the ways through it (stage 20). -/
import Derived.Test.YtkknfolahfmghaaDoorF1
namespace Go.Proofs.YtkknfolahfmghaaDoor
open Go.RowKit
open Fb
namespace Cod
/-- An instruction. -/
structure Ins where
  op : Int
  a : Int
  b : Int
  c : Int
  name : ByteArray
/-- What an operator takes off, and puts on (of OpPick the least). -/
def tk (k : Nat) : Nat := [0, 0, 0, 1, 1, 1, 2, 1, 1, 2, 1, 2, 1, 2, 2, 3, 1, 1, 0, 1, 1, 0, 0, 0, 1].getD k 0
def pt (k : Nat) : Nat := [0, 1, 1, 0, 1, 1, 0, 1, 1, 1, 1, 1, 1, 1, 1, 1, 2, 0, 0, 0, 0, 0, 0, 0, 2].getD k 0
def more (x : Ins) : Nat := if x.op = 24 then x.a.toNat else 0
def Ins.t (x : Ins) : Nat := tk x.op.toNat + more x
def Ins.p (x : Ins) : Nat := pt x.op.toNat + more x
def Ins.dl (x : Ins) (d : Nat) : Nat := d - x.t + x.p
/-- Too few numbers, or too many. -/
def Ins.bad (x : Ins) (d : Nat) : Prop := d < x.t ∨ 256 < x.dl d
def Ins.jmp (x : Ins) : Prop := x.op = 18 ∨ x.op = 19 ∨ x.op = 20
def Ins.falls (x : Ins) : Prop := x.op ≠ 23 ∧ x.op ≠ 18
/-- From one place and depth to the next. -/
def goes (L : List Ins) (s r : Nat × Nat) : Prop := ∃ x, L[s.1]? = some x ∧ ¬ x.bad s.2 ∧ r.2 = x.dl s.2 ∧ ((x.jmp ∧ r.1 = x.a.toNat) ∨ (x.falls ∧ r.1 = s.1 + 1 ∧ s.1 + 1 < L.length))
def fault (L : List Ins) (s : Nat × Nat) : Prop := ∃ x, L[s.1]? = some x ∧ (x.bad s.2 ∨ (x.falls ∧ s.1 + 1 = L.length))
def Reach (L : List Ins) (s : Nat × Nat) : Prop := ∀ P : Nat × Nat → Prop, P (0, 0) → (∀ q r, P q → goes L q r → P r) → P s
theorem Reach.start {L : List Ins} : Reach L (0, 0) := fun _ h _ => h
theorem Reach.step {L : List Ins} {s r : Nat × Nat} (h : Reach L s) (g : goes L s r) : Reach L r := fun P h0 hs => hs s r (h P h0 hs) g
def Wrong (L : List Ins) (i : Nat) : Prop := ∃ d, Reach L (i, d) ∧ (fault L (i, d) ∨ ∃ e, Reach L (i, e) ∧ e ≠ d)
/-- n is the least number that is wrong; the code's length: none is. -/
structure Fin (L : List Ins) (n : Nat) : Prop where
  le : n ≤ L.length
  low : ∀ i, i < n → ¬ Wrong L i
  at_ : n < L.length → Wrong L n
theorem Fin.unique {L : List Ins} {n m : Nat} (h : Fin L n) (k : Fin L m) : n = m := by
  rcases Nat.lt_trichotomy n m with q | q | q
  · exact absurd (h.at_ (Nat.lt_of_lt_of_le q k.le)) (k.low n q)
  · exact q
  · exact absurd (k.at_ (Nat.lt_of_lt_of_le q h.le)) (h.low m q)
/-- While ways are gone: S was come to, T is to be gone on from, X is being gone on from. -/
structure Inv (L : List Ins) (S T : List (Nat × Nat)) (X : Nat × Nat → Prop) (wr : Nat) : Prop where
  nd : S.Nodup
  tnd : T.Nodup
  sub : ∀ q, q ∈ T → q ∈ S
  start : (0, 0) ∈ S
  rng : ∀ q, q ∈ S → q.1 < L.length ∧ q.2 ≤ 256
  reach : ∀ q, q ∈ S → Reach L q
  clo : ∀ q, q ∈ S → q ∉ T → ¬ X q → (∀ r, goes L q r → r ∈ S) ∧ (fault L q → wr ≤ q.1)
  le : wr ≤ L.length
  snd : wr < L.length → Wrong L wr
/-- No place has two depths ahead of wr. -/
def Two (S : List (Nat × Nat)) (wr : Nat) : Prop := ∀ i d e, (i, d) ∈ S → (i, e) ∈ S → d ≠ e → wr ≤ i
def nox (_ : Nat × Nat) : Prop := False
theorem Inv.init {L : List Ins} (h : 0 < L.length) : Inv L [(0, 0)] [(0, 0)] nox L.length where
  nd := by simp
  tnd := by simp
  sub := fun q h => h
  start := by simp
  rng := fun q hq => by simp at hq; subst hq; exact ⟨h, by decide⟩
  reach := fun q hq => by simp at hq; subst hq; exact .start
  clo := fun q hq hn _ => absurd hq hn
  le := Nat.le_refl _
  snd := fun h => absurd h (Nat.lt_irrefl _)
theorem Two.init (n : Nat) : Two [(0, 0)] n := fun i d e h k hne => by
  simp only [List.mem_singleton, Prod.mk.injEq] at h k
  omega
theorem Inv.pop {L : List Ins} {S T : List (Nat × Nat)} {q : Nat × Nat} {wr : Nat} (h : Inv L S (T ++ [q]) nox wr) : Inv L S T (· = q) wr := by
  have ha := List.nodup_append.1 h.tnd
  refine ⟨h.nd, ha.1, fun r hr => h.sub r (by simp [hr]), h.start, h.rng, h.reach, fun r hr hn hx => h.clo r hr (fun hm => ?_) (fun hf => hf), h.le, h.snd⟩
  rcases List.mem_append.1 hm with hm | hm
  · exact hn hm
  · exact hx (by simpa using hm)
theorem Inv.add {L : List Ins} {S T : List (Nat × Nat)} {X : Nat × Nat → Prop} {r : Nat × Nat} {wr : Nat} (h : Inv L S T X wr) (hr : Reach L r) (h1 : r.1 < L.length) (h2 : r.2 ≤ 256) (hn : r ∉ S) : Inv L (S ++ [r]) (T ++ [r]) X wr where
  nd := List.nodup_append.2 ⟨h.nd, by simp, fun a ha b hb e => by simp at hb; subst hb; subst e; exact hn ha⟩
  tnd := List.nodup_append.2 ⟨h.tnd, by simp, fun a ha b hb e => by simp at hb; subst hb; subst e; exact hn (h.sub _ ha)⟩
  sub := fun q hq => by
    rcases List.mem_append.1 hq with hq | hq
    · exact List.mem_append.2 (Or.inl (h.sub q hq))
    · exact List.mem_append.2 (Or.inr hq)
  start := List.mem_append.2 (Or.inl h.start)
  rng := fun q hq => by
    rcases List.mem_append.1 hq with hq | hq
    · exact h.rng q hq
    · simp at hq; subst hq; exact ⟨h1, h2⟩
  reach := fun q hq => by
    rcases List.mem_append.1 hq with hq | hq
    · exact h.reach q hq
    · simp at hq; subst hq; exact hr
  clo := fun q hq hn hx => by
    rcases List.mem_append.1 hq with hq | hq
    · obtain ⟨c1, c2⟩ := h.clo q hq (fun hm => hn (List.mem_append.2 (Or.inl hm))) hx
      exact ⟨fun s hs => List.mem_append.2 (Or.inl (c1 s hs)), c2⟩
    · exact absurd (List.mem_append.2 (Or.inr hq)) hn
  le := h.le
  snd := h.snd
theorem Inv.fail {L : List Ins} {S T : List (Nat × Nat)} {X : Nat × Nat → Prop} {wr : Nat} (h : Inv L S T X wr) (i : Nat) (hw : Wrong L i) : Inv L S T X (min wr i) where
  nd := h.nd
  tnd := h.tnd
  sub := h.sub
  start := h.start
  rng := h.rng
  reach := h.reach
  clo := fun q hq hn hx => by
    obtain ⟨c1, c2⟩ := h.clo q hq hn hx
    exact ⟨c1, fun hf => Nat.le_trans (Nat.min_le_left ..) (c2 hf)⟩
  le := Nat.le_trans (Nat.min_le_left ..) h.le
  snd := fun hl => by
    rcases Nat.le_total wr i with hi | hi
    · rw [Nat.min_eq_left hi] at hl ⊢; exact h.snd hl
    · rw [Nat.min_eq_right hi]; exact hw
theorem Inv.done {L : List Ins} {S T : List (Nat × Nat)} {q : Nat × Nat} {wr : Nat} (h : Inv L S T (· = q) wr) (h1 : ∀ r, goes L q r → r ∈ S) (h2 : fault L q → wr ≤ q.1) : Inv L S T nox wr :=
  ⟨h.nd, h.tnd, h.sub, h.start, h.rng, h.reach, fun r hr hn _ => by
    by_cases e : r = q
    · subst e; exact ⟨h1, h2⟩
    · exact h.clo r hr hn e, h.le, h.snd⟩
theorem Inv.all {L : List Ins} {S : List (Nat × Nat)} {wr : Nat} (h : Inv L S [] nox wr) (s : Nat × Nat) : s ∈ S ↔ Reach L s := by
  refine ⟨h.reach s, fun hr => ?_⟩
  exact hr (fun q => q ∈ S) h.start (fun q r ih hg => (h.clo _ ih (by simp) (fun hf => hf)).1 _ hg)
theorem Inv.fin {L : List Ins} {S : List (Nat × Nat)} {wr : Nat} (h : Inv L S [] nox wr) (t : Two S wr) : Fin L wr := by
  refine ⟨h.le, fun i hi hw => ?_, h.snd⟩
  obtain ⟨d, hr, hf | ⟨e, he, hne⟩⟩ := hw
  · have := (h.clo _ ((h.all _).2 hr) (by simp) (fun hf => hf)).2 hf
    simp only at this
    omega
  · have := t i e d ((h.all _).2 he) ((h.all _).2 hr) hne
    omega
theorem Two.mono {S : List (Nat × Nat)} {n m : Nat} (h : Two S n) (k : m ≤ n) : Two S m := fun i d e a b c => Nat.le_trans k (h i d e a b c)
/-- Too many places and depths there can't be. -/
theorem nodup_le : ∀ (n : Nat) (l : List Nat), l.Nodup → (∀ x, x ∈ l → x < n) → l.length ≤ n
  | 0, l, _, h => by
    cases l with
    | nil => simp
    | cons a l => exact absurd (h a (by simp)) (Nat.not_lt_zero _)
  | n + 1, l, hn, h => by
    have h1 := nodup_le n (l.erase n) (hn.erase n) (fun x hx => by
      have := (List.Nodup.mem_erase_iff hn).1 hx
      have := h x this.2
      omega)
    rw [List.length_erase] at h1
    split at h1 <;> omega
def enc (q : Nat × Nat) : Nat := q.1 * 257 + q.2
theorem states_le {S : List (Nat × Nat)} {n : Nat} (hn : S.Nodup) (h : ∀ q, q ∈ S → q.1 < n ∧ q.2 ≤ 256) : S.length ≤ n * 257 := by
  have e : (S.map enc).length = S.length := List.length_map ..
  rw [← e]
  refine nodup_le _ _ ?_ ?_
  · refine List.Pairwise.map _ ?_ (List.Pairwise.and_mem.1 hn)
    intro a b hab he
    obtain ⟨ha, hb, hne⟩ := hab
    have h1 := h a ha
    have h2 := h b hb
    refine hne ?_
    unfold enc at he
    obtain ⟨a1, a2⟩ := a
    obtain ⟨b1, b2⟩ := b
    simp only at *
    have : a1 = b1 := by omega
    subst this
    have : a2 = b2 := by omega
    rw [this]
  · intro x hx
    obtain ⟨q, hq, rfl⟩ := List.mem_map.1 hx
    have := h q hq
    unfold enc
    omega
theorem Inv.size {L : List Ins} {S T : List (Nat × Nat)} {X : Nat × Nat → Prop} {wr : Nat} (h : Inv L S T X wr) : S.length ≤ L.length * 257 := states_le h.nd h.rng
/-- The measure: what may still be come to. -/
def mu (L : List Ins) (S T : List (Nat × Nat)) : Nat := 2 * (L.length * 257 - S.length) + T.length
/-- The depths that the code has, if it is right: -1 of what isn't reached. -/
structure Dps (L : List Ins) (ds : List Int) : Prop where
  len : ds.length = L.length
  yes : ∀ i d, i < L.length → Reach L (i, d) → ds[i]? = some (d : Int)
  no : ∀ i, i < L.length → (∀ d, ¬ Reach L (i, d)) → ds[i]? = some (-1)
theorem Dps.unique {L : List Ins} {a b : List Int} (h : Dps L a) (k : Dps L b) : a = b := by
  apply List.ext_getElem?
  intro i
  by_cases hi : i < L.length
  · by_cases hr : ∃ d, Reach L (i, d)
    · obtain ⟨d, hd⟩ := hr
      rw [h.yes i d hi hd, k.yes i d hi hd]
    · have hn : ∀ d, ¬ Reach L (i, d) := fun d hd => hr ⟨d, hd⟩
      rw [h.no i hi hn, k.no i hi hn]
  · rw [List.getElem?_eq_none (by rw [h.len]; omega), List.getElem?_eq_none (by rw [k.len]; omega)]
end Cod
end Go.Proofs.YtkknfolahfmghaaDoor
