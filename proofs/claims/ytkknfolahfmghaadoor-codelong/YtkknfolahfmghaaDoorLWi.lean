/- The law of two ways to one place, in plain mathematics (stage 20). -/
import Derived.Test.YtkknfolahfmghaaDoorLDi
namespace Go.Proofs.YtkknfolahfmghaaDoor
open Go.RowKit
open Fb Cod
namespace Cod
/-- Where an instruction leads to, from depth d. -/
theorem ins_goes {L : List Ins} {i d t p : Nat} {x : Ins} (hx : L[i]? = some x) (ht : x.t = t) (hp : x.p = p) (h1 : t ≤ d) (h2 : d - t + p ≤ 256) : nexts L (i, d) = (if jmpB x then [(x.a.toNat, d - t + p)] else []) ++ (if fallsB x && decide (i + 1 < L.length) then [(i + 1, d - t + p)] else []) ∧ faultB L (i, d) = (fallsB x && decide (i + 1 = L.length)) := by
  subst ht hp
  have e1 : badB x d = false := by
    unfold badB Ins.dl
    rw [decide_eq_false (by omega), decide_eq_false (by omega)]; rfl
  unfold nexts faultB
  rw [hx]
  simp only [e1]
  exact ⟨rfl, rfl⟩
def rep (n : Nat) : List Ins := List.replicate n ⟨1, 3, 0, 0, nos⟩
theorem rep_len (n : Nat) : (rep n).length = n := by simp [rep]
theorem rep_at {n i : Nat} (h : i < n) : (rep n)[i]? = some ⟨1, 3, 0, 0, nos⟩ := by simp [rep, h]
theorem rep_next (n : Nat) : rep (n + 1) = rep n ++ [⟨1, 3, 0, 0, nos⟩] := List.replicate_succ'
/-- The law's code, and how it ends. -/
def wye (a b : Nat) : Bool → Ins
  | true => ⟨18, (a : Int) + b + 3, 0, 0, nos⟩
  | false => ⟨23, 0, 0, 0, nos⟩
def wyh (a : Nat) : List Ins := [⟨1, 1, 0, 0, nos⟩, ⟨19, (a : Int) + 3, 0, 0, nos⟩]
def wyc (a b : Nat) (back : Bool) : List Ins := wyh a ++ (rep a ++ ([⟨18, (a : Int) + b + 3, 0, 0, nos⟩] ++ (rep b ++ ([⟨21, 0, 0, 0, nos⟩] ++ [wye a b back]))))
theorem wyc_len (a b : Nat) (back : Bool) : (wyc a b back).length = a + b + 5 := by simp [wyc, wyh, rep_len]; omega
theorem right_at {A B : List Ins} (i : Nat) : (A ++ B)[A.length + i]? = B[i]? := by
  rw [List.getElem?_append_right (by omega), Nat.add_sub_cancel_left]
theorem wyc_0 (a b : Nat) (back : Bool) : (wyc a b back)[0]? = some ⟨1, 1, 0, 0, nos⟩ := rfl
theorem wyc_1 (a b : Nat) (back : Bool) : (wyc a b back)[1]? = some ⟨19, (a : Int) + 3, 0, 0, nos⟩ := rfl
theorem wyc_2 (a b : Nat) (back : Bool) (i : Nat) : (wyc a b back)[2 + i]? = (rep a ++ ([⟨18, (a : Int) + b + 3, 0, 0, nos⟩] ++ (rep b ++ ([⟨21, 0, 0, 0, nos⟩] ++ [wye a b back]))))[i]? := right_at (A := wyh a) i
theorem wyc_a (a b : Nat) (back : Bool) {i : Nat} (h : i < a) : (wyc a b back)[2 + i]? = some ⟨1, 3, 0, 0, nos⟩ := by
  rw [wyc_2, List.getElem?_append_left (by rw [rep_len]; exact h)]
  exact rep_at h
theorem wyc_3 (a b : Nat) (back : Bool) (i : Nat) : (wyc a b back)[2 + (a + i)]? = ([⟨18, (a : Int) + b + 3, 0, 0, nos⟩] ++ (rep b ++ ([⟨21, 0, 0, 0, nos⟩] ++ [wye a b back])))[i]? := by
  rw [wyc_2]
  have := right_at (A := rep a) (B := [⟨18, (a : Int) + b + 3, 0, 0, nos⟩] ++ (rep b ++ ([⟨21, 0, 0, 0, nos⟩] ++ [wye a b back]))) i
  rw [rep_len] at this
  exact this
theorem wyc_j (a b : Nat) (back : Bool) : (wyc a b back)[2 + a]? = some ⟨18, (a : Int) + b + 3, 0, 0, nos⟩ := wyc_3 a b back 0
theorem wyc_4 (a b : Nat) (back : Bool) (i : Nat) : (wyc a b back)[2 + (a + (1 + i))]? = (rep b ++ ([⟨21, 0, 0, 0, nos⟩] ++ [wye a b back]))[i]? := by
  rw [wyc_3]
  exact right_at (A := [⟨18, (a : Int) + b + 3, 0, 0, nos⟩]) i
theorem wyc_b (a b : Nat) (back : Bool) {i : Nat} (h : i < b) : (wyc a b back)[2 + (a + (1 + i))]? = some ⟨1, 3, 0, 0, nos⟩ := by
  rw [wyc_4, List.getElem?_append_left (by rw [rep_len]; exact h)]
  exact rep_at h
theorem wyc_5 (a b : Nat) (back : Bool) (i : Nat) : (wyc a b back)[2 + (a + (1 + (b + i)))]? = ([⟨21, 0, 0, 0, nos⟩] ++ [wye a b back])[i]? := by
  rw [wyc_4]
  have := right_at (A := rep b) (B := [⟨21, 0, 0, 0, nos⟩] ++ [wye a b back]) i
  rw [rep_len] at this
  exact this
/-- Where a place leads to. -/
def wn (a b : Nat) (back : Bool) (i d : Nat) : List (Nat × Nat) :=
  if i = 0 then [(1, d + 1)] else if i = 1 then [(a + 3, d - 1), (2, d - 1)] else if i < a + 2 then [(i + 1, d + 1)] else if i = a + 2 then [(a + b + 3, d)] else if i < a + b + 3 then [(i + 1, d + 1)] else if i = a + b + 3 then [(i + 1, d)] else if back = true then [(a + b + 3, d)] else []
theorem wy_goes (a b : Nat) (back : Bool) {i d : Nat} (hi : i < a + b + 5) (hd : d ≤ 100) (h1 : i = 1 → 1 ≤ d) : nexts (wyc a b back) (i, d) = wn a b back i d ∧ faultB (wyc a b back) (i, d) = false := by
  have hl := wyc_len a b back
  unfold wn
  by_cases c0 : i = 0
  · subst c0
    rw [if_pos rfl]
    have := ins_goes (d := d) (wyc_0 a b back) (t := 0) (p := 1) rfl rfl (Nat.zero_le _) (by omega)
    rw [this.1, this.2, hl, decide_eq_true (by omega), decide_eq_false (by omega)]
    exact ⟨rfl, rfl⟩
  rw [if_neg c0]
  by_cases c1 : i = 1
  · subst c1
    rw [if_pos rfl]
    have := ins_goes (d := d) (wyc_1 a b back) (t := 1) (p := 0) rfl rfl (h1 rfl) (by omega)
    rw [this.1, this.2, hl, decide_eq_true (by omega), decide_eq_false (by omega)]
    exact ⟨rfl, rfl⟩
  rw [if_neg c1]
  by_cases c2 : i < a + 2
  · rw [if_pos c2]
    obtain ⟨k, rfl⟩ : ∃ k, i = 2 + k := ⟨i - 2, by omega⟩
    have := ins_goes (d := d) (wyc_a a b back (i := k) (by omega)) (t := 0) (p := 1) rfl rfl (Nat.zero_le _) (by omega)
    rw [this.1, this.2, hl, decide_eq_true (by omega), decide_eq_false (by omega)]
    exact ⟨rfl, rfl⟩
  rw [if_neg c2]
  by_cases c3 : i = a + 2
  · rw [if_pos c3]
    obtain rfl : i = 2 + a := by omega
    have := ins_goes (d := d) (wyc_j a b back) (t := 0) (p := 0) rfl rfl (Nat.zero_le _) (by omega)
    rw [this.1, this.2]
    exact ⟨rfl, rfl⟩
  rw [if_neg c3]
  by_cases c4 : i < a + b + 3
  · rw [if_pos c4]
    obtain ⟨k, rfl⟩ : ∃ k, i = 2 + (a + (1 + k)) := ⟨i - a - 3, by omega⟩
    have := ins_goes (d := d) (wyc_b a b back (i := k) (by omega)) (t := 0) (p := 1) rfl rfl (Nat.zero_le _) (by omega)
    rw [this.1, this.2, hl, decide_eq_true (by omega), decide_eq_false (by omega)]
    exact ⟨rfl, rfl⟩
  rw [if_neg c4]
  by_cases c5 : i = a + b + 3
  · rw [if_pos c5]
    obtain rfl : i = 2 + (a + (1 + (b + 0))) := by omega
    have := ins_goes (d := d) (wyc_5 a b back 0) (t := 0) (p := 0) rfl rfl (Nat.zero_le _) (by omega)
    rw [this.1, this.2, hl, decide_eq_true (by omega), decide_eq_false (by omega)]
    exact ⟨rfl, rfl⟩
  rw [if_neg c5]
  obtain rfl : i = 2 + (a + (1 + (b + 1))) := by omega
  cases back with
  | true =>
    have := ins_goes (d := d) (wyc_5 a b true 1) (t := 0) (p := 0) rfl rfl (Nat.zero_le _) (by omega)
    rw [this.1, this.2]
    exact ⟨rfl, rfl⟩
  | false =>
    have := ins_goes (d := d) (wyc_5 a b false 1) (t := 0) (p := 0) rfl rfl (Nat.zero_le _) (by omega)
    rw [this.1, this.2]
    exact ⟨rfl, rfl⟩
/-- How deep the stack is at a place ahead of the two ways' meeting. -/
def wd (a : Nat) (i : Nat) : Nat := if i = 0 then 0 else if i = 1 then 1 else if i ≤ a + 2 then i - 2 else i - (a + 3)
theorem wd_0 (a : Nat) : wd a 0 = 0 := rfl
theorem wd_1 (a : Nat) : wd a 1 = 1 := rfl
theorem wd_a (a : Nat) {i : Nat} (h1 : 2 ≤ i) (h2 : i ≤ a + 2) : wd a i = i - 2 := by
  unfold wd; rw [if_neg (by omega), if_neg (by omega), if_pos h2]
theorem wd_b (a : Nat) {i : Nat} (h2 : a + 3 ≤ i) : wd a i = i - (a + 3) := by
  unfold wd; rw [if_neg (by omega), if_neg (by omega), if_neg (by omega)]
def Wh (a b : Nat) (s : Nat × Nat) : Prop := (s.1 ≤ a + b + 2 ∧ s.2 = wd a s.1) ∨ ((s.1 = a + b + 3 ∨ s.1 = a + b + 4) ∧ (s.2 = a ∨ s.2 = b))
theorem Wh.lt {a b : Nat} {s : Nat × Nat} (h : Wh a b s) (ha : a < 20) (hb : b < 20) : s.1 < a + b + 5 ∧ s.2 ≤ 100 ∧ (s.1 = 1 → 1 ≤ s.2) := by
  obtain ⟨i, d⟩ := s
  rcases h with ⟨h1, h2⟩ | ⟨h1, h2⟩ <;> simp only at h1 h2 ⊢
  · subst h2
    refine ⟨by omega, ?_, fun e => by subst e; rw [wd_1]; exact Nat.le_refl _⟩
    unfold wd
    split
    · omega
    · split
      · omega
      · split <;> omega
  · exact ⟨by omega, by omega, fun e => by omega⟩
theorem Wh.next {a b : Nat} (back : Bool) {q r : Nat × Nat} (h : Wh a b q) (hr : r ∈ wn a b back q.1 q.2) : Wh a b r := by
  obtain ⟨i, d⟩ := q
  simp only at hr
  unfold wn at hr
  by_cases c0 : i = 0
  · subst c0
    rw [if_pos rfl, List.mem_singleton] at hr
    subst hr
    rcases h with ⟨h1, h2⟩ | ⟨h1, h2⟩ <;> simp only at h1 h2
    · rw [h2]
      exact Or.inl ⟨by simp only; omega, by simp only; rw [wd_0, wd_1]⟩
    · omega
  rw [if_neg c0] at hr
  by_cases c1 : i = 1
  · subst c1
    rw [if_pos rfl] at hr
    rcases h with ⟨h1, h2⟩ | ⟨h1, h2⟩ <;> simp only at h1 h2
    · rw [h2, wd_1] at hr
      simp only [List.mem_cons, List.not_mem_nil, or_false] at hr
      rcases hr with rfl | rfl
      · by_cases hb : b = 0
        · subst hb
          exact Or.inr ⟨Or.inl rfl, Or.inr rfl⟩
        · exact Or.inl ⟨by simp only; omega, by simp only; rw [wd_b a (by omega)]; omega⟩
      · exact Or.inl ⟨by simp only; omega, by simp only; rw [wd_a a (by omega) (by omega)]⟩
    · omega
  rw [if_neg c1] at hr
  by_cases c2 : i < a + 2
  · rw [if_pos c2, List.mem_singleton] at hr
    subst hr
    rcases h with ⟨h1, h2⟩ | ⟨h1, h2⟩ <;> simp only at h1 h2
    · rw [h2]
      exact Or.inl ⟨by simp only; omega, by simp only; rw [wd_a a (by omega) (by omega), wd_a a (by omega) (by omega)]; omega⟩
    · omega
  rw [if_neg c2] at hr
  by_cases c3 : i = a + 2
  · rw [if_pos c3, List.mem_singleton] at hr
    subst hr
    rcases h with ⟨h1, h2⟩ | ⟨h1, h2⟩ <;> simp only at h1 h2
    · rw [h2]
      exact Or.inr ⟨Or.inl rfl, Or.inl (by simp only; rw [wd_a a (by omega) (by omega)]; omega)⟩
    · omega
  rw [if_neg c3] at hr
  by_cases c4 : i < a + b + 3
  · rw [if_pos c4, List.mem_singleton] at hr
    subst hr
    rcases h with ⟨h1, h2⟩ | ⟨h1, h2⟩ <;> simp only at h1 h2
    · rw [h2, wd_b a (by omega)]
      by_cases c6 : i + 1 = a + b + 3
      · exact Or.inr ⟨Or.inl c6, Or.inr (by simp only; omega)⟩
      · exact Or.inl ⟨by simp only; omega, by simp only; rw [wd_b a (by omega)]; omega⟩
    · omega
  rw [if_neg c4] at hr
  have hd : d = a ∨ d = b := by
    rcases h with ⟨h1, h2⟩ | ⟨h1, h2⟩ <;> simp only at h1 h2
    · omega
    · exact h2
  by_cases c5 : i = a + b + 3
  · rw [if_pos c5, List.mem_singleton] at hr
    subst hr
    exact Or.inr ⟨Or.inr (by simp only; omega), hd⟩
  rw [if_neg c5] at hr
  cases back with
  | true =>
    rw [if_pos rfl, List.mem_singleton] at hr
    subst hr
    exact Or.inr ⟨Or.inl rfl, hd⟩
  | false =>
    rw [if_neg (by decide)] at hr
    cases hr
theorem wy_all (a b : Nat) (back : Bool) (ha : a < 20) (hb : b < 20) {s : Nat × Nat} (h : Cod.Reach (wyc a b back) s) : Wh a b s := by
  refine Reach.ind (P := Wh a b) (Or.inl ⟨Nat.zero_le _, rfl⟩) (fun q r hq hn => ?_) h
  have hl := hq.lt ha hb
  rw [(wy_goes a b back hl.1 hl.2.1 hl.2.2).1] at hn
  exact hq.next back hn
theorem wy_fault (a b : Nat) (back : Bool) (ha : a < 20) (hb : b < 20) {s : Nat × Nat} (h : Cod.Reach (wyc a b back) s) : ¬ fault (wyc a b back) s := by
  have hl := (wy_all a b back ha hb h).lt ha hb
  rw [fault_is, (wy_goes a b back hl.1 hl.2.1 hl.2.2).2]
  decide
theorem wy_to (a b : Nat) (back : Bool) {i d : Nat} {r : Nat × Nat} (h : Cod.Reach (wyc a b back) (i, d)) (hi : i < a + b + 5) (hd : d ≤ 100) (h1 : i = 1 → 1 ≤ d) (hr : r ∈ wn a b back i d) : Cod.Reach (wyc a b back) r := h.to (by rw [(wy_goes a b back hi hd h1).1]; exact hr)
theorem wy_a (a b : Nat) (back : Bool) (ha : a < 20) : ∀ k, k ≤ a → Cod.Reach (wyc a b back) (2 + k, k)
  | 0, _ => by
    have h1 : Cod.Reach (wyc a b back) (1, 1) := wy_to a b back .start (by omega) (by omega) (by omega) (by simp [wn])
    exact wy_to a b back h1 (by omega) (by omega) (by omega) (by simp [wn])
  | k + 1, hk => by
    refine wy_to a b back (wy_a a b back ha k (by omega)) (by omega) (by omega) (by omega) ?_
    unfold wn
    rw [if_neg (by omega), if_neg (by omega), if_pos (by omega)]
    exact List.mem_singleton.2 rfl
theorem wy_b (a b : Nat) (back : Bool) (hb : b < 20) : ∀ k, k ≤ b → Cod.Reach (wyc a b back) (a + 3 + k, k)
  | 0, _ => by
    have h1 : Cod.Reach (wyc a b back) (1, 1) := wy_to a b back .start (by omega) (by omega) (by omega) (by simp [wn])
    exact wy_to a b back h1 (by omega) (by omega) (by omega) (by simp [wn])
  | k + 1, hk => by
    refine wy_to a b back (wy_b a b back hb k (by omega)) (by omega) (by omega) (by omega) ?_
    unfold wn
    rw [if_neg (by omega), if_neg (by omega), if_neg (by omega), if_neg (by omega), if_pos (by omega)]
    exact List.mem_singleton.2 rfl
def wya (a b : Nat) : Option Nat := if a = b then none else some (a + b + 3)
theorem wyc_rgt (a b : Nat) (back : Bool) {i : Nat} {x : Ins} (hx : (wyc a b back)[i]? = some x) : rgt [] (wyc a b back).length x = true := by
  have hi := (List.getElem?_eq_some_iff.1 hx).1
  have hl := wyc_len a b back
  have e19 : rgt [] (a + b + 5) ⟨19, (a : Int) + 3, 0, 0, nos⟩ = true := by
    show (decide (0 ≤ (a : Int) + 3) && decide ((a : Int) + 3 < ((a + b + 5 : Nat) : Int))) = true
    rw [decide_eq_true (by omega), decide_eq_true (by omega)]; rfl
  have e18 : rgt [] (a + b + 5) ⟨18, (a : Int) + b + 3, 0, 0, nos⟩ = true := by
    show (decide (0 ≤ (a : Int) + b + 3) && decide ((a : Int) + b + 3 < ((a + b + 5 : Nat) : Int))) = true
    rw [decide_eq_true (by omega), decide_eq_true (by omega)]; rfl
  rw [hl] at hi ⊢
  have hm := List.mem_of_getElem? hx
  unfold wyc wyh rep at hm
  simp only [List.mem_append, List.mem_cons, List.not_mem_nil, or_false, List.mem_replicate] at hm
  rcases hm with (rfl | rfl) | ⟨_, rfl⟩ | rfl | ⟨_, rfl⟩ | rfl | rfl
  · rfl
  · exact e19
  · rfl
  · exact e18
  · rfl
  · rfl
  · cases back with
    | true => exact e18
    | false => rfl
theorem wyc_ver (a b : Nat) (back : Bool) (ha : a < 20) (hb : b < 20) : Ver [] (wyc a b back) (wya a b) := by
  have hl := wyc_len a b back
  have hal : alone [] (wyc a b back) = none := by
    unfold alone
    have hw : whole [] (wyc a b back).length = true := by
      unfold whole
      rw [hl, decide_eq_true (show 0 < a + b + 5 by omega), decide_eq_true (show a + b + 5 ≤ 32768 by omega)]
      rfl
    rw [if_pos hw]
    exact find_no (fun i x _ hx => by rw [wyc_rgt a b back hx]; rfl)
  refine Or.inr ⟨hal, ?_⟩
  have one : ∀ i d e, i < a + b + 3 → Cod.Reach (wyc a b back) (i, d) → Cod.Reach (wyc a b back) (i, e) → d = e := fun i d e hi h1 h2 => by
    have w1 := wy_all a b back ha hb h1
    have w2 := wy_all a b back ha hb h2
    rcases w1 with ⟨_, w1⟩ | ⟨w1, _⟩ <;> rcases w2 with ⟨_, w2⟩ | ⟨w2, _⟩ <;> simp only at w1 w2
    · exact w1.trans w2.symm
    · omega
    · omega
    · omega
  unfold wya
  by_cases hab : a = b
  · rw [if_pos hab]
    refine ⟨a + b + 5, ⟨by omega, fun i hi hw => ?_, fun h => by omega⟩, by rw [if_neg (by omega)]⟩
    obtain ⟨d, hr, hf | ⟨e, he, hne⟩⟩ := hw
    · exact wy_fault a b back ha hb hr hf
    · rcases Nat.lt_or_ge i (a + b + 3) with h3 | h3
      · exact hne (one i e d h3 he hr)
      · have w1 := wy_all a b back ha hb hr
        have w2 := wy_all a b back ha hb he
        rcases w1 with ⟨w1, _⟩ | ⟨_, w1⟩ <;> rcases w2 with ⟨w2, _⟩ | ⟨_, w2⟩ <;> simp only at w1 w2 <;> omega
  · rw [if_neg hab]
    refine ⟨a + b + 3, ⟨by omega, fun i hi hw => ?_, fun h => ?_⟩, by rw [if_pos (by omega)]⟩
    · obtain ⟨d, hr, hf | ⟨e, he, hne⟩⟩ := hw
      · exact wy_fault a b back ha hb hr hf
      · exact hne (one i e d hi he hr)
    · have hA : Cod.Reach (wyc a b back) (a + b + 3, a) := by
        refine wy_to a b back (wy_a a b back ha a (Nat.le_refl _)) (by omega) (by omega) (by omega) ?_
        unfold wn
        rw [if_neg (by omega), if_neg (by omega), if_neg (by omega), if_pos (by omega)]
        exact List.mem_singleton.2 rfl
      have hB := wy_b a b back hb b (Nat.le_refl _)
      rw [show a + 3 + b = a + b + 3 by omega] at hB
      exact ⟨a, hA, Or.inr ⟨b, hB, fun e => hab e.symm⟩⟩
theorem wya_cases (a b : Nat) : (a = b ∧ wya a b = none) ∨ (¬ a = b ∧ wya a b = some (a + b + 3)) := by
  unfold wya
  by_cases h : a = b
  · exact Or.inl ⟨h, if_pos h⟩
  · exact Or.inr ⟨h, if_neg h⟩
/-- What lies while the code is written. -/
def wy1 (a n : Nat) : List Ins := wyh a ++ rep n
def wy2 (a b n : Nat) : List Ins := wyh a ++ (rep a ++ ([⟨18, (a : Int) + b + 3, 0, 0, nos⟩] ++ rep n))
theorem wy1_len (a n : Nat) : (wy1 a n).length = n + 2 := by simp [wy1, wyh, rep_len]
theorem wy2_len (a b n : Nat) : (wy2 a b n).length = a + n + 3 := by simp [wy2, wyh, rep_len]; omega
theorem wy1_start (a : Nat) : ([] ++ [⟨1, 1, 0, 0, nos⟩]) ++ [⟨19, (a : Int) + 3, 0, 0, nos⟩] = wy1 a 0 := rfl
theorem wy1_next (a n : Nat) : wy1 a n ++ [⟨1, 3, 0, 0, nos⟩] = wy1 a (n + 1) := by simp [wy1, rep_next]
theorem wy2_start (a b : Nat) : wy1 a a ++ [⟨18, (a : Int) + b + 3, 0, 0, nos⟩] = wy2 a b 0 := by simp [wy1, wy2, rep]
theorem wy2_next (a b n : Nat) : wy2 a b n ++ [⟨1, 3, 0, 0, nos⟩] = wy2 a b (n + 1) := by simp [wy2, rep_next]
theorem wy2_end (a b : Nat) (back : Bool) : (wy2 a b b ++ [⟨21, 0, 0, 0, nos⟩]) ++ [wye a b back] = wyc a b back := by simp [wy2, wyc]
end Cod
end Go.Proofs.YtkknfolahfmghaaDoor
