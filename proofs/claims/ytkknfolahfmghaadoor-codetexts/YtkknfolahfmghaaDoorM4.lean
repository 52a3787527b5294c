/- The ways of code that is known, reckoned; Told of an answer (stage 20). -/
import Derived.Test.YtkknfolahfmghaaDoorW7
import Derived.Test.YtkknfolahfmghaaDoorX2b
namespace Go.Proofs.YtkknfolahfmghaaDoor
open Go.RowKit
open Fb Cod
namespace Cod
def badB (x : Ins) (d : Nat) : Bool := decide (d < x.t) || decide (256 < x.dl d)
def jmpB (x : Ins) : Bool := x.op == 18 || x.op == 19 || x.op == 20
def fallsB (x : Ins) : Bool := x.op != 23 && x.op != 18
theorem badB_is (x : Ins) (d : Nat) : badB x d = true ↔ x.bad d := by simp [badB, Ins.bad]
theorem jmpB_is (x : Ins) : jmpB x = true ↔ x.jmp := by simp [jmpB, Ins.jmp, or_assoc]
theorem fallsB_is (x : Ins) : fallsB x = true ↔ x.falls := by simp [fallsB, Ins.falls]
def nexts (L : List Ins) (q : Nat × Nat) : List (Nat × Nat) := match L[q.1]? with
  | none => []
  | some x => if badB x q.2 then [] else (if jmpB x then [(x.a.toNat, x.dl q.2)] else []) ++ (if fallsB x && decide (q.1 + 1 < L.length) then [(q.1 + 1, x.dl q.2)] else [])
def faultB (L : List Ins) (q : Nat × Nat) : Bool := match L[q.1]? with
  | none => false
  | some x => badB x q.2 || (fallsB x && decide (q.1 + 1 = L.length))
theorem goes_nexts {L : List Ins} {q r : Nat × Nat} : goes L q r ↔ r ∈ nexts L q := by
  unfold nexts goes
  cases hx : L[q.1]? with
  | none => simp
  | some x =>
    simp only [Option.some.injEq, exists_eq_left']
    cases hb : badB x q.2 with
    | true =>
      have := (badB_is x q.2).1 hb
      simp [this]
    | false =>
      have nb : ¬ x.bad q.2 := fun h => by rw [(badB_is x q.2).2 h] at hb; cases hb
      have hj := jmpB_is x
      have hf := fallsB_is x
      obtain ⟨r1, r2⟩ := r
      simp only [nb, not_false_eq_true, true_and, Bool.false_eq_true, if_false, List.mem_append]
      constructor
      · rintro ⟨e, ⟨h1, h2⟩ | ⟨h1, h2, h3⟩⟩
        · left; rw [if_pos (hj.2 h1)]; simp [e, h2]
        · right; rw [if_pos (by rw [hf.2 h1, decide_eq_true h3]; rfl)]; simp [e, h2]
      · rintro (h | h)
        · by_cases hjb : jmpB x = true
          · rw [if_pos hjb] at h
            simp at h
            exact ⟨h.2, Or.inl ⟨hj.1 hjb, h.1⟩⟩
          · rw [if_neg hjb] at h; cases h
        · by_cases hfb : (fallsB x && decide (q.1 + 1 < L.length)) = true
          · rw [if_pos hfb] at h
            simp at h
            rw [Bool.and_eq_true, decide_eq_true_iff] at hfb
            exact ⟨h.2, Or.inr ⟨hf.1 hfb.1, h.1, hfb.2⟩⟩
          · rw [if_neg hfb] at h; cases h
theorem fault_is {L : List Ins} {q : Nat × Nat} : fault L q ↔ faultB L q = true := by
  unfold fault faultB
  cases hx : L[q.1]? with
  | none => simp
  | some x =>
    simp only [Option.some.injEq, exists_eq_left', Bool.or_eq_true, Bool.and_eq_true, decide_eq_true_iff]
    rw [badB_is, fallsB_is]
/-- Whatever holds of the beginning and goes on holds of all that is reached. -/
theorem Reach.ind {L : List Ins} {P : Nat × Nat → Prop} (h0 : P (0, 0)) (hs : ∀ q r, P q → r ∈ nexts L q → P r) {s : Nat × Nat} (h : Cod.Reach L s) : P s := by
  exact h P h0 (fun q r hq hg => hs q r hq (goes_nexts.1 hg))
theorem Reach.to {L : List Ins} {q r : Nat × Nat} (h : Cod.Reach L q) (k : r ∈ nexts L q) : Cod.Reach L r := h.step (goes_nexts.2 k)
def okS (L : List Ins) (S : List (Nat × Nat)) : Bool := S.contains (0, 0) && S.all fun q => (nexts L q).all (fun r => S.contains r) && !faultB L q && S.all (fun r => r.1 != q.1 || r.2 == q.2)
theorem okS_in {L : List Ins} {S : List (Nat × Nat)} (h : okS L S = true) {s : Nat × Nat} (hr : Cod.Reach L s) : s ∈ S := by
  unfold okS at h
  rw [Bool.and_eq_true, List.all_eq_true] at h
  refine Reach.ind (P := fun s => s ∈ S) (by simpa using h.1) (fun q r hq hn => ?_) hr
  have := h.2 q hq
  rw [Bool.and_eq_true, Bool.and_eq_true, List.all_eq_true] at this
  have := this.1.1 r hn
  simpa using this
theorem okS_fin {L : List Ins} {S : List (Nat × Nat)} (h : okS L S = true) : Fin L L.length := by
  refine ⟨Nat.le_refl _, fun i _ hw => ?_, fun h => absurd h (Nat.lt_irrefl _)⟩
  obtain ⟨d, hr, hf⟩ := hw
  have h1 := okS_in h hr
  have h' := h
  unfold okS at h'
  rw [Bool.and_eq_true, List.all_eq_true] at h'
  have h2 := h'.2 _ h1
  rw [Bool.and_eq_true, Bool.and_eq_true] at h2
  rcases hf with hf | ⟨e, he, hne⟩
  · rw [fault_is.1 hf] at h2
    simp at h2
  · have h3 := okS_in h he
    have h4 := h2.2
    rw [List.all_eq_true] at h4
    have := h4 _ h3
    simp at this
    exact hne this
end Cod
/-- What an answer tells. -/
def tAt (r : Option Nat) : Nat := r.getD 0
def tEr (r : Option Nat) : Nat := if r.isSome then 200 else 0
theorem told_c {w W : World} {r : Option Nat} {v : Value} (h : Err w r v W) (hT : Tabs W) : Calls Tryd.prog 12 #[v] W fun e w' => e = .returned (.tuple #[.int .i64 (tAt r : Nat), .int .i64 (tEr r : Nat)]) ∧ Below W.heap.size W w' := by
  cases r with
  | none =>
    have : v = .nilIface := h
    subst this
    refine (told_nil W).mono ?_
    rintro e w' ⟨rfl, rfl⟩
    exact ⟨rfl, Below.refl _ _⟩
  | some k =>
    obtain ⟨g, rfl, _, h0, h1⟩ := h
    exact told_err g k 200 W hT h0 h1
end Go.Proofs.YtkknfolahfmghaaDoor
