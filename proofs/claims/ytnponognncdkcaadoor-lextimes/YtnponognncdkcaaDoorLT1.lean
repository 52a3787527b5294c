/- Times written by their parts, in plain mathematics (stage 12). -/
import Derived.Test.YtnponognncdkcaaDoorD3
namespace Go.Proofs.YtnponognncdkcaaDoor
open Go.RowKit
open Adr Lx
/-- The part of a unit, if it is told. -/
def pc (b : Nat → Bool) (v : Nat → Nat) (i : Nat) : List UInt8 := if b i then dgs 10 (v i) ++ (uN i).data.toList else []
def body (b : Nat → Bool) (v : Nat → Nat) : Nat → List UInt8
  | 0 => []
  | k + 1 => body b v k ++ pc b v k
def tot (b : Nat → Bool) (v : Nat → Nat) : Nat → Nat
  | 0 => 0
  | k + 1 => tot b v k + (if b k then v k * uM k else 0)
def anyb (b : Nat → Bool) : Nat → Bool
  | 0 => false
  | k + 1 => anyb b k || b k
/-- What comes behind the first k units. -/
def rst5 (b : Nat → Bool) (v : Nat → Nat) : Nat → List UInt8
  | 0 => []
  | k + 1 => pc b v (4 - k) ++ rst5 b v k
theorem body_rst (b : Nat → Bool) (v : Nat → Nat) : ∀ k, k ≤ 5 → body b v (5 - k) ++ rst5 b v k = body b v 5
  | 0, _ => by simp [rst5]
  | k + 1, h => by
    have ih := body_rst b v k (by omega)
    rw [rst5, ← List.append_assoc]
    have e : body b v (5 - (k + 1)) ++ pc b v (4 - k) = body b v (5 - k) := by
      rw [show 5 - k = (4 - k) + 1 by omega, show 5 - (k + 1) = 4 - k by omega]
      rfl
    rw [e, ih]
/-- Nothing, or a digit, stands ahead. -/
def Dig (r : List UInt8) : Prop := ∀ c ∈ r.head?, dgt c = true
theorem pc_dig {b : Nat → Bool} {v : Nat → Nat} {i : Nat} {r : List UInt8} (h : Dig r) : Dig (pc b v i ++ r) := by
  unfold pc
  split
  · intro c hc
    have hne : dgs 10 (v i) ≠ [] := by
      by_cases h : v i < 10
      · rw [dgs_lo h]; simp
      · rw [dgs_hi h (by omega)]; simp
    cases hd : dgs 10 (v i) with
    | nil => exact absurd hd hne
    | cons x l =>
      rw [hd] at hc
      simp at hc
      subst hc
      exact dgs_dgt (v i) x (by rw [hd]; simp)
  · exact h
theorem rst_dig (b : Nat → Bool) (v : Nat → Nat) : ∀ k, Dig (rst5 b v k)
  | 0 => fun c hc => by cases hc
  | k + 1 => pc_dig (rst_dig b v k)
theorem un_at {k : Nat} (hk : k < 5) {r : List UInt8} (h : Dig r) : un ((uN k).data.toList ++ r) = k := by
  have hc : k = 0 ∨ k = 1 ∨ k = 2 ∨ k = 3 ∨ k = 4 := by omega
  rcases hc with rfl | rfl | rfl | rfl | rfl
  · rfl
  · rfl
  · show un (109 :: r) = 2
    cases r with
    | nil => rfl
    | cons c r =>
      have hd := h c (by simp)
      have h5 : ¬ c = 115 := fun e => by subst e; revert hd; decide
      unfold un
      split <;> simp_all
  · rfl
  · rfl
theorem unit_stop {k : Nat} (hk : k < 5) (r : List UInt8) : Stop 10 ((uN k).data.toList ++ r) := by
  have hc : k = 0 ∨ k = 1 ∨ k = 2 ∨ k = 3 ∨ k = 4 := by omega
  rcases hc with rfl | rfl | rfl | rfl | rfl
  all_goals
    intro c hc
    simp [uN] at hc
    subst hc
    decide
/-- Which unit comes next: none, or one from k on. -/
theorem rst_next (b : Nat → Bool) (v : Nat → Nat) (hv : ∀ i, v i ≤ 8589934592) : ∀ k, k ≤ 5 → rst5 b v k = [] ∨ ∃ j, 5 - k ≤ j ∧ j < 5 ∧ ∃ r, rst5 b v k = dgs 10 (v j) ++ ((uN j).data.toList ++ r) ∧ Dig r
  | 0, _ => Or.inl rfl
  | k + 1, h => by
    rw [rst5]
    by_cases hb : b (4 - k) = true
    · refine Or.inr ⟨4 - k, by omega, by omega, rst5 b v k, ?_, rst_dig b v k⟩
      unfold pc
      rw [if_pos hb, List.append_assoc]
    · rw [show pc b v (4 - k) = [] by unfold pc; rw [if_neg hb], List.nil_append]
      rcases rst_next b v hv k (by omega) with h0 | ⟨j, h1, h2, r, h3, h4⟩
      · exact Or.inl h0
      · exact Or.inr ⟨j, by omega, h2, r, h3, h4⟩
theorem drop_body {b : Nat → Bool} {v : Nat → Nat} {k : Nat} (hk : k ≤ 5) : (body b v 5).drop (body b v k).length = rst5 b v (5 - k) := by
  have e := body_rst b v (5 - k) (by omega)
  rw [show 5 - (5 - k) = k by omega] at e
  rw [← e, List.drop_left]
theorem span_body (b : Nat → Bool) (v : Nat → Nat) (hv : ∀ i, v i ≤ 8589934592) : ∀ k, k ≤ 5 → spanK (body b v 5) k = (tot b v k, (body b v k).length)
  | 0, _ => rfl
  | k + 1, h => by
    have ih := span_body b v hv k (by omega)
    rw [spanK, ih]
    unfold prt
    show (if decide (0 < (rd 10 ((body b v 5).drop (body b v k).length)).2) && decide (un ((body b v 5).drop ((body b v k).length + (rd 10 ((body b v 5).drop (body b v k).length)).2)) = k) then (tot b v k + (rd 10 ((body b v 5).drop (body b v k).length)).1 * uM k, (body b v k).length + ((rd 10 ((body b v 5).drop (body b v k).length)).2 + (uN k).size)) else (tot b v k, (body b v k).length)) = _
    rw [← List.drop_drop, drop_body (by omega)]
    by_cases hb : b k = true
    · have e : rst5 b v (5 - k) = dgs 10 (v k) ++ ((uN k).data.toList ++ rst5 b v (4 - k)) := by
        rw [show 5 - k = (4 - k) + 1 by omega, rst5, show 4 - (4 - k) = k by omega]
        unfold pc
        rw [if_pos hb, List.append_assoc]
      have hl := (dgs_len (b := 10) (by omega) 9 (v k) (Nat.lt_of_le_of_lt (hv k) (by decide))).2
      rw [e, dgs_rd (by omega) (by omega) (hv k) (unit_stop (by omega) _), List.drop_left, un_at (by omega) (rst_dig b v _)]
      show (if decide (0 < (dgs 10 (v k)).length) && decide (k = k) then (tot b v k + v k * uM k, (body b v k).length + ((dgs 10 (v k)).length + (uN k).size)) else (tot b v k, (body b v k).length)) = _
      rw [decide_eq_true (by omega), decide_eq_true rfl]
      simp only [Bool.and_true, if_true, tot, body, pc, hb, List.length_append, ← Lib.size_eq]
    · have e : rst5 b v (5 - k) = rst5 b v (4 - k) := by
        rw [show 5 - k = (4 - k) + 1 by omega, rst5, show 4 - (4 - k) = k by omega]
        unfold pc
        rw [if_neg hb, List.nil_append]
      have e2 : (tot b v (k + 1), (body b v (k + 1)).length) = (tot b v k, (body b v k).length) := by simp [tot, body, pc, hb]
      rw [e, e2]
      rcases rst_next b v hv (4 - k) (by omega) with h0 | ⟨j, h1, h2, r, h3, h4⟩
      · rw [h0]; rfl
      · rw [h3, dgs_rd (by omega) (by omega) (hv j) (unit_stop h2 _), List.drop_left, un_at h2 h4, decide_eq_false (p := j = k) (by omega), Bool.and_false]
        rfl
theorem body_dig (b : Nat → Bool) (v : Nat → Nat) : Dig (body b v 5) := by
  have e := body_rst b v 5 (Nat.le_refl _)
  rw [show body b v (5 - 5) = [] from rfl, List.nil_append] at e
  rw [← e]
  exact rst_dig b v 5
theorem body_no45 (b : Nat → Bool) (v : Nat → Nat) : hp (body b v 5) [45] = false := by
  have h := body_dig b v
  cases e : body b v 5 with
  | nil => rfl
  | cons c l =>
    rw [e] at h
    have hd := h c (by simp)
    rw [hp_cons]
    have : ¬ 45 = c := fun q => by subst q; revert hd; decide
    simp [this]
/-- A time's text, its head short or long, its sign. -/
def hdT (long : Bool) : List UInt8 := if long then [84, 73, 77, 69, 35] else [84, 35]
def sgT (minus : Bool) : List UInt8 := if minus then [45] else []
theorem nx_time (b : Nat → Bool) (v : Nat → Nat) (hv : ∀ i, v i ≤ 8589934592) (long minus : Bool) : nx (hdT long ++ (sgT minus ++ body b v 5)) = ltR 4 11 (if minus then -(tot b v 5 : Int) else tot b v 5) ((hdT long).length + (sgT minus).length) (body b v 5).length := by
  have hs := span_body b v hv 5 (Nat.le_refl _)
  have h45 := body_no45 b v
  generalize body b v 5 = R at *
  have hs2 : span R = (tot b v 5, R.length) := hs
  have key : ∀ l a, l.drop a = sgT minus ++ R → tmR l a = ltR 4 11 (if minus then -(tot b v 5 : Int) else tot b v 5) (a + (sgT minus).length) R.length := by
    intro l a e
    unfold tmR
    rw [e]
    cases minus
    · rw [show sgT false = [] from rfl, List.nil_append, h45, hs2]
      rfl
    · rw [show sgT true = [45] from rfl, show hp ([45] ++ R) [45] = true by show hp (45 :: R) [45] = true; rw [hp_cons, hp_all]; rfl, if_pos rfl, show List.drop 1 ([45] ++ R) = R from rfl, hs2]
      rfl
  cases long
  · have e : nx (hdT false ++ (sgT minus ++ R)) = tmR (hdT false ++ (sgT minus ++ R)) 2 := rfl
    rw [e, key _ 2 rfl]
    rfl
  · have e : nx (hdT true ++ (sgT minus ++ R)) = tmR (hdT true ++ (sgT minus ++ R)) 5 := rfl
    rw [e, key _ 5 rfl]
    rfl
theorem pc_len (b : Nat → Bool) (v : Nat → Nat) (hv : ∀ i, v i ≤ 8589934592) (i : Nat) (hi : i < 5) : (pc b v i).length ≤ 12 ∧ (b i = true → 1 ≤ (pc b v i).length) := by
  have hl := dgs_len (b := 10) (by omega) 9 (v i) (Nat.lt_of_le_of_lt (hv i) (by decide))
  have hu : (uN i).data.toList.length ≤ 2 := by
    rw [← Lib.size_eq]
    have hc : i = 0 ∨ i = 1 ∨ i = 2 ∨ i = 3 ∨ i = 4 := by omega
    rcases hc with rfl | rfl | rfl | rfl | rfl <;> decide
  unfold pc
  split
  · rw [List.length_append]; omega
  · rename_i hb; exact ⟨Nat.zero_le _, fun h => absurd h hb⟩
theorem body_len (b : Nat → Bool) (v : Nat → Nat) (hv : ∀ i, v i ≤ 8589934592) : ∀ k, k ≤ 5 → (body b v k).length ≤ 12 * k ∧ (anyb b k = true → 1 ≤ (body b v k).length) ∧ (anyb b k = false → body b v k = [] ∧ tot b v k = 0)
  | 0, _ => ⟨Nat.le_refl _, fun h => (by cases h), fun _ => ⟨rfl, rfl⟩⟩
  | k + 1, h => by
    obtain ⟨a1, a2, a3⟩ := body_len b v hv k (by omega)
    obtain ⟨p1, p2⟩ := pc_len b v hv k (by omega)
    refine ⟨by rw [body, List.length_append]; omega, fun q => ?_, fun q => ?_⟩
    · rw [anyb, Bool.or_eq_true] at q
      rw [body, List.length_append]
      rcases q with q | q
      · have := a2 q; omega
      · have := p2 q; omega
    · rw [anyb, Bool.or_eq_false_iff] at q
      obtain ⟨q1, q2⟩ := a3 q.1
      have hb : ¬ b k = true := by rw [q.2]; exact Bool.false_ne_true
      exact ⟨by rw [body, q1, pc, if_neg hb]; rfl, by rw [tot, q2, if_neg hb]⟩
theorem step_no {b : Nat → Bool} {v : Nat → Nat} {k : Nat} (h : b k = false) : body b v (k + 1) = body b v k ∧ tot b v (k + 1) = tot b v k ∧ anyb b (k + 1) = anyb b k := by
  have hn : ¬ b k = true := by rw [h]; exact Bool.false_ne_true
  refine ⟨?_, ?_, ?_⟩
  · show body b v k ++ pc b v k = _
    unfold pc
    rw [if_neg hn, List.append_nil]
  · show tot b v k + (if b k then v k * uM k else 0) = _
    rw [if_neg hn, Nat.add_zero]
  · show (anyb b k || b k) = _
    rw [h, Bool.or_false]
theorem step_yes {b : Nat → Bool} {v : Nat → Nat} {k : Nat} (h : b k = true) (H : List UInt8) : tx (H ++ body b v k) ++ tx (dgs 10 (v k)) ++ uN k = tx (H ++ body b v (k + 1)) ∧ tot b v (k + 1) = tot b v k + v k * uM k ∧ anyb b (k + 1) = true := by
  refine ⟨?_, ?_, ?_⟩
  · rw [← tx_of (uN k), tx_app, tx_app]
    show _ = tx (H ++ (body b v k ++ pc b v k))
    unfold pc
    rw [if_pos h]
    simp
  · show tot b v k + (if b k then v k * uM k else 0) = _
    rw [if_pos h]
  · show (anyb b k || b k) = _
    rw [h, Bool.or_true]
theorem tot_le {b : Nat → Bool} {v : Nat → Nat} (hv : ∀ i, v i ≤ 8589934592) : ∀ k, k ≤ 5 → tot b v k ≤ 3710851743744000000 := by
  intro k hk
  have key : ∀ k, tot b v k ≤ k * 742170348748800000 := by
    intro k
    induction k with
    | zero => exact Nat.zero_le _
    | succ k ih =>
      show tot b v k + (if b k then v k * uM k else 0) ≤ _
      rw [Nat.succ_mul]
      refine Nat.add_le_add ih ?_
      split
      · exact Nat.le_trans (Nat.mul_le_mul (hv k) (uM_le k)) (by decide)
      · exact Nat.zero_le _
  exact Nat.le_trans (key k) (Nat.mul_le_mul_right 742170348748800000 hk)
/-- The token of a time, or the error. -/
theorem toks_time (b : Nat → Bool) (v : Nat → Nat) (hv : ∀ i, v i ≤ 8589934592) (long minus : Bool) (N : Int) (hN : N = if minus then -(tot b v 5 : Int) else tot b v 5) :
    (anyb b 5 = false → (toks (hdT long ++ (sgT minus ++ body b v 5)) false).2 = some (0, 120)) ∧
    (anyb b 5 = true → (N < -2147483648 ∨ 2147483647 < N) → (toks (hdT long ++ (sgT minus ++ body b v 5)) false).2 = some (0, 163)) ∧
    (anyb b 5 = true → -2147483648 ≤ N → N ≤ 2147483647 → ∃ z, toks (hdT long ++ (sgT minus ++ body b v 5)) false = ([((⟨4, 11, N, []⟩ : Tk), 0), (nul, z)], none)) ∧ (hdT long ++ (sgT minus ++ body b v 5)).length ≤ 66 := by
  have hx := nx_time b v hv long minus
  rw [← hN] at hx
  obtain ⟨h1, h2, h3⟩ := body_len b v hv 5 (Nat.le_refl _)
  have hl : (hdT long ++ (sgT minus ++ body b v 5)).length ≤ 66 := by
    cases long <;> cases minus <;> simp [hdT, sgT] <;> omega
  have hz : (hdT long).length + (sgT minus).length + (body b v 5).length = (hdT long ++ (sgT minus ++ body b v 5)).length := by rw [List.length_append, List.length_append]; omega
  obtain ⟨r, hr⟩ : ∃ r, hdT long ++ (sgT minus ++ body b v 5) = 84 :: r := by cases long <;> exact ⟨_, rfl⟩
  have hc : hp (hdT long ++ (sgT minus ++ body b v 5)) [40, 42] = false := by rw [hr, hp_cons]; rfl
  refine ⟨fun q => ?_, fun q hf => ?_, fun q ha hb => ?_, hl⟩
  · have e : nx (hdT long ++ (sgT minus ++ body b v 5)) = er 120 := by rw [hx, (h3 q).1]; rfl
    have t := toks_err (il := false) hr (by omega) rfl hc (by rw [e]; decide)
    rw [e] at t
    exact t
  · have e : nx (hdT long ++ (sgT minus ++ body b v 5)) = er 163 := by rw [hx]; exact ltR_far (h2 q) hf
    have t := toks_err (il := false) hr (by omega) rfl hc (by rw [e]; decide)
    rw [e] at t
    exact t
  · have e : nx (hdT long ++ (sgT minus ++ body b v 5)) = ⟨⟨4, 11, N, []⟩, (hdT long).length + (sgT minus).length + (body b v 5).length, 0⟩ := by rw [hx]; exact ltR_yes (h2 q) ha hb
    have t := toks_one (il := false) hr (by omega) rfl hc (by rw [e]) (by rw [e]; exact hz)
    rw [e] at t
    exact ⟨_, t⟩
end Go.Proofs.YtnponognncdkcaaDoor
