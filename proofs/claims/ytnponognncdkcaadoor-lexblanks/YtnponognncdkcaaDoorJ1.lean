/- Plain mathematics of tokens: what stands behind digits, words, units says nothing of them (stage 12). · Plain mathematics of times: parts, one by one (stage 12). · Plain mathematics of tokens: the token alone, and with something behind it (stage 12). · What the reference tells, in plain mathematics (stage 12). -/
import Derived.Test.YtnponognncdkcaaDoorRD
import Derived.Test.YtnponognncdkcaaDoorWD
namespace Go.Proofs.YtnponognncdkcaaDoor
open Go.RowKit
open Adr Lx
theorem rdl_cons (b : Nat) (c : UInt8) (l : List UInt8) (n z i : Nat) : rdl b (c :: l) n z i = if decide (c.toNat = 95) && (decide (0 < i) && decide (i = z)) then rdl b l n z (i + 1) else if okd b c then rdl b l (min (n * b + (dv c).toNat) 8589934592) (i + 1) (i + 1) else (n, z) := rfl
theorem rdl_big (b : Nat) : ∀ (l : List UInt8) (n z i : Nat), z ≤ i → rdl b l n z i = (n, z) ∨ i < (rdl b l n z i).2
  | [], n, z, i, _ => Or.inl rfl
  | c :: l, n, z, i, h => by
    rw [rdl_cons]
    split
    · rcases rdl_big b l n z (i + 1) (by omega) with e | e
      · exact Or.inl e
      · exact Or.inr (by omega)
    · split
      · rcases rdl_big b l (min (n * b + (dv c).toNat) 8589934592) (i + 1) (i + 1) (Nat.le_refl _) with e | e
        · rw [e]; exact Or.inr (Nat.lt_succ_self i)
        · exact Or.inr (by omega)
      · exact Or.inl rfl
theorem rdl_take (b : Nat) : ∀ (l : List UInt8) (n z i k : Nat), z ≤ i → (rdl b l n z i).2 ≤ i + k → rdl b (l.take k) n z i = rdl b l n z i
  | [], n, z, i, k, _, _ => by simp
  | c :: l, n, z, i, 0, hz, h => by
    rw [List.take_zero]
    rcases rdl_big b (c :: l) n z i hz with e | e
    · rw [e]; rfl
    · omega
  | c :: l, n, z, i, k + 1, hz, h => by
    rw [List.take_succ_cons, rdl_cons, rdl_cons]
    rw [rdl_cons] at h
    split
    · rename_i q; rw [if_pos q] at h; exact rdl_take b l n z (i + 1) k (by omega) (by omega)
    · rename_i q; rw [if_neg q] at h
      split
      · rename_i q2; rw [if_pos q2] at h; exact rdl_take b l _ (i + 1) (i + 1) k (Nat.le_refl _) (by omega)
      · rfl
theorem rd_take {b : Nat} {l : List UInt8} {k : Nat} (h : (rd b l).2 ≤ k) : rd b (l.take k) = rd b l := rdl_take b l 0 0 0 k (Nat.le_refl _) (by rw [Nat.zero_add]; exact h)
theorem rdl_app (b : Nat) (c : UInt8) (m : List UInt8) (h1 : okd b c = false) (h2 : ¬ c.toNat = 95) : ∀ (l : List UInt8) (n z i : Nat), rdl b (l ++ c :: m) n z i = rdl b l n z i
  | [], n, z, i => by rw [List.nil_append, rdl_cons, decide_eq_false h2, h1]; rfl
  | d :: l, n, z, i => by rw [List.cons_append, rdl_cons, rdl_cons, rdl_app b c m h1 h2 l, rdl_app b c m h1 h2 l]
theorem rd_app {b : Nat} {c : UInt8} {m l : List UInt8} (h1 : okd b c = false) (h2 : ¬ c.toNat = 95) : rd b (l ++ c :: m) = rd b l := rdl_app b c m h1 h2 l 0 0 0
theorem rd_cons {b : Nat} {c : UInt8} {l : List UInt8} : rd b (c :: l) = if okd b c then rdl b l (min (0 * b + (dv c).toNat) 8589934592) 1 1 else (0, 0) := by
  unfold rd
  rw [rdl_cons, if_neg (by simp)]
theorem hdk_rd (b : Nat) (l : List UInt8) : hdk b l = decide (0 < (rd b l).2) := by
  cases l with
  | nil => rfl
  | cons c l =>
    rw [rd_cons]
    show okd b c = _
    cases h : okd b c with
    | false => rfl
    | true =>
      rw [if_pos rfl]
      rcases rdl_big b l (min (0 * b + (dv c).toNat) 8589934592) 1 1 (Nat.le_refl _) with e | e
      · rw [e]; rfl
      · exact (decide_eq_true (by omega)).symm
theorem sat (b n d : Nat) (hb : 1 ≤ b) : min (min n 8589934592 * b + d) 8589934592 = min (min (b * n + d) 1099511627776) 8589934592 := by
  by_cases h : n ≤ 8589934592
  · rw [Nat.min_eq_left h, Nat.mul_comm n b]; omega
  · have h1 : 8589934592 * 1 ≤ 8589934592 * b := Nat.mul_le_mul_left _ hb
    have h2 : 1 * n ≤ b * n := Nat.mul_le_mul_right _ hb
    rw [Nat.min_eq_right (show 8589934592 ≤ n by omega)]
    omega
theorem okd_95 {b : Nat} {c : UInt8} (h : c.toNat = 95) : okd b c = false := by
  unfold okd dv dgt
  rw [h]
  rfl
theorem rdl_rdg (b : Nat) (hb : 1 ≤ b) : ∀ (k : Nat) (l : List UInt8) (n z : Nat), l.length ≤ k → 1 ≤ z → rdl b l (min n 8589934592) z z = (min (rdg b l n z).1 8589934592, (rdg b l n z).2)
  | _, [], n, z, _, _ => rfl
  | 0, c :: l, n, z, h, _ => by simp at h
  | k + 1, c :: l, n, z, h, hz => by
    rw [List.length_cons] at h
    rw [rdl_cons, rdg]
    by_cases h5 : c.toNat = 95
    · rw [decide_eq_true h5, decide_eq_true (show 0 < z from hz), decide_eq_true (rfl : z = z), okd_95 h5]
      simp only [Bool.and_true, Bool.true_and, Bool.false_eq_true, if_false, if_true]
      cases l with
      | nil => rfl
      | cons d l =>
        rw [List.length_cons] at h
        rw [rdl_cons, if_neg (by simp)]
        rw [show hdk b (d :: l) = okd b d from rfl]
        cases hd : okd b d with
        | false => rfl
        | true =>
          simp only [if_true]
          rw [rdg, if_pos hd, sat b n _ hb]
          exact rdl_rdg b hb k l _ (z + 1 + 1) (by omega) (by omega)
    · rw [decide_eq_false h5]
      simp only [Bool.false_and, Bool.false_eq_true, if_false]
      split
      · rw [sat b n _ hb]
        exact rdl_rdg b hb k l _ (z + 1) (by omega) (by omega)
      · rfl
/-- Digits, as the program and as the reference count them. -/
theorem rd_rdg {b : Nat} {l : List UInt8} (hb : 1 ≤ b) (h : hdk b l = true) : rd b l = (min (rdg b l 0 0).1 8589934592, (rdg b l 0 0).2) := by
  cases l with
  | nil => cases h
  | cons c l =>
    have hc : okd b c = true := h
    rw [rd_cons, if_pos hc, rdg, if_pos hc]
    have e : min (0 * b + (dv c).toNat) 8589934592 = min (min (b * 0 + (dv c).toNat) 1099511627776) 8589934592 := by
      rw [Nat.zero_mul, Nat.mul_zero]; omega
    rw [e]
    exact rdl_rdg b hb _ l _ 1 (Nat.le_refl _) (Nat.le_refl _)
theorem cz_cons (p : UInt8 → Bool) (c : UInt8) (l : List UInt8) : cz p (c :: l) = if p c then cz p l + 1 else 0 := by
  unfold cz
  rw [List.takeWhile_cons]
  split <;> simp
theorem cz_take {p : UInt8 → Bool} : ∀ {l : List UInt8} {k : Nat}, cz p l ≤ k → cz p (l.take k) = cz p l
  | [], k, _ => by simp
  | c :: l, 0, h => by rw [List.take_zero, show cz p (c :: l) = 0 by omega]; rfl
  | c :: l, k + 1, h => by
    rw [List.take_succ_cons, cz_cons, cz_cons]
    rw [cz_cons] at h
    split
    · rename_i q; rw [if_pos q] at h; rw [cz_take (by omega)]
    · rfl
theorem cz_app {p : UInt8 → Bool} {c : UInt8} (m : List UInt8) (h : p c = false) : ∀ (l : List UInt8), cz p (l ++ c :: m) = cz p l
  | [] => by rw [List.nil_append, cz_cons, h]; rfl
  | d :: l => by rw [List.cons_append, cz_cons, cz_cons, cz_app m h l]
theorem hp_iff {l p : List UInt8} : hp l p = true ↔ p <+: l := by
  unfold hp Lib.hasPrefix
  exact List.isPrefixOf_iff_prefix
theorem hp_take {l p : List UInt8} {k : Nat} (hk : p.length ≤ k) : hp (l.take k) p = hp l p := by
  rw [Bool.eq_iff_iff, hp_iff, hp_iff, List.prefix_take_iff]
  exact ⟨fun h => h.1, fun h => ⟨h, hk⟩⟩
theorem hp_of_take {l p : List UInt8} {k : Nat} (h : hp l p = false) : hp (l.take k) p = false := by
  cases e : hp (l.take k) p with
  | false => rfl
  | true =>
    rw [hp_iff, List.prefix_take_iff] at e
    rw [hp_iff.2 e.1] at h
    exact h
theorem hp_app {c : UInt8} (m : List UInt8) : ∀ (p l : List UInt8), c ∉ p → hp (l ++ c :: m) p = hp l p
  | [], l, _ => by simp [hp, Lib.hasPrefix]
  | a :: p, [], h => by
    have : (a == c) = false := by rw [beq_eq_false_iff_ne]; exact fun e => h (by rw [e]; exact List.mem_cons_self)
    simp [hp, Lib.hasPrefix, List.isPrefixOf, this]
  | a :: p, d :: l, h => by
    have ih := hp_app m p l (fun q => h (List.mem_cons_of_mem _ q))
    unfold hp Lib.hasPrefix at *
    rw [List.cons_append, List.isPrefixOf, List.isPrefixOf, ih]
theorem uz_le (u : Nat) : uz u ≤ 2 := by unfold uz; split <;> decide
theorem unC_4 {c d : UInt8} (h : ¬ unC c d = 4) : unC c d = unC c 0 := by
  unfold unC at *
  split
  · rfl
  · split
    · rfl
    · split
      · split
        · simp_all
        · simp
      · rfl
theorem un_take {l : List UInt8} {k : Nat} (h5 : ¬ un l = 5) (hk : uz (un l) ≤ k) : un (l.take k) = un l := by
  have hl := un_lt l
  have h1 : 1 ≤ uz (un l) ∧ (uz (un l) ≤ 1 → ¬ un l = 4) := by
    generalize un l = u at *
    have hc : u = 0 ∨ u = 1 ∨ u = 2 ∨ u = 3 ∨ u = 4 := by omega
    rcases hc with rfl | rfl | rfl | rfl | rfl <;> decide
  match l, k with
  | [], k => simp
  | c :: l, 0 => omega
  | [c], k + 1 => simp
  | c :: d :: l, 1 =>
    have h4 := h1.2 hk
    rw [un_cons] at *
    show un [c] = _
    rw [un_one, unC_4 h4]
  | c :: d :: l, k + 2 =>
    rw [List.take_succ_cons, List.take_succ_cons, un_cons, un_cons]
theorem un_le {l : List UInt8} (h5 : ¬ un l = 5) : uz (un l) ≤ l.length := by
  match l with
  | [] => exact absurd rfl h5
  | [c] =>
    rw [un_one, show [c].length = 1 from rfl]
    unfold unC
    split
    · decide
    · split
      · decide
      · split
        · decide
        · split <;> decide
  | c :: d :: l => have := uz_le (un (c :: d :: l)); rw [List.length_cons, List.length_cons]; omega
theorem un_app {c : UInt8} (m : List UInt8) (h0 : ∀ d, unC c d = 5) (h1 : ¬ c = 115) : ∀ (l : List UInt8), un (l ++ c :: m) = un l
  | [] => by
    cases m with
    | nil => rw [List.nil_append, un_one, h0]; rfl
    | cons d m => rw [List.nil_append, un_cons, h0]; rfl
  | [a] => by
    rw [show [a] ++ c :: m = a :: c :: m from rfl, un_cons, un_one]
    unfold unC
    rw [if_neg h1, if_neg (show ¬ (0 : UInt8) = 115 by decide)]
  | a :: b :: l => by rw [List.cons_append, List.cons_append, un_cons, un_cons]
/-- Numbers, as the program and as the reference read them. -/
theorem bo_pos (k : Nat) : 1 ≤ bo k := by unfold bo; split <;> decide
theorem byB_rbs (k : Nat) (r : List UInt8) : ((rbs k r).2.1 = 0 ∧ (byB k r).2 = 0) ∨ (¬ (rbs k r).2.1 = 0 ∧ byB k r = (min (rbs k r).1 8589934592, (rbs k r).2.2) ∧ ¬ (byB k r).2 = 0) := by
  unfold rbs byB
  have e := hdk_rd (bo k) (r.drop (bn k).data.toList.length)
  cases h : hdk (bo k) (r.drop (bn k).data.toList.length) with
  | false =>
    rw [h] at e
    have e2 := decide_eq_false_iff_not.1 e.symm
    left
    rw [if_neg Bool.false_ne_true, if_pos (by omega)]
    exact ⟨rfl, rfl⟩
  | true =>
    rw [h] at e
    have e2 := decide_eq_true_iff.1 e.symm
    right
    rw [if_pos rfl, if_neg (by omega)]
    refine ⟨(by simp), ?_, ?_⟩
    · rw [rd_rdg (bo_pos k) h]
    · show ¬ _ + _ = 0; omega
theorem num_rnm (r : List UInt8) : ((rnm r).2.1 = 0 ∧ (num r).2 = 0) ∨ (¬ (rnm r).2.1 = 0 ∧ num r = (min (rnm r).1 8589934592, (rnm r).2.2) ∧ ¬ (num r).2 = 0) := by
  unfold num rnm
  split
  · exact byB_rbs 0 r
  · split
    · exact byB_rbs 1 r
    · split
      · exact byB_rbs 2 r
      · have e := hdk_rd 10 r
        cases h : hdk 10 r with
        | false =>
          rw [h] at e
          have e2 := decide_eq_false_iff_not.1 e.symm
          left
          exact ⟨rfl, by omega⟩
        | true =>
          rw [h] at e
          have e2 := decide_eq_true_iff.1 e.symm
          right
          refine ⟨(by simp), ?_, by omega⟩
          rw [rd_rdg (by omega) h]
          rfl
theorem byB_take {j k : Nat} {l : List UInt8} (h0 : ¬ (byB j l).2 = 0) (hk : (byB j l).2 ≤ k) : (bn j).data.toList.length ≤ k ∧ byB j (l.take k) = byB j l := by
  unfold byB at *
  by_cases h : (rd (bo j) (l.drop (bn j).data.toList.length)).2 = 0
  · rw [if_pos h] at h0; exact absurd rfl h0
  · rw [if_neg h] at hk h0 ⊢
    replace hk : (bn j).data.toList.length + (rd (bo j) (l.drop (bn j).data.toList.length)).2 ≤ k := hk
    have e : rd (bo j) ((l.take k).drop (bn j).data.toList.length) = rd (bo j) (l.drop (bn j).data.toList.length) := by
      rw [List.drop_take]
      exact rd_take (by omega)
    rw [e, if_neg h]
    exact ⟨by omega, rfl⟩
theorem num_take {k : Nat} {l : List UInt8} (h0 : ¬ (num l).2 = 0) (hk : (num l).2 ≤ k) : num (l.take k) = num l := by
  unfold num at *
  cases p0 : hp l (bn 0).data.toList with
  | true =>
    rw [p0, if_pos rfl] at h0 hk
    obtain ⟨a1, a2⟩ := byB_take h0 hk
    rw [hp_take a1, p0, if_pos rfl, if_pos rfl]
    exact a2
  | false =>
    rw [p0, if_neg Bool.false_ne_true] at h0 hk
    rw [hp_of_take p0, if_neg Bool.false_ne_true, if_neg Bool.false_ne_true]
    cases p1 : hp l (bn 1).data.toList with
    | true =>
      rw [p1, if_pos rfl] at h0 hk
      obtain ⟨a1, a2⟩ := byB_take h0 hk
      rw [hp_take a1, p1, if_pos rfl, if_pos rfl]
      exact a2
    | false =>
      rw [p1, if_neg Bool.false_ne_true] at h0 hk
      rw [hp_of_take p1, if_neg Bool.false_ne_true, if_neg Bool.false_ne_true]
      cases p2 : hp l (bn 2).data.toList with
      | true =>
        rw [p2, if_pos rfl] at h0 hk
        obtain ⟨a1, a2⟩ := byB_take h0 hk
        rw [hp_take a1, p2, if_pos rfl, if_pos rfl]
        exact a2
      | false =>
        rw [p2, if_neg Bool.false_ne_true] at h0 hk
        rw [hp_of_take p2, if_neg Bool.false_ne_true, if_neg Bool.false_ne_true]
        exact rd_take hk
/-- A sign that stands in no token but alone: a blank, a line feed, a tab, an open bracket, a return. -/
def Stp (c : UInt8) : Prop := c = 32 ∨ c = 10 ∨ c = 9 ∨ c = 40 ∨ c = 13
theorem Stp.okd {c : UInt8} (h : Stp c) (b : Nat) : okd b c = false := by
  have e : dv c = -1 := by rcases h with rfl | rfl | rfl | rfl | rfl <;> decide
  unfold Lx.okd
  rw [e]
  rfl
theorem Stp.low {c : UInt8} (h : Stp c) : ¬ c.toNat = 95 := by rcases h with rfl | rfl | rfl | rfl | rfl <;> decide
theorem Stp.inW {c : UInt8} (h : Stp c) : Lx.inW c = false := by rcases h with rfl | rfl | rfl | rfl | rfl <;> decide
theorem Stp.inA {c : UInt8} (h : Stp c) : Lx.inA c = false := by rcases h with rfl | rfl | rfl | rfl | rfl <;> decide
theorem Stp.un {c : UInt8} (h : Stp c) : (∀ d, unC c d = 5) ∧ ¬ c = 115 := by
  rcases h with rfl | rfl | rfl | rfl | rfl <;> exact ⟨fun d => rfl, by decide⟩
theorem Stp.rd {c : UInt8} (h : Stp c) (b : Nat) (l m : List UInt8) : Lx.rd b (l ++ c :: m) = Lx.rd b l := rd_app (h.okd b) h.low
theorem Stp.hp {c : UInt8} (h : Stp c) (l m p : List UInt8) (hp : ∀ d, Stp d → d ∉ p) : Lx.hp (l ++ c :: m) p = Lx.hp l p := hp_app m p l (hp c h)
theorem stp_bn (k : Nat) : ∀ d, Stp d → d ∉ (bn k).data.toList := by
  intro d hd
  unfold bn
  split <;> (rcases hd with rfl | rfl | rfl | rfl | rfl <;> decide)
theorem stp_mem {p : List UInt8} (h : (p.contains 32 || p.contains 10 || p.contains 9 || p.contains 40 || p.contains 13) = false) : ∀ d, Stp d → d ∉ p := by
  intro d hd
  simp at h
  rcases hd with rfl | rfl | rfl | rfl | rfl <;> simp_all
theorem byB_app {c : UInt8} (h : Stp c) (k : Nat) (l m : List UInt8) (hl : (bn k).data.toList.length ≤ l.length) : byB k (l ++ c :: m) = byB k l := by
  unfold byB
  rw [List.drop_append_of_le_length hl, h.rd]
theorem num_app {c : UInt8} (h : Stp c) (l m : List UInt8) : num (l ++ c :: m) = num l := by
  unfold num
  rw [h.hp l m _ (stp_bn 0), h.hp l m _ (stp_bn 1), h.hp l m _ (stp_bn 2), h.rd]
  split
  · rename_i q; exact byB_app h 0 l m (hp_le q)
  · split
    · rename_i q; exact byB_app h 1 l m (hp_le q)
    · split
      · rename_i q; exact byB_app h 2 l m (hp_le q)
      · rfl
open Go.RowKit
open Adr Lx
/-- What stands behind the digits; how many signs a part has; what stands behind it. -/
def yt (l : List UInt8) : List UInt8 := l.drop (rd 10 l).2
def pz (l : List UInt8) : Nat := (rd 10 l).2 + uz (un (yt l))
/-- A time's parts, each of a later unit than the one ahead: the sum, how many signs. -/
def ptl : Nat → List UInt8 → Nat → Nat × Nat
  | 0, _, _ => (0, 0)
  | f + 1, l, lp => if hdk 10 l && decide (lp < u1 (yt l)) then ((rd 10 l).1 * uM (un (yt l)) + (ptl f (l.drop (pz l)) (u1 (yt l))).1, pz l + (ptl f (l.drop (pz l)) (u1 (yt l))).2) else (0, 0)
theorem ptl_succ (f : Nat) (l : List UInt8) (lp : Nat) : ptl (f + 1) l lp = if hdk 10 l && decide (lp < u1 (yt l)) then ((rd 10 l).1 * uM (un (yt l)) + (ptl f (l.drop (pz l)) (u1 (yt l))).1, pz l + (ptl f (l.drop (pz l)) (u1 (yt l))).2) else (0, 0) := rfl
theorem u1_le (l : List UInt8) : u1 l ≤ 5 := by
  have h := un_lt l
  unfold u1
  split <;> omega
theorem u1_un {l : List UInt8} {lp : Nat} (h : lp < u1 l) : ¬ un l = 5 ∧ u1 l = un l + 1 := by
  unfold u1 at *
  split at h
  · omega
  · rename_i q; rw [if_neg q]; exact ⟨q, rfl⟩
def spanF (l : List UInt8) : Nat → Nat × Nat → Nat × Nat
  | 0, s => s
  | d + 1, s => spanF l d (prt l (4 - d) s)
theorem span_F (l : List UInt8) : span l = spanF l 5 (0, 0) := rfl
theorem ptl_skip {f : Nat} {l : List UInt8} {k : Nat} (h : ¬ (hdk 10 l = true ∧ u1 (yt l) = k + 1)) : ptl f l k = ptl f l (k + 1) := by
  cases f with
  | zero => rfl
  | succ f =>
    rw [ptl_succ, ptl_succ]
    cases hd : hdk 10 l with
    | false => rfl
    | true =>
      have h2 : ¬ u1 (yt l) = k + 1 := fun e => h ⟨hd, e⟩
      rw [show decide (k < u1 (yt l)) = decide (k + 1 < u1 (yt l)) from decide_eq_decide.2 (by omega)]
theorem spanF_ptl (l : List UInt8) : ∀ (d : Nat), d ≤ 5 → ∀ (n p f : Nat), (l.drop p).length < f → spanF l d (n, p) = (n + (ptl f (l.drop p) (5 - d)).1, p + (ptl f (l.drop p) (5 - d)).2)
  | 0, _, n, p, f, hf => by
    obtain ⟨f, rfl⟩ : ∃ f', f = f' + 1 := ⟨f - 1, by omega⟩
    have h := u1_le (yt (l.drop p))
    rw [ptl_succ, decide_eq_false (show ¬ 5 - 0 < u1 (yt (l.drop p)) by omega), Bool.and_false]
    rfl
  | d + 1, hd, n, p, f, hf => by
    show spanF l d (prt l (4 - d) (n, p)) = _
    rw [show 5 - (d + 1) = 4 - d by omega]
    have hr := hdk_rd 10 (l.drop p)
    have hy : yt (l.drop p) = l.drop (p + (rd 10 (l.drop p)).2) := by unfold yt; rw [List.drop_drop]
    by_cases hc : hdk 10 (l.drop p) = true ∧ u1 (yt (l.drop p)) = (4 - d) + 1
    · obtain ⟨h1, h2⟩ := hc
      obtain ⟨q1, q2⟩ := u1_un (lp := 0) (l := yt (l.drop p)) (by omega)
      have hu : un (yt (l.drop p)) = 4 - d := by omega
      rw [h1] at hr
      have hr2 := decide_eq_true_iff.1 hr.symm
      have hle := (rd_le 10 (l.drop p)).1
      obtain ⟨f, rfl⟩ : ∃ f', f = f' + 1 := ⟨f - 1, by omega⟩
      have e : prt l (4 - d) (n, p) = (n + (rd 10 (l.drop p)).1 * uM (4 - d), p + pz (l.drop p)) := by
        unfold prt
        rw [decide_eq_true hr2, decide_eq_true (show un (l.drop ((n, p).2 + (rd 10 (l.drop (n, p).2)).2)) = 4 - d by rw [← hu, hy])]
        rw [uN_size _ (by omega)]
        unfold pz
        rw [hu]
        rfl
      have hz : 1 ≤ pz (l.drop p) := by unfold pz; omega
      rw [e, spanF_ptl l d (by omega) _ _ f (by rw [List.length_drop] at *; omega), ptl_succ, h1, decide_eq_true (show 4 - d < u1 (yt (l.drop p)) by omega), Bool.and_true, if_pos rfl, hu, h2, List.drop_drop, show 4 - d + 1 = 5 - d by omega, Nat.add_assoc, Nat.add_assoc]
    · have e : prt l (4 - d) (n, p) = (n, p) := by
        unfold prt
        rw [if_neg]
        rw [Bool.and_eq_true, decide_eq_true_eq, decide_eq_true_eq]
        rintro ⟨a1, a2⟩
        refine hc ⟨by rw [hr]; exact decide_eq_true a1, ?_⟩
        rw [hy]
        unfold u1
        have a3 : un (l.drop (p + (rd 10 (l.drop p)).2)) = 4 - d := a2
        rw [a3, if_neg (by omega)]
      rw [e, spanF_ptl l d (by omega) n p f hf, ptl_skip hc, show 4 - d + 1 = 5 - d by omega]
theorem span_ptl (l : List UInt8) (f : Nat) (hf : l.length < f) : span l = ptl f l 0 := by
  rw [span_F, spanF_ptl l 5 (Nat.le_refl _) 0 0 f (by simpa using hf)]
  simp
theorem pz_le {l : List UInt8} {lp : Nat} (h : lp < u1 (yt l)) : pz l ≤ l.length := by
  have h1 := un_le (u1_un h).1
  have h2 := (rd_le 10 l).1
  unfold pz
  rw [show (yt l).length = l.length - (rd 10 l).2 by unfold yt; rw [List.length_drop]] at h1
  omega
theorem ptl_le : ∀ (f : Nat) (l : List UInt8) (lp : Nat), (ptl f l lp).2 ≤ l.length
  | 0, l, lp => Nat.zero_le _
  | f + 1, l, lp => by
    rw [ptl_succ]
    split
    · rename_i q
      rw [Bool.and_eq_true, decide_eq_true_eq] at q
      have h := pz_le q.2
      have h2 := ptl_le f (l.drop (pz l)) (u1 (yt l))
      rw [List.length_drop] at h2
      show pz l + _ ≤ _
      omega
    · exact Nat.zero_le _
theorem hdk_take {b : Nat} {l : List UInt8} {k : Nat} (h : 1 ≤ k) : hdk b (l.take k) = hdk b l := by
  cases l with
  | nil => simp
  | cons c l =>
    obtain ⟨k, rfl⟩ : ∃ k', k = k' + 1 := ⟨k - 1, by omega⟩
    rfl
theorem ptl_take : ∀ (f : Nat) (l : List UInt8) (lp : Nat), ptl f (l.take (ptl f l lp).2) lp = ptl f l lp
  | 0, l, lp => rfl
  | f + 1, l, lp => by
    cases q : (hdk 10 l && decide (lp < u1 (yt l))) with
    | false =>
      have e : ptl (f + 1) l lp = (0, 0) := by rw [ptl_succ, q]; rfl
      rw [e]
      rfl
    | true =>
      have e : ptl (f + 1) l lp = ((rd 10 l).1 * uM (un (yt l)) + (ptl f (l.drop (pz l)) (u1 (yt l))).1, pz l + (ptl f (l.drop (pz l)) (u1 (yt l))).2) := by rw [ptl_succ, q]; rfl
      rw [e]
      show ptl (f + 1) (l.take (pz l + (ptl f (l.drop (pz l)) (u1 (yt l))).2)) lp = _
      generalize hK : pz l + (ptl f (l.drop (pz l)) (u1 (yt l))).2 = K
      rw [Bool.and_eq_true, decide_eq_true_eq] at q
      obtain ⟨q1, q2⟩ := q
      have q3 := (u1_un q2).1
      have hz : (rd 10 l).2 + uz (un (yt l)) = pz l := rfl
      have h0 : 1 ≤ (rd 10 l).2 := by have e := hdk_rd 10 l; rw [q1] at e; exact decide_eq_true_iff.1 e.symm
      have hr : rd 10 (l.take K) = rd 10 l := rd_take (by omega)
      have hy : yt (l.take K) = (yt l).take (K - (rd 10 l).2) := by unfold yt; rw [hr, List.drop_take]
      have hu : un (yt (l.take K)) = un (yt l) := by rw [hy]; exact un_take q3 (by omega)
      have hu1 : u1 (yt (l.take K)) = u1 (yt l) := by unfold u1; rw [hu]
      have hp : pz (l.take K) = pz l := by unfold pz; rw [hr, hu]
      have hd : (l.take K).drop (pz l) = (l.drop (pz l)).take (ptl f (l.drop (pz l)) (u1 (yt l))).2 := by rw [List.drop_take, show K - pz l = (ptl f (l.drop (pz l)) (u1 (yt l))).2 by omega]
      rw [ptl_succ, hu1, hp, hu, hr, hd, ptl_take f (l.drop (pz l)) (u1 (yt l)), hdk_take (by omega), q1, decide_eq_true q2]
      show (_, _) = (_, _)
      rw [← hK]
theorem span_take (l : List UInt8) : span (l.take (span l).2) = span l := by
  have h := span_ptl l (l.length + 1) (by omega)
  have h2 := span_ptl (l.take (span l).2) (l.length + 1) (by rw [List.length_take]; omega)
  rw [h2, h]
  exact ptl_take _ l 0
theorem ptl_app {c : UInt8} (h : Stp c) (m : List UInt8) : ∀ (f : Nat) (l : List UInt8) (lp : Nat), ptl f (l ++ c :: m) lp = ptl f l lp
  | 0, l, lp => rfl
  | f + 1, l, lp => by
    have hr : rd 10 (l ++ c :: m) = rd 10 l := h.rd 10 l m
    have hh : hdk 10 (l ++ c :: m) = hdk 10 l := by rw [hdk_rd, hdk_rd, hr]
    have hy : yt (l ++ c :: m) = yt l ++ c :: m := by unfold yt; rw [hr, List.drop_append_of_le_length (rd_le 10 l).1]
    have hu : un (yt (l ++ c :: m)) = un (yt l) := by rw [hy]; exact un_app m h.un.1 h.un.2 _
    have hu1 : u1 (yt (l ++ c :: m)) = u1 (yt l) := by unfold u1; rw [hu]
    have hp : pz (l ++ c :: m) = pz l := by unfold pz; rw [hr, hu]
    rw [ptl_succ, ptl_succ, hh, hu1, hp, hu, hr]
    split
    · rename_i q
      rw [Bool.and_eq_true, decide_eq_true_eq] at q
      rw [List.drop_append_of_le_length (pz_le q.2), ptl_app h m f]
    · rfl
theorem span_app {c : UInt8} (h : Stp c) (l m : List UInt8) : span (l ++ c :: m) = span l := by
  rw [span_ptl (l ++ c :: m) ((l ++ c :: m).length + 1) (by omega), span_ptl l ((l ++ c :: m).length + 1) (by rw [List.length_append]; omega), ptl_app h m]
/-- No part's number is beyond what the program counts. -/
def tam : Nat → List UInt8 → Nat → Prop
  | 0, _, _ => True
  | f + 1, l, lp => hdk 10 l = true → lp < u1 (yt l) → (rd 10 l).1 < 8589934592 ∧ tam f (l.drop (pz l)) (u1 (yt l))
theorem uM_pos {u : Nat} (h : u < 5) : 1 ≤ uM u := by
  have hc : u = 0 ∨ u = 1 ∨ u = 2 ∨ u = 3 ∨ u = 4 := by omega
  rcases hc with rfl | rfl | rfl | rfl | rfl <;> decide
theorem tam_of : ∀ (f : Nat) (l : List UInt8) (lp : Nat), (ptl f l lp).1 < 8589934592 → tam f l lp
  | 0, _, _, _ => trivial
  | f + 1, l, lp, h => by
    intro h1 h2
    rw [ptl_succ, h1, decide_eq_true h2] at h
    replace h : (rd 10 l).1 * uM (un (yt l)) + (ptl f (l.drop (pz l)) (u1 (yt l))).1 < 8589934592 := h
    have h3 := un_lt (yt l)
    have h4 := Nat.mul_le_mul_left (rd 10 l).1 (uM_pos (u := un (yt l)) (by have := (u1_un h2).1; omega))
    exact ⟨by omega, tam_of f _ _ (by omega)⟩
theorem tam_nil : ∀ (f lp : Nat), tam f [] lp
  | 0, _ => trivial
  | f + 1, lp => by intro h; cases h
theorem unC_stop {c d : UInt8} (h : ¬ unC c d = 5) : c = 100 ∨ c = 104 ∨ c = 109 ∨ c = 115 := by
  unfold unC at h
  split at h
  · rename_i q; exact Or.inl q
  · split at h
    · rename_i q; exact Or.inr (Or.inl q)
    · split at h
      · rename_i q; exact Or.inr (Or.inr (Or.inl q))
      · split at h
        · rename_i q; exact Or.inr (Or.inr (Or.inr q))
        · exact absurd rfl h
theorem unit_stop {c : UInt8} (h : c = 100 ∨ c = 104 ∨ c = 109 ∨ c = 115) : okd 10 c = false ∧ ¬ c.toNat = 95 := by
  rcases h with rfl | rfl | rfl | rfl <;> decide
theorem un_head {l : List UInt8} (h : ¬ un l = 5) : ∃ c r, l = c :: r ∧ (c = 100 ∨ c = 104 ∨ c = 109 ∨ c = 115) := by
  match l with
  | [] => exact absurd rfl h
  | [c] => rw [un_one] at h; exact ⟨c, [], rfl, unC_stop h⟩
  | c :: d :: r => rw [un_cons] at h; exact ⟨c, d :: r, rfl, unC_stop h⟩
/-- Digits that a unit's sign ends are the same, whatever stands behind. -/
theorem rd_ended {l m : List UInt8} (h : ¬ un (yt l) = 5) : rd 10 (l ++ m) = rd 10 l := by
  obtain ⟨c, r, e, hc⟩ := un_head h
  obtain ⟨s1, s2⟩ := unit_stop hc
  have el : l = l.take (rd 10 l).2 ++ c :: r := by rw [← e]; exact (List.take_append_drop _ _).symm
  have h1 : rd 10 l = rd 10 (l.take (rd 10 l).2) := (rd_take (Nat.le_refl _)).symm
  have h2 : rd 10 (l ++ m) = rd 10 (l.take (rd 10 l).2) := by
    conv => lhs; rw [el]
    rw [List.append_assoc, List.cons_append]
    exact rd_app s1 s2
  rw [h2, ← h1]
theorem un_more {y m : List UInt8} (h : ¬ un y = 5) : un (y ++ m) = un y ∨ (y = [109] ∧ un (y ++ m) = 4) := by
  match y, m with
  | [], _ => exact absurd rfl h
  | [c], [] => exact Or.inl rfl
  | [c], d :: m =>
    rw [show [c] ++ d :: m = c :: d :: m from rfl, un_cons, un_one] at *
    by_cases h4 : unC c d = 4
    · right
      refine ⟨?_, h4⟩
      unfold unC at h4
      split at h4
      · cases h4
      · split at h4
        · cases h4
        · split at h4
          · rename_i q; rw [q]
          · split at h4 <;> cases h4
    · exact Or.inl (unC_4 h4)
  | c :: d :: y, m => rw [List.cons_append, List.cons_append, un_cons, un_cons]; exact Or.inl rfl
theorem hdk_app {b : Nat} {l m : List UInt8} (h : hdk b l = true) : hdk b (l ++ m) = true := by
  cases l with
  | nil => cases h
  | cons c l => exact h
theorem tam_pre (m : List UInt8) : ∀ (f : Nat) (l : List UInt8) (lp : Nat), tam f (l ++ m) lp → tam f l lp
  | 0, _, _, _ => trivial
  | f + 1, l, lp, h => by
    intro h1 h2
    obtain ⟨q1, q2⟩ := u1_un h2
    have hr : rd 10 (l ++ m) = rd 10 l := rd_ended q1
    have hy : yt (l ++ m) = yt l ++ m := by unfold yt; rw [hr, List.drop_append_of_le_length (rd_le 10 l).1]
    have h3 := h (hdk_app h1)
    rw [hr, hy] at h3
    rcases un_more (m := m) q1 with e | ⟨e1, e2⟩
    · have hu1 : u1 (yt l ++ m) = u1 (yt l) := by unfold u1; rw [e]
      have hp : pz (l ++ m) = pz l := by unfold pz; rw [hr, hy, e]
      rw [hu1, hp] at h3
      obtain ⟨a1, a2⟩ := h3 h2
      refine ⟨a1, tam_pre m f _ _ ?_⟩
      rw [List.drop_append_of_le_length (pz_le h2)] at a2
      exact a2
    · have hu1 : u1 (yt l ++ m) = 5 := by unfold u1; rw [e2]; rfl
      rw [hu1] at h3
      have h5 : u1 (yt l) = 3 := by rw [e1]; rfl
      obtain ⟨a1, a2⟩ := h3 (by omega)
      refine ⟨a1, ?_⟩
      have hl : l.drop (pz l) = [] := by
        rw [List.drop_eq_nil_iff]
        have : (yt l).length = 1 := by rw [e1]; rfl
        unfold yt at this
        rw [List.length_drop] at this
        have hz : uz (un (yt l)) = 1 := by rw [e1]; rfl
        unfold pz
        omega
      rw [hl]
      exact tam_nil _ _
theorem tam_take {f : Nat} {l : List UInt8} {lp : Nat} (k : Nat) (h : tam f l lp) : tam f (l.take k) lp := tam_pre (l.drop k) f (l.take k) lp (by rw [List.take_append_drop]; exact h)
theorem rdg_rd {l : List UInt8} (h : hdk 10 l = true) : (rdg 10 l 0 0).2 = (rd 10 l).2 ∧ ((rd 10 l).1 < 8589934592 → (rdg 10 l 0 0).1 = (rd 10 l).1) := by
  have e := rd_rdg (b := 10) (by omega) h
  rw [e]
  exact ⟨rfl, fun q => by show _ = min _ _; have q : min (rdg 10 l 0 0).1 8589934592 < 8589934592 := q; omega⟩
theorem nst_min (N V u : Nat) (hV : V < 8589934592) : nst ((min N 1099511627776 : Nat) : Int) V u = ((min (N + V * uM u) 1099511627776 : Nat) : Int) := by
  have h1 := uM_le u
  have h2 : V * uM u ≤ 8589934592 * 86400000 := Nat.mul_le_mul (by omega) h1
  unfold nst
  rw [show ((V : Int) * (uM u : Int)) = ((V * uM u : Nat) : Int) by rw [Int.natCast_mul]]
  generalize V * uM u = X at *
  rw [show wrap64 (X : Int) = X by unfold wrap64; omega]
  rw [show wrap64 (((min N 1099511627776 : Nat) : Int) + min (X : Int) 1099511627776) = ((min N 1099511627776 : Nat) : Int) + min (X : Int) 1099511627776 by unfold wrap64; omega]
  omega
theorem rtl_ptl : ∀ (f : Nat) (r : List UInt8) (N lp z : Nat), tam f r lp → ∃ L, rtl f r ((min N 1099511627776 : Nat) : Int) lp z = (((min (N + (ptl f r lp).1) 1099511627776 : Nat) : Int), L, z + (ptl f r lp).2) ∧ (L = 0 ↔ (lp = 0 ∧ (ptl f r lp).2 = 0))
  | 0, r, N, lp, z, _ => ⟨lp, rfl, ⟨fun h => ⟨h, rfl⟩, fun h => h.1⟩⟩
  | f + 1, r, N, lp, z, ht => by
    rw [rtl, ptl_succ]
    cases hd : hdk 10 r with
    | false => exact ⟨lp, rfl, ⟨fun h => ⟨h, rfl⟩, fun h => h.1⟩⟩
    | true =>
      obtain ⟨g1, g2⟩ := rdg_rd hd
      have hy : r.drop (rdg 10 r 0 0).2 = yt r := by unfold yt; rw [g1]
      rw [if_pos rfl, hy]
      by_cases hl : u1 (yt r) ≤ lp
      · rw [if_pos hl, decide_eq_false (show ¬ lp < u1 (yt r) by omega), Bool.and_false, if_neg Bool.false_ne_true]
        exact ⟨lp, rfl, ⟨fun h => ⟨h, rfl⟩, fun h => h.1⟩⟩
      · have hl2 : lp < u1 (yt r) := by omega
        obtain ⟨t1, t2⟩ := ht hd hl2
        have hz : (rdg 10 r 0 0).2 + uz (un (yt r)) = pz r := by unfold pz; rw [g1]
        have h0 : 1 ≤ pz r := by have := rdg_pos hd; omega
        rw [if_neg hl, decide_eq_true hl2, Bool.and_true, if_pos rfl, hz, g2 t1, nst_min N _ _ t1]
        obtain ⟨L, e1, e2⟩ := rtl_ptl f (r.drop (pz r)) (N + (rd 10 r).1 * uM (un (yt r))) (u1 (yt r)) (z + pz r) t2
        refine ⟨L, ?_, ?_⟩
        · rw [e1]
          show (_, _, _) = (_, _, _)
          rw [Nat.add_assoc, Nat.add_assoc]
        · rw [e2]
          constructor
          · rintro ⟨a, _⟩; omega
          · rintro ⟨_, a⟩
            have a : pz r + _ = 0 := a
            omega
open Go.RowKit
open Adr Lx
def tyQ (y : List UInt8) (a k : Nat) : R :=
  if decide (k = 1) && hp y [84, 82, 85, 69] then ⟨tru 1, a + 4, 0⟩
  else if decide (k = 1) && hp y [70, 65, 76, 83, 69] then ⟨tru 0, a + 5, 0⟩
  else if hp y [45] && decide (klo k < 0) then ltR 3 k (-((rd 10 (y.drop 1)).1 : Int)) (a + 1) (rd 10 (y.drop 1)).2
  else ltR 3 k (num y).1 a (num y).2
def tmQ (y : List UInt8) (a : Nat) : R :=
  if hp y [45] then ltR 4 11 (-((span (y.drop 1)).1 : Int)) (a + 1) (span (y.drop 1)).2
  else ltR 4 11 (span y).1 a (span y).2
theorem tyR_Q (l : List UInt8) (a k : Nat) : tyR l a k = tyQ (l.drop a) a k := rfl
theorem tmR_Q (l : List UInt8) (a : Nat) : tmR l a = tmQ (l.drop a) a := rfl
theorem tmQ_app {c : UInt8} (h : Stp c) (y m : List UInt8) (a : Nat) : tmQ (y ++ c :: m) a = tmQ y a := by
  unfold tmQ
  rw [h.hp y m [45] (stp_mem (by decide))]
  split
  · rename_i q; rw [List.drop_append_of_le_length (show 1 ≤ y.length from hp_le q), span_app h]
  · rw [span_app h]
theorem tyQ_app {c : UInt8} (h : Stp c) (y m : List UInt8) (a k : Nat) : tyQ (y ++ c :: m) a k = tyQ y a k := by
  unfold tyQ
  rw [h.hp y m [84, 82, 85, 69] (stp_mem (by decide)), h.hp y m [70, 65, 76, 83, 69] (stp_mem (by decide)), h.hp y m [45] (stp_mem (by decide)), num_app h]
  split
  · rfl
  · split
    · rfl
    · split
      · rename_i q
        rw [Bool.and_eq_true] at q
        rw [List.drop_append_of_le_length (show 1 ≤ y.length from hp_le q.1), h.rd]
      · rfl
theorem hp_room {l : List UInt8} {k : Nat} (h : hp (l.drop k) [35] = true) : k + 1 ≤ l.length := by
  have h1 := hp_le h
  rw [List.length_drop] at h1
  have h2 : 1 ≤ l.length - k := h1
  omega
theorem wdR_app {c : UInt8} (h : Stp c) (l m : List UInt8) : wdR (l ++ c :: m) = wdR l := by
  have hz := cz_le inW l
  have ez : cz inW (l ++ c :: m) = cz inW l := cz_app m h.inW l
  have et : (l ++ c :: m).take (cz inW l) = l.take (cz inW l) := List.take_append_of_le_length hz
  have ed : (l ++ c :: m).drop (cz inW l) = l.drop (cz inW l) ++ c :: m := List.drop_append_of_le_length hz
  unfold wdR
  rw [ez, et, ed, h.hp _ m [35] (stp_mem (by decide))]
  simp only [tmR_Q, tyR_Q]
  cases hh : hp (l.drop (cz inW l)) [35] with
  | false => simp only [Bool.false_and, Bool.false_eq_true, if_false]
  | true => rw [List.drop_append_of_le_length (hp_room hh), tmQ_app h, tyQ_app h]
theorem unR_app {c : UInt8} (h : Stp c) (l m : List UInt8) : unR (l ++ c :: m) = unR l := by
  unfold unR
  rw [num_app h]
theorem adR_app {c : UInt8} (h : Stp c) (d : UInt8) (l m : List UInt8) : adR (d :: l ++ c :: m) = adR (d :: l) := by
  have e : adz (d :: l ++ c :: m) = adz (d :: l) := by
    unfold adz
    rw [List.cons_append, List.drop_succ_cons, List.drop_zero, List.drop_succ_cons, List.drop_zero, cz_app m h.inA]
  have hz : adz (d :: l) ≤ (d :: l).length := (adz_le (l := d :: l) (by simp)).1
  unfold adR
  rw [e, List.take_append_of_le_length hz]
theorem two_stop {c x : UInt8} (h : Stp c) : two.contains [x, c] = false := by
  have : ¬ [x, c] ∈ two := by rcases h with rfl | rfl | rfl | rfl | rfl <;> simp [two]
  simpa using this
theorem sgR_app {c : UInt8} (h : Stp c) (d : UInt8) (l m : List UInt8) : sgR (d :: l ++ c :: m) = sgR (d :: l) := by
  have e : sgz (d :: l ++ c :: m) = sgz (d :: l) := by
    unfold sgz
    cases l with
    | nil =>
      rw [show ([d] ++ c :: m).take 2 = [d, c] from rfl, two_stop h, Bool.and_false, if_neg Bool.false_ne_true, if_neg (show ¬ (decide (1 < [d].length) && two.contains ([d].take 2)) = true by simp)]
      rfl
    | cons x l =>
      rw [show (d :: x :: l ++ c :: m).take 2 = [d, x] from rfl, show (d :: x :: l).take 2 = [d, x] from rfl, decide_eq_true (show 1 < (d :: x :: l ++ c :: m).length by simp), decide_eq_true (show 1 < (d :: x :: l).length by simp)]
      rfl
  have hz : sgz (d :: l) ≤ (d :: l).length := (sgz_le (l := d :: l) (by simp)).1
  unfold sgR
  rw [e, List.take_append_of_le_length hz]
/-- What stands behind such a sign says nothing of the token ahead. -/
theorem nx_app {c : UInt8} (h : Stp c) (d : UInt8) (l m : List UInt8) : nx (d :: l ++ c :: m) = nx (d :: l) := by
  rw [show nx (d :: l ++ c :: m) = nx (d :: (l ++ c :: m)) from rfl, nx_cons, nx_cons, ← List.cons_append, wdR_app h, unR_app h, adR_app h, sgR_app h]
theorem ltR_z {tok k : Nat} {n : Int} {a z : Nat} (h : (ltR tok k n a z).e = 0) : (ltR tok k n a z).z = a + z ∧ 1 ≤ z ∧ klo k ≤ n ∧ n ≤ khi k ∧ (ltR tok k n a z).t = ⟨tok, k, n, []⟩ := by
  unfold ltR at *
  by_cases h0 : z = 0
  · rw [if_pos h0] at h; cases h
  · rw [if_neg h0] at h ⊢
    split at h
    · cases h
    · rename_i h1
      rw [if_neg h1]
      rw [Bool.or_eq_true, decide_eq_true_eq, decide_eq_true_eq] at h1
      exact ⟨rfl, by omega, by omega, by omega, rfl⟩
theorem tmQ_take {y : List UInt8} {a : Nat} (h : (tmQ y a).e = 0) : a + 1 ≤ (tmQ y a).z ∧ tmQ (y.take ((tmQ y a).z - a)) a = tmQ y a := by
  cases q : hp y [45] with
  | true =>
    have e : tmQ y a = ltR 4 11 (-((span (y.drop 1)).1 : Int)) (a + 1) (span (y.drop 1)).2 := by unfold tmQ; rw [q]; repeat (first | rw [if_pos rfl] | rw [if_neg Bool.false_ne_true])
    have hz := (ltR_z (by rw [← e]; exact h)).1
    rw [← e] at hz
    rw [hz, show a + 1 + (span (y.drop 1)).2 - a = 1 + (span (y.drop 1)).2 by omega]
    refine ⟨by omega, ?_⟩
    have e2 : (y.take (1 + (span (y.drop 1)).2)).drop 1 = (y.drop 1).take (span (y.drop 1)).2 := by rw [List.drop_take, Nat.add_sub_cancel_left]
    have e3 : tmQ (y.take (1 + (span (y.drop 1)).2)) a = ltR 4 11 (-((span ((y.take (1 + (span (y.drop 1)).2)).drop 1)).1 : Int)) (a + 1) (span ((y.take (1 + (span (y.drop 1)).2)).drop 1)).2 := by unfold tmQ; rw [hp_take (by simp), q]; repeat (first | rw [if_pos rfl] | rw [if_neg Bool.false_ne_true])
    rw [e3, e, e2, span_take]
  | false =>
    have e : tmQ y a = ltR 4 11 (span y).1 a (span y).2 := by unfold tmQ; rw [q]; repeat (first | rw [if_pos rfl] | rw [if_neg Bool.false_ne_true])
    obtain ⟨hz, h1, _⟩ := ltR_z (by rw [← e]; exact h)
    rw [← e] at hz
    rw [hz, show a + (span y).2 - a = (span y).2 by omega]
    refine ⟨by omega, ?_⟩
    have e3 : tmQ (y.take (span y).2) a = ltR 4 11 (span (y.take (span y).2)).1 a (span (y.take (span y).2)).2 := by unfold tmQ; rw [hp_of_take q]; repeat (first | rw [if_pos rfl] | rw [if_neg Bool.false_ne_true])
    rw [e3, e, span_take]
theorem tyQ_take {y : List UInt8} {a k : Nat} (h : (tyQ y a k).e = 0) : a + 1 ≤ (tyQ y a k).z ∧ tyQ (y.take ((tyQ y a k).z - a)) a k = tyQ y a k := by
  cases q0 : (decide (k = 1) && hp y [84, 82, 85, 69]) with
  | true =>
    have e : tyQ y a k = ⟨tru 1, a + 4, 0⟩ := by unfold tyQ; rw [q0]; repeat (first | rw [if_pos rfl] | rw [if_neg Bool.false_ne_true])
    rw [e]
    refine ⟨by show a + 1 ≤ a + 4; omega, ?_⟩
    show tyQ (y.take (a + 4 - a)) a k = _
    rw [show a + 4 - a = 4 by omega]
    unfold tyQ
    rw [hp_take (p := [84, 82, 85, 69]) (by simp), q0]
    repeat (first | rw [if_pos rfl] | rw [if_neg Bool.false_ne_true])
  | false =>
    cases q1 : (decide (k = 1) && hp y [70, 65, 76, 83, 69]) with
    | true =>
      have e : tyQ y a k = ⟨tru 0, a + 5, 0⟩ := by unfold tyQ; rw [q0, q1]; repeat (first | rw [if_pos rfl] | rw [if_neg Bool.false_ne_true])
      rw [e]
      refine ⟨by show a + 1 ≤ a + 5; omega, ?_⟩
      show tyQ (y.take (a + 5 - a)) a k = _
      rw [show a + 5 - a = 5 by omega]
      unfold tyQ
      rw [hp_take (p := [84, 82, 85, 69]) (by simp), hp_take (p := [70, 65, 76, 83, 69]) (by simp), q0, q1]
      repeat (first | rw [if_pos rfl] | rw [if_neg Bool.false_ne_true])
    | false =>
      have n0 : ∀ K, (decide (k = 1) && hp (y.take K) [84, 82, 85, 69]) = false := fun K => by
        rw [Bool.and_eq_false_iff] at *
        rcases q0 with q | q
        · exact Or.inl q
        · exact Or.inr (hp_of_take q)
      have n1 : ∀ K, (decide (k = 1) && hp (y.take K) [70, 65, 76, 83, 69]) = false := fun K => by
        rw [Bool.and_eq_false_iff] at *
        rcases q1 with q | q
        · exact Or.inl q
        · exact Or.inr (hp_of_take q)
      cases q2 : (hp y [45] && decide (klo k < 0)) with
      | true =>
        have e : tyQ y a k = ltR 3 k (-((rd 10 (y.drop 1)).1 : Int)) (a + 1) (rd 10 (y.drop 1)).2 := by unfold tyQ; rw [q0, q1, q2]; repeat (first | rw [if_pos rfl] | rw [if_neg Bool.false_ne_true])
        have hz := (ltR_z (by rw [← e]; exact h)).1
        rw [← e] at hz
        rw [hz, show a + 1 + (rd 10 (y.drop 1)).2 - a = 1 + (rd 10 (y.drop 1)).2 by omega]
        refine ⟨by omega, ?_⟩
        have e2 : (y.take (1 + (rd 10 (y.drop 1)).2)).drop 1 = (y.drop 1).take (rd 10 (y.drop 1)).2 := by rw [List.drop_take, Nat.add_sub_cancel_left]
        have e3 : tyQ (y.take (1 + (rd 10 (y.drop 1)).2)) a k = ltR 3 k (-((rd 10 ((y.take (1 + (rd 10 (y.drop 1)).2)).drop 1)).1 : Int)) (a + 1) (rd 10 ((y.take (1 + (rd 10 (y.drop 1)).2)).drop 1)).2 := by
          unfold tyQ
          rw [n0, n1, hp_take (p := [45]) (by simp), q2]
          repeat (first | rw [if_pos rfl] | rw [if_neg Bool.false_ne_true])
        rw [e3, e, e2, rd_take (Nat.le_refl _)]
      | false =>
        have e : tyQ y a k = ltR 3 k (num y).1 a (num y).2 := by unfold tyQ; rw [q0, q1, q2]; repeat (first | rw [if_pos rfl] | rw [if_neg Bool.false_ne_true])
        obtain ⟨hz, h1, _⟩ := ltR_z (by rw [← e]; exact h)
        rw [← e] at hz
        rw [hz, show a + (num y).2 - a = (num y).2 by omega]
        refine ⟨by omega, ?_⟩
        have n2 : (hp (y.take (num y).2) [45] && decide (klo k < 0)) = false := by
          rw [Bool.and_eq_false_iff] at *
          rcases q2 with q | q
          · exact Or.inl (hp_of_take q)
          · exact Or.inr q
        have e3 : tyQ (y.take (num y).2) a k = ltR 3 k (num (y.take (num y).2)).1 a (num (y.take (num y).2)).2 := by unfold tyQ; rw [n0, n1, n2]; repeat (first | rw [if_pos rfl] | rw [if_neg Bool.false_ne_true])
        rw [e3, e, num_take (by omega) (Nat.le_refl _)]
/-- A word's token: what is behind the word, by whether a literal begins there. -/
theorem wdR_time {l : List UInt8} (q : (hp (l.drop (cz inW l)) [35] && (decide (kf (l.take (cz inW l)) = 11) || (l.take (cz inW l) == [84]))) = true) : wdR l = tmQ (l.drop (cz inW l + 1)) (cz inW l + 1) := by
  unfold wdR; rw [q, if_pos rfl, tmR_Q]
theorem wdR_typed {l : List UInt8} (q : (hp (l.drop (cz inW l)) [35] && (decide (kf (l.take (cz inW l)) = 11) || (l.take (cz inW l) == [84]))) = false) (q2 : (hp (l.drop (cz inW l)) [35] && !decide (kf (l.take (cz inW l)) = 0)) = true) : wdR l = tyQ (l.drop (cz inW l + 1)) (cz inW l + 1) (kf (l.take (cz inW l))) := by
  unfold wdR; rw [q, q2, if_neg Bool.false_ne_true, if_pos rfl, tyR_Q]
theorem wdR_plain {l : List UInt8} (q : (hp (l.drop (cz inW l)) [35] && (decide (kf (l.take (cz inW l)) = 11) || (l.take (cz inW l) == [84]))) = false) (q2 : (hp (l.drop (cz inW l)) [35] && !decide (kf (l.take (cz inW l)) = 0)) = false) : wdR l = plainW (l.take (cz inW l)) := by
  unfold wdR; rw [q, q2]; repeat (first | rw [if_pos rfl] | rw [if_neg Bool.false_ne_true])
theorem wd_cut {l : List UInt8} {K : Nat} (hK : cz inW l + 1 ≤ K) : cz inW (l.take K) = cz inW l ∧ (l.take K).take (cz inW l) = l.take (cz inW l) ∧ hp ((l.take K).drop (cz inW l)) [35] = hp (l.drop (cz inW l)) [35] ∧ (l.take K).drop (cz inW l + 1) = (l.drop (cz inW l + 1)).take (K - (cz inW l + 1)) := by
  refine ⟨cz_take (by omega), ?_, ?_, List.drop_take⟩
  · rw [List.take_take, Nat.min_eq_left (by omega)]
  · rw [List.drop_take, hp_take (by show 1 ≤ _; omega)]
theorem wdR_take {l : List UInt8} (h : (wdR l).e = 0) : wdR (l.take (wdR l).z) = wdR l := by
  cases q : (hp (l.drop (cz inW l)) [35] && (decide (kf (l.take (cz inW l)) = 11) || (l.take (cz inW l) == [84]))) with
  | true =>
    have e := wdR_time q
    rw [e] at h
    obtain ⟨h1, h2⟩ := tmQ_take h
    rw [e]
    obtain ⟨c1, c2, c3, c4⟩ := wd_cut (l := l) (K := (tmQ (l.drop (cz inW l + 1)) (cz inW l + 1)).z) (by omega)
    rw [wdR_time (by rw [c1, c2, c3]; exact q), c1, c4]
    exact h2
  | false =>
    cases q2 : (hp (l.drop (cz inW l)) [35] && !decide (kf (l.take (cz inW l)) = 0)) with
    | true =>
      have e := wdR_typed q q2
      rw [e] at h
      obtain ⟨h1, h2⟩ := tyQ_take h
      rw [e]
      obtain ⟨c1, c2, c3, c4⟩ := wd_cut (l := l) (K := (tyQ (l.drop (cz inW l + 1)) (cz inW l + 1) (kf (l.take (cz inW l)))).z) (by omega)
      rw [wdR_typed (by rw [c1, c2, c3]; exact q) (by rw [c1, c2, c3]; exact q2), c1, c2, c4]
      exact h2
    | false =>
      have e := wdR_plain q q2
      rw [e] at h ⊢
      have hz := cz_le inW l
      rw [plainW_ok h, List.length_take, Nat.min_eq_left hz]
      have c1 : cz inW (l.take (cz inW l)) = cz inW l := cz_take (Nat.le_refl _)
      have c2 : (l.take (cz inW l)).drop (cz inW l) = [] := by rw [List.drop_take, Nat.sub_self, List.take_zero]
      rw [wdR_plain (by rw [c1, c2]; rfl) (by rw [c1, c2]; rfl), c1, List.take_take, Nat.min_self]
theorem unR_take {l : List UInt8} (h : (unR l).e = 0) : unR (l.take (unR l).z) = unR l := by
  unfold unR at h
  by_cases h0 : (num l).2 = 0
  · rw [if_pos h0] at h; cases h
  · rw [if_neg h0] at h
    by_cases h1 : 4294967295 < (num l).1
    · rw [if_pos h1] at h; cases h
    · have e : unR l = ⟨⟨3, 0, (num l).1, []⟩, (num l).2, 0⟩ := by unfold unR; rw [if_neg h0, if_neg h1]
      rw [e]
      show unR (l.take (num l).2) = _
      unfold unR
      rw [num_take h0 (Nat.le_refl _), if_neg h0, if_neg h1]
theorem adR_take {d : UInt8} {l : List UInt8} (h : (adR (d :: l)).e = 0) : adR ((d :: l).take (adR (d :: l)).z) = adR (d :: l) := by
  by_cases h0 : pe ((d :: l).take (adz (d :: l))) = 0
  · have e : adR (d :: l) = ⟨⟨5, 0, 0, (d :: l).take (adz (d :: l))⟩, adz (d :: l), 0⟩ := by unfold adR; rw [if_pos h0]
    rw [e]
    show adR ((d :: l).take (adz (d :: l))) = _
    have e2 : adz ((d :: l).take (adz (d :: l))) = adz (d :: l) := by
      unfold adz
      rw [show (d :: l).drop 1 = l from rfl, Nat.add_comm 1 (cz inA l), List.take_succ_cons, show (d :: l.take (cz inA l)).drop 1 = l.take (cz inA l) from rfl, cz_take (Nat.le_refl _)]
      omega
    unfold adR
    rw [e2, List.take_take, Nat.min_self, if_pos h0]
  · unfold adR at h
    rw [if_neg h0] at h
    exact absurd h h0
theorem sgR_take {d : UInt8} {l : List UInt8} (h : (sgR (d :: l)).e = 0) : sgR ((d :: l).take (sgR (d :: l)).z) = sgR (d :: l) := by
  by_cases h0 : sgz (d :: l) = 0
  · unfold sgR at h; rw [if_pos h0] at h; cases h
  · have e : sgR (d :: l) = ⟨⟨6, 0, 0, (d :: l).take (sgz (d :: l))⟩, sgz (d :: l), 0⟩ := by unfold sgR; rw [if_neg h0]
    rw [e]
    show sgR ((d :: l).take (sgz (d :: l))) = _
    have e2 : sgz ((d :: l).take (sgz (d :: l))) = sgz (d :: l) := by
      cases q : (decide (1 < (d :: l).length) && two.contains ((d :: l).take 2)) with
      | true =>
        have e3 : sgz (d :: l) = 2 := by unfold sgz; rw [if_pos q]
        rw [e3]
        rw [Bool.and_eq_true, decide_eq_true_eq] at q
        unfold sgz
        rw [List.take_take, Nat.min_self, q.2, List.length_take, decide_eq_true (show 1 < min 2 (d :: l).length by omega)]
        rfl
      | false =>
        have e3 : sgz (d :: l) = if ((d :: l).take 1).all one.contains then 1 else 0 := by unfold sgz; rw [q]; rfl
        rw [e3] at h0 ⊢
        split at h0
        · rename_i q2
          rw [if_pos q2]
          unfold sgz
          rw [if_neg (show ¬ (decide (1 < ((d :: l).take 1).length) && two.contains (((d :: l).take 1).take 2)) = true by simp), List.take_take, Nat.min_self, if_pos q2]
        · exact absurd rfl h0
    unfold sgR
    rw [e2, if_neg h0, List.take_take, Nat.min_self]
/-- A token alone is told as it was. -/
theorem nx_take {d : UInt8} {l : List UInt8} (h : (nx (d :: l)).e = 0) : nx ((d :: l).take (nx (d :: l)).z) = nx (d :: l) := by
  have hk := nx_ok (l := d :: l) (by simp) h
  have hh : ∀ K, 1 ≤ K → nx ((d :: l).take K) = if isL d then wdR ((d :: l).take K) else if dgt d then unR ((d :: l).take K) else if decide (d.toNat = 37) then adR ((d :: l).take K) else if decide (d.toNat = 10) then ⟨⟨7, 0, 0, [10]⟩, 1, 0⟩ else sgR ((d :: l).take K) := fun K hK => by
    obtain ⟨K, rfl⟩ : ∃ k', K = k' + 1 := ⟨K - 1, by omega⟩
    rw [List.take_succ_cons, nx_cons]
  rw [hh _ hk.1]
  rw [nx_cons] at h ⊢
  cases q1 : isL d with
  | true => rw [q1, if_pos rfl] at h; simp only [if_true]; exact wdR_take h
  | false =>
    rw [q1, if_neg Bool.false_ne_true] at h
    simp only [Bool.false_eq_true, if_false]
    cases q2 : dgt d with
    | true => rw [q2, if_pos rfl] at h; simp only [if_true]; exact unR_take h
    | false =>
      rw [q2, if_neg Bool.false_ne_true] at h
      simp only [Bool.false_eq_true, if_false]
      cases q3 : decide (d.toNat = 37) with
      | true => rw [q3, if_pos rfl] at h; simp only [if_true]; exact adR_take h
      | false =>
        rw [q3, if_neg Bool.false_ne_true] at h
        simp only [Bool.false_eq_true, if_false]
        cases q4 : decide (d.toNat = 10) with
        | true => simp only [if_true]
        | false =>
          rw [q4, if_neg Bool.false_ne_true] at h
          simp only [Bool.false_eq_true, if_false]
          exact sgR_take h
/-- In a token that is told whole no sign behind the first is one of these. -/
theorem nx_clean {d : UInt8} {l : List UInt8} (h : (nx (d :: l)).e = 0) (hz : (nx (d :: l)).z = (d :: l).length) : ∀ c, c ∈ l → ¬ Stp c := by
  intro c hc hs
  obtain ⟨x, m, rfl⟩ := List.append_of_mem hc
  have e : nx (d :: (x ++ c :: m)) = nx (d :: x) := nx_app hs d x m
  rw [e] at h hz
  have := (nx_ok (l := d :: x) (by simp) h).2
  rw [hz] at this
  simp at this
  omega
theorem nx_open {l : List UInt8} (hz : (nx (40 :: l)).z = (40 :: l).length) : l = [] := by
  rw [nx_cons, if_neg (by decide), if_neg (by decide), if_neg (by decide), if_neg (by decide)] at hz
  have e : sgz (40 :: l) = 1 := by
    have h2 : two.contains ((40 :: l).take 2) = false := by
      have : ¬ (40 :: l).take 2 ∈ two := by
        rw [List.take_succ_cons]
        simp [two]
      simpa using this
    unfold sgz
    rw [h2, Bool.and_false]
    rfl
  unfold sgR at hz
  rw [e] at hz
  replace hz : 1 = (40 :: l).length := hz
  rw [List.length_cons] at hz
  exact List.length_eq_zero_iff.1 (by omega)
open Go.RowKit
open Adr Lx
/-- What was read, and how many signs; none: it can't be. -/
def okR (r : R) : Option (Tk × Nat) := if r.e = 0 then some (r.t, r.z) else none
def rlt (tok k : Nat) (n : Int) (z : Nat) : Option (Tk × Nat) := if decide (n < klo k) || decide (khi k < n) then none else some (⟨tok, k, n, []⟩, z)
def hL : List UInt8 → Bool
  | [] => false
  | c :: _ => isL c
def rtm (F : Nat) (r : List UInt8) : Option (Tk × Nat) :=
  if hp r [45] then (if (rtl F (r.drop 1) 0 0 0).2.1 = 0 then none else rlt 4 11 (wrap64 (-(rtl F (r.drop 1) 0 0 0).1)) (1 + (rtl F (r.drop 1) 0 0 0).2.2))
  else if (rtl F r 0 0 0).2.1 = 0 then none else rlt 4 11 (rtl F r 0 0 0).1 (rtl F r 0 0 0).2.2
def rbl (r : List UInt8) : Option (Tk × Nat) := if r.take (cz inW r) == [84, 82, 85, 69] then some (tru 1, 4) else if r.take (cz inW r) == [70, 65, 76, 83, 69] then some (tru 0, 5) else none
def rmi (k : Nat) (r : List UInt8) : Option (Tk × Nat) := if hdk 10 (r.drop 1) then rlt 3 k (-((rdg 10 (r.drop 1) 0 0).1 : Int)) (1 + (rdg 10 (r.drop 1) 0 0).2) else none
def rnu (k : Nat) (r : List UInt8) : Option (Tk × Nat) := if (rnm r).2.1 = 0 then none else rlt 3 k (rnm r).1 (rnm r).2.2
/-- What stands behind a kind and #. -/
def rty (F k : Nat) (r : List UInt8) : Option (Tk × Nat) := if k = 11 then rtm F r else if decide (k = 1) && hL r then rbl r else if hp r [45] && decide (klo k < 0) then rmi k r else rnu k r
def shf (a : Nat) (o : Option (Tk × Nat)) : Option (Tk × Nat) := o.map fun q => (q.1, a + q.2)
def kT (w : List UInt8) : Nat := if w == [84] then 11 else kf w
def rwd (F : Nat) (l : List UInt8) : Option (Tk × Nat) :=
  if hp (l.drop (cz inW l)) [35] && ((l.take (cz inW l) == [84]) || !decide (kf (l.take (cz inW l)) = 0)) then shf (cz inW l + 1) (rty F (kT (l.take (cz inW l))) (l.drop (cz inW l + 1)))
  else okR (plainW (l.take (cz inW l)))
def rug (l : List UInt8) : Option (Tk × Nat) := if (rnm l).2.1 = 0 then none else if 4294967295 < (rnm l).1 then none else some (⟨3, 0, (rnm l).1, []⟩, (rnm l).2.2)
/-- The reference's next token. -/
def rnx (F : Nat) : List UInt8 → Option (Tk × Nat)
  | [] => none
  | c :: l => if isL c then rwd F (c :: l) else if dgt c then rug (c :: l) else if decide (c.toNat = 37) then okR (adR (c :: l)) else okR (sgR (c :: l))
theorem rnx_cons (F : Nat) (c : UInt8) (l : List UInt8) : rnx F (c :: l) = if isL c then rwd F (c :: l) else if dgt c then rug (c :: l) else if decide (c.toNat = 37) then okR (adR (c :: l)) else okR (sgR (c :: l)) := rfl
theorem okR_some {r : R} {t : Tk} {z : Nat} (h : okR r = some (t, z)) : r = ⟨t, z, 0⟩ := by
  unfold okR at h
  split at h
  · rename_i q
    obtain ⟨a, b, c⟩ := r
    simp only [Option.some.injEq, Prod.mk.injEq] at h
    obtain ⟨h1, h2⟩ := h
    have q : c = 0 := q
    rw [h1, h2, q]
  · cases h
theorem okR_ltR (tok k : Nat) (n : Int) (a z : Nat) : okR (ltR tok k n a z) = if z = 0 then none else shf a (rlt tok k n z) := by
  unfold ltR rlt
  split
  · rfl
  · split <;> rfl
/-- A number that is cut off beyond the range. -/
theorem rlt_cut {tok k z : Nat} {n m : Int} (hk : k ≤ 11) (h : n = m ∨ (4294967295 < n ∧ 4294967295 < m) ∨ (n < -2147483648 ∧ m < -2147483648)) : rlt tok k n z = rlt tok k m z := by
  rcases h with h | h
  · rw [h]
  · have r : -2147483648 ≤ klo k ∧ klo k ≤ 0 ∧ 0 ≤ khi k ∧ khi k ≤ 4294967295 := by
      have hc : k = 0 ∨ k = 1 ∨ k = 2 ∨ k = 3 ∨ k = 4 ∨ k = 5 ∨ k = 6 ∨ k = 7 ∨ k = 8 ∨ k = 9 ∨ k = 10 ∨ k = 11 := by omega
      rcases hc with rfl | rfl | rfl | rfl | rfl | rfl | rfl | rfl | rfl | rfl | rfl | rfl <;> decide
    unfold rlt
    have e1 : (decide (n < klo k) || decide (khi k < n)) = true := by
      rw [Bool.or_eq_true, decide_eq_true_eq, decide_eq_true_eq]; omega
    have e2 : (decide (m < klo k) || decide (khi k < m)) = true := by
      rw [Bool.or_eq_true, decide_eq_true_eq, decide_eq_true_eq]; omega
    rw [e1, e2]
    rfl
theorem rnu_ok {k : Nat} (hk : k ≤ 11) (a : Nat) (y : List UInt8) : shf a (rnu k y) = okR (ltR 3 k (num y).1 a (num y).2) := by
  rw [okR_ltR]
  unfold rnu
  rcases num_rnm y with ⟨h1, h2⟩ | ⟨h1, h2, h3⟩
  · rw [if_pos h1, if_pos h2]; rfl
  · rw [if_neg h1, if_neg h3, h2]
    congr 1
    refine rlt_cut hk ?_
    show ((rnm y).1 : Int) = ((min (rnm y).1 8589934592 : Nat) : Int) ∨ (4294967295 < ((rnm y).1 : Int) ∧ 4294967295 < ((min (rnm y).1 8589934592 : Nat) : Int)) ∨ _
    omega
theorem shf_shf (a b : Nat) (o : Option (Tk × Nat)) : shf a (shf b o) = shf (a + b) o := by
  cases o with
  | none => rfl
  | some q => show some (q.1, a + (b + q.2)) = some (q.1, a + b + q.2); rw [Nat.add_assoc]
theorem rlt_shf (tok k : Nat) (n : Int) (a z : Nat) : rlt tok k n (a + z) = shf a (rlt tok k n z) := by
  unfold rlt
  split <;> rfl
theorem rmi_ok {k : Nat} (hk : k ≤ 11) (a : Nat) (y : List UInt8) : shf a (rmi k y) = okR (ltR 3 k (-((rd 10 (y.drop 1)).1 : Int)) (a + 1) (rd 10 (y.drop 1)).2) := by
  rw [okR_ltR]
  unfold rmi
  have e := hdk_rd 10 (y.drop 1)
  cases h : hdk 10 (y.drop 1) with
  | false =>
    rw [h] at e
    have e2 := decide_eq_false_iff_not.1 e.symm
    rw [if_neg Bool.false_ne_true, if_pos (by omega)]
    rfl
  | true =>
    rw [h] at e
    have e2 := decide_eq_true_iff.1 e.symm
    rw [if_pos rfl, if_neg (by omega), rlt_shf, shf_shf, rd_rdg (by omega) h]
    congr 1
    refine rlt_cut hk ?_
    show (-((rdg 10 (y.drop 1) 0 0).1 : Int)) = -((min (rdg 10 (y.drop 1) 0 0).1 8589934592 : Nat) : Int) ∨ (4294967295 < (-((rdg 10 (y.drop 1) 0 0).1 : Int)) ∧ 4294967295 < -((min (rdg 10 (y.drop 1) 0 0).1 8589934592 : Nat) : Int)) ∨ ((-((rdg 10 (y.drop 1) 0 0).1 : Int)) < -2147483648 ∧ -((min (rdg 10 (y.drop 1) 0 0).1 8589934592 : Nat) : Int) < -2147483648)
    omega
theorem rtm_ok {F : Nat} (a : Nat) (y : List UInt8) (hF : y.length < F) (ht : tam F (if hp y [45] then y.drop 1 else y) 0) : shf a (rtm F y) = okR (tmQ y a) := by
  unfold rtm tmQ
  cases hq : hp y [45] with
  | true =>
    rw [hq, if_pos rfl] at ht
    rw [if_pos rfl, if_pos rfl, okR_ltR, span_ptl (y.drop 1) F (by rw [List.length_drop]; omega)]
    obtain ⟨L, e1, e2⟩ := rtl_ptl F (y.drop 1) 0 0 0 ht
    rw [show ((min 0 1099511627776 : Nat) : Int) = 0 from rfl] at e1
    rw [e1]
    show shf a (if L = 0 then none else rlt 4 11 (wrap64 (-((min (0 + (ptl F (y.drop 1) 0).1) 1099511627776 : Nat) : Int))) (1 + (0 + (ptl F (y.drop 1) 0).2))) = _
    rw [Nat.zero_add, Nat.zero_add]
    by_cases h0 : (ptl F (y.drop 1) 0).2 = 0
    · rw [if_pos h0, if_pos (e2.2 ⟨rfl, h0⟩)]; rfl
    · rw [if_neg h0, if_neg (fun q => h0 (e2.1 q).2), rlt_shf, shf_shf]
      congr 1
      refine rlt_cut (by omega) ?_
      generalize (ptl F (y.drop 1) 0).1 = X
      rw [show wrap64 (-((min X 1099511627776 : Nat) : Int)) = -((min X 1099511627776 : Nat) : Int) by unfold wrap64; omega]
      omega
  | false =>
    rw [hq, if_neg Bool.false_ne_true] at ht
    rw [if_neg Bool.false_ne_true, if_neg Bool.false_ne_true, okR_ltR, span_ptl y F hF]
    obtain ⟨L, e1, e2⟩ := rtl_ptl F y 0 0 0 ht
    rw [show ((min 0 1099511627776 : Nat) : Int) = 0 from rfl] at e1
    rw [e1]
    show shf a (if L = 0 then none else rlt 4 11 ((min (0 + (ptl F y 0).1) 1099511627776 : Nat) : Int) (0 + (ptl F y 0).2)) = _
    rw [Nat.zero_add, Nat.zero_add]
    by_cases h0 : (ptl F y 0).2 = 0
    · rw [if_pos h0, if_pos (e2.2 ⟨rfl, h0⟩)]; rfl
    · rw [if_neg h0, if_neg (fun q => h0 (e2.1 q).2)]
      congr 1
      refine rlt_cut (by omega) ?_
      generalize (ptl F y 0).1 = X
      omega
/-- A time that the program took: no part of it, nor of what it begins with, is beyond what is counted. -/
theorem tmQ_tam {F : Nat} {a : Nat} {Y : List UInt8} (n : Nat) (h : (tmQ Y a).e = 0) (hF : Y.length < F) : tam F (if hp (Y.take n) [45] then (Y.take n).drop 1 else Y.take n) 0 := by
  cases hq : hp Y [45] with
  | true =>
    have e : tmQ Y a = ltR 4 11 (-((span (Y.drop 1)).1 : Int)) (a + 1) (span (Y.drop 1)).2 := by unfold tmQ; rw [hq, if_pos rfl]
    rw [e] at h
    obtain ⟨_, _, h3, h4, _⟩ := ltR_z h
    rw [show klo 11 = -2147483648 from rfl] at h3
    rw [span_ptl (Y.drop 1) F (by rw [List.length_drop]; omega)] at h3
    have ht := tam_of F (Y.drop 1) 0 (by omega)
    cases n with
    | zero => rw [List.take_zero]; exact tam_nil F 0
    | succ n =>
      rw [hp_take (by simp), hq, if_pos rfl, List.drop_take]
      exact tam_take _ ht
  | false =>
    have e : tmQ Y a = ltR 4 11 (span Y).1 a (span Y).2 := by unfold tmQ; rw [hq, if_neg Bool.false_ne_true]
    rw [e] at h
    obtain ⟨_, _, h3, h4, _⟩ := ltR_z h
    rw [show khi 11 = 2147483647 from rfl, span_ptl Y F hF] at h4
    have ht := tam_of F Y 0 (by omega)
    rw [hp_of_take hq, if_neg Bool.false_ne_true]
    exact tam_take _ ht
theorem num_letter {y : List UInt8} (h : hL y = true) : (num y).2 = 0 := by
  cases y with
  | nil => cases h
  | cons c y =>
    have hc : isL c = true := h
    have hd : dgt c = false := by
      unfold isL at hc; unfold dgt
      rw [Bool.or_eq_true, Bool.or_eq_true, Bool.and_eq_true, Bool.and_eq_true] at hc
      simp only [decide_eq_true_eq] at hc
      rw [Bool.and_eq_false_iff, decide_eq_false_iff_not, decide_eq_false_iff_not]
      omega
    have hb : ∀ (k : Nat), hp (c :: y) (bn k).data.toList = false := fun k => by
      cases e : hp (c :: y) (bn k).data.toList with
      | false => rfl
      | true =>
        rw [hp_iff] at e
        exfalso
        unfold bn at e
        split at e <;> (obtain ⟨r, e⟩ := e; have e2 := (List.cons.inj e).1; rw [← e2] at hd; exact absurd hd (by decide))
    unfold num
    rw [hb 0, hb 1, hb 2, if_neg Bool.false_ne_true, if_neg Bool.false_ne_true, if_neg Bool.false_ne_true, rd_cons, okd_dgt, hd]
    rfl
theorem letter_minus {y : List UInt8} (h : hL y = true) : hp y [45] = false := by
  cases y with
  | nil => cases h
  | cons c y =>
    have hc : isL c = true := h
    cases e : hp (c :: y) [45] with
    | false => rfl
    | true =>
      rw [hp_iff] at e
      obtain ⟨r, e⟩ := e
      have e2 := (List.cons.inj e).1
      rw [← e2] at hc
      exact absurd hc (by decide)
theorem rbl_no {y : List UInt8} (h0 : hp y [84, 82, 85, 69] = false) (h1 : hp y [70, 65, 76, 83, 69] = false) : rbl y = none := by
  have q : ∀ p, hp y p = false → (y.take (cz inW y) == p) = false := fun p hp0 => by
    cases e : (y.take (cz inW y) == p) with
    | false => rfl
    | true =>
      have e2 := beq_iff_eq.1 e
      rw [← e2, hp_iff.2 (List.take_prefix _ _)] at hp0
      exact hp0
  unfold rbl
  rw [q _ h0, q _ h1, if_neg Bool.false_ne_true, if_neg Bool.false_ne_true]
theorem tyQ_off {y : List UInt8} {a k : Nat} (h0 : (decide (k = 1) && hp y [84, 82, 85, 69]) = false) (h1 : (decide (k = 1) && hp y [70, 65, 76, 83, 69]) = false) : tyQ y a k = if hp y [45] && decide (klo k < 0) then ltR 3 k (-((rd 10 (y.drop 1)).1 : Int)) (a + 1) (rd 10 (y.drop 1)).2 else ltR 3 k (num y).1 a (num y).2 := by
  unfold tyQ
  rw [h0, h1, if_neg Bool.false_ne_true, if_neg Bool.false_ne_true]
theorem rty_true (F a n : Nat) : shf a (rty F 1 (([84, 82, 85, 69] : List UInt8).take n)) = okR (tyQ (([84, 82, 85, 69] : List UInt8).take n) a 1) := by
  match n with
  | 0 => rfl
  | 1 => rfl
  | 2 => rfl
  | 3 => rfl
  | n + 4 => rw [List.take_of_length_le (by simp)]; rfl
theorem rty_false (F a n : Nat) : shf a (rty F 1 (([70, 65, 76, 83, 69] : List UInt8).take n)) = okR (tyQ (([70, 65, 76, 83, 69] : List UInt8).take n) a 1) := by
  match n with
  | 0 => rfl
  | 1 => rfl
  | 2 => rfl
  | 3 => rfl
  | 4 => rfl
  | n + 5 => rw [List.take_of_length_le (by simp)]; rfl
theorem rty_ok {F a k : Nat} {Y : List UInt8} (n : Nat) (hk : k ≤ 11) (hk2 : ¬ k = 11) (hz : (tyQ Y a k).z = a + Y.length) : shf a (rty F k (Y.take n)) = okR (tyQ (Y.take n) a k) := by
  cases q0 : (decide (k = 1) && hp Y [84, 82, 85, 69]) with
  | true =>
    have e : tyQ Y a k = ⟨tru 1, a + 4, 0⟩ := by unfold tyQ; rw [q0, if_pos rfl]
    rw [Bool.and_eq_true, decide_eq_true_eq] at q0
    obtain ⟨rfl, q⟩ := q0
    rw [e] at hz
    have hz : a + 4 = a + Y.length := hz
    have hY : Y = [84, 82, 85, 69] := ((hp_iff.1 q).eq_of_length (by rw [show Y.length = 4 by omega]; rfl)).symm
    rw [hY]
    exact rty_true F a n
  | false =>
    cases q1 : (decide (k = 1) && hp Y [70, 65, 76, 83, 69]) with
    | true =>
      have e : tyQ Y a k = ⟨tru 0, a + 5, 0⟩ := by unfold tyQ; rw [q0, q1, if_neg Bool.false_ne_true, if_pos rfl]
      rw [Bool.and_eq_true, decide_eq_true_eq] at q1
      obtain ⟨rfl, q⟩ := q1
      rw [e] at hz
      have hz : a + 5 = a + Y.length := hz
      have hY : Y = [70, 65, 76, 83, 69] := ((hp_iff.1 q).eq_of_length (by rw [show Y.length = 5 by omega]; rfl)).symm
      rw [hY]
      exact rty_false F a n
    | false =>
      have n0 : (decide (k = 1) && hp (Y.take n) [84, 82, 85, 69]) = false := by
        rw [Bool.and_eq_false_iff] at *
        rcases q0 with q | q
        · exact Or.inl q
        · exact Or.inr (hp_of_take q)
      have n1 : (decide (k = 1) && hp (Y.take n) [70, 65, 76, 83, 69]) = false := by
        rw [Bool.and_eq_false_iff] at *
        rcases q1 with q | q
        · exact Or.inl q
        · exact Or.inr (hp_of_take q)
      rw [tyQ_off n0 n1]
      generalize Y.take n = y at *
      unfold rty
      rw [if_neg hk2]
      by_cases h1 : k = 1
      · rw [decide_eq_true h1, Bool.true_and] at n0 n1 ⊢
        cases hl : hL y with
        | true =>
          rw [if_pos rfl, rbl_no n0 n1, letter_minus hl, Bool.false_and, if_neg Bool.false_ne_true, okR_ltR, if_pos (num_letter hl)]
          rfl
        | false =>
          rw [if_neg Bool.false_ne_true]
          split
          · exact rmi_ok hk a y
          · exact rnu_ok hk a y
      · rw [decide_eq_false h1, Bool.false_and, if_neg Bool.false_ne_true]
        split
        · exact rmi_ok hk a y
        · exact rnu_ok hk a y
theorem kf_le (l : List UInt8) : kf l ≤ 11 := by
  unfold kf
  cases e : (List.range 12).find? (isK l) with
  | none => exact Nat.zero_le _
  | some k =>
    have := List.mem_of_find?_eq_some e
    rw [List.mem_range] at this
    show k ≤ 11
    omega
theorem run_ok (y : List UInt8) : rug y = okR (unR y) := by
  unfold rug unR
  rcases num_rnm y with ⟨h1, h2⟩ | ⟨h1, h2, h3⟩
  · rw [if_pos h1, if_pos h2]; rfl
  · rw [if_neg h1, if_neg h3, h2]
    by_cases h : 4294967295 < (rnm y).1
    · rw [if_pos h, if_pos (show 4294967295 < min (rnm y).1 8589934592 by omega)]; rfl
    · rw [if_neg h, if_neg (show ¬ 4294967295 < min (rnm y).1 8589934592 by omega)]
      have e : min (rnm y).1 8589934592 = (rnm y).1 := by omega
      rw [e]
      rfl
/-- A word of the program, of a token that it took whole: the reference reads what it begins with alike. -/
theorem rwd_ok {F : Nat} {q : List UInt8} (n : Nat) (he : (wdR q).e = 0) (hz : (wdR q).z = q.length) (hF : q.length < F) : rwd F (q.take n) = okR (wdR (q.take n)) := by
  generalize hp0 : q.take n = p
  have hlen : p.length ≤ q.length := by rw [← hp0, List.length_take]; omega
  cases hh : hp (p.drop (cz inW p)) [35] with
  | false =>
    unfold rwd wdR
    rw [hh, Bool.false_and, Bool.false_and, Bool.false_and, if_neg Bool.false_ne_true, if_neg Bool.false_ne_true, if_neg Bool.false_ne_true]
  | true =>
    have hr := hp_room hh
    obtain ⟨r, hr2⟩ := hp_iff.1 hh
    have hpe : p = p.take (cz inW p) ++ 35 :: r := by
      rw [show (35 : UInt8) :: r = p.drop (cz inW p) by rw [← hr2]; rfl, List.take_append_drop]
    have hqe : q = p.take (cz inW p) ++ 35 :: (r ++ q.drop n) := by
      have h1 : q = p ++ q.drop n := by rw [← hp0, List.take_append_drop]
      have h2 : p ++ q.drop n = p.take (cz inW p) ++ 35 :: (r ++ q.drop n) := by
        conv => lhs; rw [hpe]
        rw [List.append_assoc, List.cons_append]
      rw [h1]
      conv => lhs; rw [h2]
      rw [← h1]
    have hw : cz inW (p.take (cz inW p)) = cz inW p := cz_take (Nat.le_refl _)
    have hk : cz inW q = cz inW p := by
      conv => lhs; rw [hqe]
      rw [cz_app _ (by decide), hw]
    have hn : cz inW p + 1 ≤ n := by
      have : p.length ≤ n := by rw [← hp0, List.length_take]; omega
      omega
    have ht : q.take (cz inW p) = p.take (cz inW p) := by rw [← hp0, List.take_take, Nat.min_eq_left (by rw [hp0]; omega)]
    have hh2 : hp (q.drop (cz inW p)) [35] = true := by
      rw [hp_iff]
      conv => rhs; rw [hqe]
      rw [List.drop_append_of_le_length (by rw [List.length_take]; have := cz_le inW p; omega), List.drop_take, Nat.sub_self, List.take_zero, List.nil_append]
      exact ⟨_, rfl⟩
    have hd : p.drop (cz inW p + 1) = (q.drop (cz inW p + 1)).take (n - (cz inW p + 1)) := by rw [← hp0, List.drop_take]
    have hl2 : q.length = (cz inW p + 1) + (q.drop (cz inW p + 1)).length := by rw [List.length_drop]; omega
    cases c1 : (decide (kf (p.take (cz inW p)) = 11) || (p.take (cz inW p) == [84])) with
    | true =>
      have eq : wdR q = tmQ (q.drop (cz inW p + 1)) (cz inW p + 1) := by
        have := wdR_time (l := q) (by rw [hk, ht, hh2, c1]; rfl)
        rw [hk] at this
        exact this
      rw [eq] at he hz
      have ep : wdR p = tmQ (p.drop (cz inW p + 1)) (cz inW p + 1) := wdR_time (by rw [hh, c1]; rfl)
      have k11 : kT (p.take (cz inW p)) = 11 := by
        unfold kT
        split
        · rfl
        · rename_i q5
          rw [Bool.or_eq_true, decide_eq_true_eq] at c1
          rcases c1 with c | c
          · exact c
          · exact absurd c q5
      have cond : ((p.take (cz inW p) == [84]) || !decide (kf (p.take (cz inW p)) = 0)) = true := by
        rw [Bool.or_eq_true, decide_eq_true_eq] at c1
        rcases c1 with c | c
        · rw [c]; simp
        · rw [c]; rfl
      unfold rwd
      rw [hh, cond, ep, k11]
      show shf (cz inW p + 1) (rty F 11 (p.drop (cz inW p + 1))) = _
      rw [show rty F 11 (p.drop (cz inW p + 1)) = rtm F (p.drop (cz inW p + 1)) from if_pos rfl]
      refine rtm_ok _ _ (by rw [List.length_drop]; omega) ?_
      rw [hd]
      exact tmQ_tam _ he (by omega)
    | false =>
      rw [Bool.or_eq_false_iff] at c1
      obtain ⟨c1, c2⟩ := c1
      have n11 := decide_eq_false_iff_not.1 c1
      have cf : (decide (kf (p.take (cz inW p)) = 11) || (p.take (cz inW p) == [84])) = false := by rw [c1, c2]; rfl
      cases c3 : decide (kf (p.take (cz inW p)) = 0) with
      | true =>
        unfold rwd wdR
        rw [hh, cf, c2, c3]
        rfl
      | false =>
        have eq : wdR q = tyQ (q.drop (cz inW p + 1)) (cz inW p + 1) (kf (p.take (cz inW p))) := by
          have := wdR_typed (l := q) (by rw [hk, ht, hh2, cf]; rfl) (by rw [hk, ht, hh2, c3]; rfl)
          rw [hk, ht] at this
          exact this
        rw [eq] at he hz
        have ep : wdR p = tyQ (p.drop (cz inW p + 1)) (cz inW p + 1) (kf (p.take (cz inW p))) := wdR_typed (by rw [hh, cf]; rfl) (by rw [hh, c3]; rfl)
        unfold rwd kT
        rw [hh, c2, c3, ep]
        show shf (cz inW p + 1) (rty F (kf (p.take (cz inW p))) (p.drop (cz inW p + 1))) = _
        rw [hd]
        exact rty_ok _ (kf_le _) n11 (by rw [hz]; exact hl2)
/-- Of what a token of the program's begins with the reference tells what the program tells. -/
theorem rnx_ok {F : Nat} {d : UInt8} {l : List UInt8} (n : Nat) (he : (nx (d :: l)).e = 0) (hz : (nx (d :: l)).z = (d :: l).length) (hF : (d :: l).length < F) (h10 : ¬ d.toNat = 10) : rnx F ((d :: l).take n) = okR (nx ((d :: l).take n)) := by
  cases n with
  | zero => rfl
  | succ n =>
    have q := fun he hz => rwd_ok (F := F) (q := d :: l) (n + 1) he hz hF
    rw [nx_cons] at he hz
    rw [List.take_succ_cons] at q ⊢
    rw [rnx_cons, nx_cons]
    cases q1 : isL d with
    | true =>
      rw [q1, if_pos rfl] at he hz
      rw [if_pos rfl, if_pos rfl]
      exact q he hz
    | false =>
      rw [if_neg Bool.false_ne_true, if_neg Bool.false_ne_true]
      split
      · exact run_ok _
      · split
        · rfl
        · rw [decide_eq_false h10, if_neg Bool.false_ne_true]
end Go.Proofs.YtnponognncdkcaaDoor
