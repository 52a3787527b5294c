/- Texts of one token; numbers read back (stage 12). -/
import Derived.Test.YtnponognncdkcaaDoorD1
import Derived.Test.YtnponognncdkcaaDoorWE
namespace Go.Proofs.YtnponognncdkcaaDoor
open Go.RowKit
open Adr Lx
theorem toks_one {l : List UInt8} {il : Bool} {c : UInt8} {r : List UInt8} (hl : l = c :: r) (h : l.length ≤ 65536) (hb : blk c il = false) (hc : hp l [40, 42] = false) (he : (nx l).e = 0) (hz : (nx l).z = l.length) : toks l il = ([((nx l).t, 0), (nul, l.length)], none) := by
  unfold toks
  rw [if_neg (by omega)]
  have e : scn il l.length l 0 [] = ([((nx l).t, 0)], none) := by
    subst hl
    rw [show (c :: r).length = r.length + 1 from rfl, scn_cons, if_neg (by rw [hb]; exact Bool.false_ne_true), if_neg (by rw [hc]; exact Bool.false_ne_true), if_pos he, hz, List.drop_eq_nil_of_le (Nat.le_refl _), scn_end]
    rfl
  rw [e]
  rfl
theorem toks_err {l : List UInt8} {il : Bool} {c : UInt8} {r : List UInt8} (hl : l = c :: r) (h : l.length ≤ 65536) (hb : blk c il = false) (hc : hp l [40, 42] = false) (he : ¬ (nx l).e = 0) : (toks l il).2 = some (0, (nx l).e) := by
  unfold toks
  rw [if_neg (by omega)]
  subst hl
  show (scn il (r.length + 1) (c :: r) 0 []).2 = _
  rw [scn_cons, if_neg (by rw [hb]; exact Bool.false_ne_true), if_neg (by rw [hc]; exact Bool.false_ne_true), if_neg he]
/-- What digits write, from a number on. -/
def vf (b : Nat) (n : Nat) (l : List UInt8) : Nat := l.foldl (fun n c => min (n * b + (dv c).toNat) 8589934592) n
theorem okd_95 {b : Nat} {c : UInt8} (h : okd b c = true) : ¬ c.toNat = 95 := by
  intro e
  have : c = 95 := UInt8.toNat_inj.1 e
  subst this
  unfold okd at h
  rw [show dv 95 = -1 by decide] at h
  simp at h
theorem rdl_digits {b : Nat} : ∀ (ds r : List UInt8) (n i : Nat), (∀ c ∈ ds, okd b c = true) → rdl b (ds ++ r) n i i = rdl b r (vf b n ds) (i + ds.length) (i + ds.length)
  | [], r, n, i, _ => rfl
  | c :: ds, r, n, i, h => by
    have hc := h c (by simp)
    rw [List.cons_append, rdl, decide_eq_false (okd_95 hc), Bool.false_and, if_neg Bool.false_ne_true, if_pos hc, rdl_digits ds r _ (i + 1) (fun d hd => h d (by simp [hd]))]
    show _ = rdl b r (vf b (min (n * b + (dv c).toNat) 8589934592) ds) _ _
    rw [List.length_cons, show i + 1 + ds.length = i + (ds.length + 1) by omega]
/-- Neither a digit nor a low line stands ahead. -/
def Stop (b : Nat) (r : List UInt8) : Prop := ∀ c ∈ r.head?, okd b c = false ∧ ¬ c.toNat = 95
theorem rdl_stops {b : Nat} {r : List UInt8} (h : Stop b r) (n i : Nat) : rdl b r n i i = (n, i) := by
  cases r with
  | nil => rfl
  | cons c r =>
    obtain ⟨h1, h2⟩ := h c (by simp)
    rw [rdl, decide_eq_false h2, Bool.false_and, if_neg Bool.false_ne_true, h1, if_neg Bool.false_ne_true]
theorem sg_fin : ∀ d : Fin 16, dv (sg d) = (d : Nat) ∧ dgt (sg d) = decide ((d : Nat) < 10) ∧ (10 ≤ (d : Nat) → isL (sg d) = true) := by decide +kernel
theorem sg_dv {d : Nat} (h : d < 16) : dv (sg d) = d := (sg_fin ⟨d, h⟩).1
theorem sg_dgt {d : Nat} (h : d < 10) : dgt (sg d) = true := by
  have := (sg_fin ⟨d, by omega⟩).2.1
  rw [this]
  exact decide_eq_true h
theorem sg_okd {b d : Nat} (h : d < b) (hb : b ≤ 16) : okd b (sg d) = true := by
  unfold okd
  rw [sg_dv (by omega), decide_eq_true (by omega), decide_eq_true (by omega)]
  rfl
theorem dgs_okd {b : Nat} (hb : 2 ≤ b) (hb2 : b ≤ 16) (n : Nat) : ∀ c ∈ dgs b n, okd b c = true := by
  induction n using Nat.strongRecOn with
  | _ n ih =>
    by_cases h : n < b
    · rw [dgs_lo h]
      intro c hc
      obtain rfl := List.mem_singleton.1 hc
      exact sg_okd h hb2
    · rw [dgs_hi h hb]
      intro c hc
      rcases List.mem_append.1 hc with hc | hc
      · exact ih (n / b) (Nat.div_lt_self (by omega) (by omega)) c hc
      · obtain rfl := List.mem_singleton.1 hc
        exact sg_okd (Nat.mod_lt _ (by omega)) hb2
theorem dgs_vf {b : Nat} (hb : 2 ≤ b) (hb2 : b ≤ 16) (n : Nat) : n ≤ 8589934592 → vf b 0 (dgs b n) = n := by
  induction n using Nat.strongRecOn with
  | _ n ih =>
    intro hn
    by_cases h : n < b
    · rw [dgs_lo h]
      show min (0 * b + (dv (sg n)).toNat) 8589934592 = n
      rw [sg_dv (by omega)]
      simp
      omega
    · have hd := Nat.div_lt_self (n := n) (k := b) (by omega) (by omega)
      rw [dgs_hi h hb]
      unfold vf
      rw [List.foldl_append]
      show min (vf b 0 (dgs b (n / b)) * b + (dv (sg (n % b))).toNat) 8589934592 = n
      have hm : n % b < 16 := Nat.lt_of_lt_of_le (Nat.mod_lt _ (by omega)) hb2
      rw [ih (n / b) hd (by omega), sg_dv hm, Int.toNat_natCast, Nat.mul_comm, Nat.div_add_mod]
      exact Nat.min_eq_left hn
theorem dgs_rd {b : Nat} (hb : 2 ≤ b) (hb2 : b ≤ 16) {n : Nat} (hn : n ≤ 8589934592) {r : List UInt8} (hr : Stop b r) : rd b (dgs b n ++ r) = (n, (dgs b n).length) := by
  unfold rd
  rw [rdl_digits _ _ _ _ (dgs_okd hb hb2 n), dgs_vf hb hb2 n hn, rdl_stops hr]
  simp
theorem dgs_dgt (n : Nat) : ∀ c ∈ dgs 10 n, dgt c = true := by
  induction n using Nat.strongRecOn with
  | _ n ih =>
    by_cases h : n < 10
    · rw [dgs_lo h]
      intro c hc
      obtain rfl := List.mem_singleton.1 hc
      exact sg_dgt h
    · rw [dgs_hi h (by omega)]
      intro c hc
      rcases List.mem_append.1 hc with hc | hc
      · exact ih (n / 10) (Nat.div_lt_self (by omega) (by omega)) c hc
      · obtain rfl := List.mem_singleton.1 hc
        exact sg_dgt (Nat.mod_lt _ (by omega))
theorem hp_cons {l p : List UInt8} {a b : UInt8} : hp (a :: l) (b :: p) = ((b == a) && hp l p) := rfl
theorem hp_all (l : List UInt8) : hp l [] = true := by cases l <;> rfl
theorem hp_none (b : UInt8) (p : List UInt8) : hp [] (b :: p) = false := rfl
/-- Decimal digits begin with no base and no minus. -/
theorem dgs_plain (n : Nat) (r : List UInt8) (hr : ∀ c ∈ r.head?, ¬ c = 35 ∧ dgt c = false) : hp (dgs 10 n ++ r) [50, 35] = false ∧ hp (dgs 10 n ++ r) [56, 35] = false ∧ hp (dgs 10 n ++ r) [49, 54, 35] = false ∧ hp (dgs 10 n ++ r) [45] = false := by
  have hd := dgs_dgt n
  have hne : dgs 10 n ≠ [] := by
    by_cases h : n < 10
    · rw [dgs_lo h]; simp
    · rw [dgs_hi h (by omega)]; simp
  have key : ∀ (ds : List UInt8), (∀ c ∈ ds, dgt c = true) → ds ≠ [] → hp (ds ++ r) [50, 35] = false ∧ hp (ds ++ r) [56, 35] = false ∧ hp (ds ++ r) [49, 54, 35] = false ∧ hp (ds ++ r) [45] = false := by
    have n35 : ∀ c : UInt8, dgt c = true → ¬ 35 = c := fun c h e => by subst e; revert h; decide
    have n45 : ∀ c : UInt8, dgt c = true → ¬ 45 = c := fun c h e => by subst e; revert h; decide
    intro ds h hne
    match ds, h, hne with
    | [], _, hne => exact absurd rfl hne
    | [a], h, _ =>
      have ha := n45 a (h a (by simp))
      cases r with
      | nil => simp [hp_cons, hp_all, hp_none, ha]
      | cons c r =>
        have hc : ¬ 35 = c := fun e => (hr c (by simp)).1 e.symm
        cases r with
        | nil => simp [hp_cons, hp_all, hp_none, ha, hc]
        | cons d r =>
          refine ⟨by simp [hp_cons, hp_all, hc], by simp [hp_cons, hp_all, hc], ?_, by simp [hp_cons, hp_all, ha]⟩
          have hc6 : ¬ 54 = c := fun e => by have := (hr c (by simp)).2; rw [← e] at this; revert this; decide
          simp [hp_cons, hc6]
    | [a, b], h, _ =>
      have ha := n45 a (h a (by simp))
      have hb := n35 b (h b (by simp))
      cases r with
      | nil => simp [hp_cons, hp_all, hp_none, ha, hb]
      | cons c r =>
        have hc : ¬ 35 = c := fun e => (hr c (by simp)).1 e.symm
        simp [hp_cons, hp_all, ha, hb, hc]
    | a :: b :: c :: ds, h, _ =>
      have ha := n45 a (h a (by simp))
      have hb := n35 b (h b (by simp))
      have hc := n35 c (h c (by simp))
      simp [hp_cons, hp_all, ha, hb, hc]
  exact key _ hd hne
end Go.Proofs.YtnponognncdkcaaDoor
