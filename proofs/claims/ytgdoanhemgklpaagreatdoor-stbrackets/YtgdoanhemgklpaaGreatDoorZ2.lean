/- What stands behind a token says nothing of it; numbers read back (stage 13, the like of stage 12's). -/
import Derived.Test.YtgdoanhemgklpaaGreatDoorJ5
import Derived.Test.YtgdoanhemgklpaaGreatDoorD1
namespace Go.Proofs.YtgdoanhemgklpaaGreatDoor
open Go.RowKit
open Adr Lx
def unC (c d : UInt8) : Nat := if c = 100 then 0 else if c = 104 then 1 else if c = 109 then (if d = 115 then 4 else 2) else if c = 115 then 3 else 5
theorem un_cons (c d : UInt8) (l : List UInt8) : un (c :: d :: l) = unC c d := by
  unfold unC
  split
  · rename_i h; subst h; rfl
  · split
    · rename_i h; subst h; rfl
    · split
      · rename_i h; subst h
        split
        · rename_i h; subst h; rfl
        · unfold un; split <;> simp_all
      · split
        · rename_i h; subst h; rfl
        · unfold un; split <;> simp_all
theorem un_one (c : UInt8) : un [c] = unC c 0 := by
  unfold unC
  split
  · rename_i h; subst h; rfl
  · split
    · rename_i h; subst h; rfl
    · split
      · rename_i h; subst h; rfl
      · split
        · rename_i h; subst h; rfl
        · unfold un; split <;> simp_all
theorem rdl_cons (b : Nat) (c : UInt8) (l : List UInt8) (n z i : Nat) : rdl b (c :: l) n z i = if decide (c.toNat = 95) && (decide (0 < i) && decide (i = z)) then rdl b l n z (i + 1) else if okd b c then rdl b l (min (n * b + (dv c).toNat) 8589934592) (i + 1) (i + 1) else (n, z) := rfl
theorem rdl_app (b : Nat) (c : UInt8) (m : List UInt8) (h1 : okd b c = false) (h2 : ¬ c.toNat = 95) : ∀ (l : List UInt8) (n z i : Nat), rdl b (l ++ c :: m) n z i = rdl b l n z i
  | [], n, z, i => by rw [List.nil_append, rdl_cons, decide_eq_false h2, h1]; rfl
  | d :: l, n, z, i => by rw [List.cons_append, rdl_cons, rdl_cons, rdl_app b c m h1 h2 l, rdl_app b c m h1 h2 l]
theorem rd_app {b : Nat} {c : UInt8} {m l : List UInt8} (h1 : okd b c = false) (h2 : ¬ c.toNat = 95) : rd b (l ++ c :: m) = rd b l := rdl_app b c m h1 h2 l 0 0 0
theorem cz_cons (p : UInt8 → Bool) (c : UInt8) (l : List UInt8) : cz p (c :: l) = if p c then cz p l + 1 else 0 := by
  unfold cz
  rw [List.takeWhile_cons]
  split <;> simp
theorem cz_app {p : UInt8 → Bool} {c : UInt8} (m : List UInt8) (h : p c = false) : ∀ (l : List UInt8), cz p (l ++ c :: m) = cz p l
  | [] => by rw [List.nil_append, cz_cons, h]; rfl
  | d :: l => by rw [List.cons_append, cz_cons, cz_cons, cz_app m h l]
theorem hp_iff {l p : List UInt8} : hp l p = true ↔ p <+: l := by
  unfold hp Lib.hasPrefix
  exact List.isPrefixOf_iff_prefix
theorem hp_app {c : UInt8} (m : List UInt8) : ∀ (p l : List UInt8), c ∉ p → hp (l ++ c :: m) p = hp l p
  | [], l, _ => by simp [hp, Lib.hasPrefix]
  | a :: p, [], h => by
    have : (a == c) = false := by rw [beq_eq_false_iff_ne]; exact fun e => h (by rw [e]; exact List.mem_cons_self)
    simp [hp, Lib.hasPrefix, List.isPrefixOf, this]
  | a :: p, d :: l, h => by
    have ih := hp_app m p l (fun q => h (List.mem_cons_of_mem _ q))
    unfold hp Lib.hasPrefix at *
    rw [List.cons_append, List.isPrefixOf, List.isPrefixOf, ih]
theorem un_app {c : UInt8} (m : List UInt8) (h0 : ∀ d, unC c d = 5) (h1 : ¬ c = 115) : ∀ (l : List UInt8), un (l ++ c :: m) = un l
  | [] => by
    cases m with
    | nil => rw [List.nil_append, un_one, h0]; rfl
    | cons d m => rw [List.nil_append, un_cons, h0]; rfl
  | [a] => by
    rw [show [a] ++ c :: m = a :: c :: m from rfl, un_cons, un_one]
    unfold unC
    rw [if_neg h1, if_neg (show ¬ (0 : UInt8) = 115 by decide)]
  | a :: b :: l => by rw [List.cons_append, List.cons_append, un_cons, un_cons]
def Stp (c : UInt8) : Prop := c = 32 ∨ c = 10 ∨ c = 9 ∨ c = 40 ∨ c = 13 ∨ c = 41 ∨ c = 44 ∨ c = 91 ∨ c = 93
theorem Stp.okd {c : UInt8} (h : Stp c) (b : Nat) : okd b c = false := by
  have e : dv c = -1 := by rcases h with rfl | rfl | rfl | rfl | rfl | rfl | rfl | rfl | rfl <;> decide
  unfold Lx.okd
  rw [e]
  rfl
theorem Stp.low {c : UInt8} (h : Stp c) : ¬ c.toNat = 95 := by rcases h with rfl | rfl | rfl | rfl | rfl | rfl | rfl | rfl | rfl <;> decide
theorem Stp.inW {c : UInt8} (h : Stp c) : Lx.inW c = false := by rcases h with rfl | rfl | rfl | rfl | rfl | rfl | rfl | rfl | rfl <;> decide
theorem Stp.inA {c : UInt8} (h : Stp c) : Lx.inA c = false := by rcases h with rfl | rfl | rfl | rfl | rfl | rfl | rfl | rfl | rfl <;> decide
theorem Stp.un {c : UInt8} (h : Stp c) : (∀ d, unC c d = 5) ∧ ¬ c = 115 := by
  rcases h with rfl | rfl | rfl | rfl | rfl | rfl | rfl | rfl | rfl <;> exact ⟨fun d => rfl, by decide⟩
theorem Stp.rd {c : UInt8} (h : Stp c) (b : Nat) (l m : List UInt8) : Lx.rd b (l ++ c :: m) = Lx.rd b l := rd_app (h.okd b) h.low
theorem Stp.hp {c : UInt8} (h : Stp c) (l m p : List UInt8) (hp : ∀ d, Stp d → d ∉ p) : Lx.hp (l ++ c :: m) p = Lx.hp l p := hp_app m p l (hp c h)
theorem stp_bn (k : Nat) : ∀ d, Stp d → d ∉ (bn k).data.toList := by
  intro d hd
  unfold bn
  split <;> (rcases hd with rfl | rfl | rfl | rfl | rfl | rfl | rfl | rfl | rfl <;> decide)
theorem stp_mem {p : List UInt8} (h : (p.contains 32 || p.contains 10 || p.contains 9 || p.contains 40 || p.contains 13 || p.contains 41 || p.contains 44 || p.contains 91 || p.contains 93) = false) : ∀ d, Stp d → d ∉ p := by
  intro d hd
  simp at h
  rcases hd with rfl | rfl | rfl | rfl | rfl | rfl | rfl | rfl | rfl <;> simp_all
theorem byB_app {c : UInt8} (h : Stp c) (k : Nat) (l m : List UInt8) (hl : (bn k).data.toList.length ≤ l.length) : byB k (l ++ c :: m) = byB k l := by
  unfold byB
  rw [List.drop_append_of_le_length hl, h.rd]
theorem num_app {c : UInt8} (h : Stp c) (l m : List UInt8) : num (l ++ c :: m) = num l := by
  unfold num
  rw [h.hp l m _ (stp_bn 0), h.hp l m _ (stp_bn 1), h.hp l m _ (stp_bn 2), h.rd]
  split
  · rename_i q; exact byB_app h 0 l m (hp_le q)
  · split
    · rename_i q; exact byB_app h 1 l m (hp_le q)
    · split
      · rename_i q; exact byB_app h 2 l m (hp_le q)
      · rfl
theorem span_app {c : UInt8} (h : Stp c) (l m : List UInt8) : span (l ++ c :: m) = span l := by
  have key : ∀ k, k ≤ 5 → spanK (l ++ c :: m) k = spanK l k := by
    intro k
    induction k with
    | zero => intro _; rfl
    | succ k ih =>
      intro hk
      have hl := (spanK_most l k (by omega)).1
      show prt (l ++ c :: m) k (spanK (l ++ c :: m) k) = prt l k (spanK l k)
      rw [ih (by omega)]
      unfold prt
      rw [List.drop_append_of_le_length hl, h.rd]
      have h2 : (rd 10 (l.drop (spanK l k).2)).2 ≤ (l.drop (spanK l k).2).length := (rd_le _ _).1
      rw [List.length_drop] at h2
      rw [List.drop_append_of_le_length (by omega), un_app m h.un.1 h.un.2]
  exact key 5 (Nat.le_refl _)
def tyQ (y : List UInt8) (a k : Nat) : R :=
  if decide (k = 1) && hp y [84, 82, 85, 69] then ⟨tru 1, a + 4, 0⟩
  else if decide (k = 1) && hp y [70, 65, 76, 83, 69] then ⟨tru 0, a + 5, 0⟩
  else if hp y [45] && decide (klo k < 0) then ltR 3 k (-((rd 10 (y.drop 1)).1 : Int)) (a + 1) (rd 10 (y.drop 1)).2
  else ltR 3 k (num y).1 a (num y).2
def tmQ (y : List UInt8) (a : Nat) : R :=
  if hp y [45] then ltR 4 11 (-((span (y.drop 1)).1 : Int)) (a + 1) (span (y.drop 1)).2
  else ltR 4 11 (span y).1 a (span y).2
theorem tyR_Q (l : List UInt8) (a k : Nat) : tyR l a k = tyQ (l.drop a) a k := rfl
theorem tmR_Q (l : List UInt8) (a : Nat) : tmR l a = tmQ (l.drop a) a := rfl
theorem tmQ_app {c : UInt8} (h : Stp c) (y m : List UInt8) (a : Nat) : tmQ (y ++ c :: m) a = tmQ y a := by
  unfold tmQ
  rw [h.hp y m [45] (stp_mem (by decide))]
  split
  · rename_i q; rw [List.drop_append_of_le_length (show 1 ≤ y.length from hp_le q), span_app h]
  · rw [span_app h]
theorem tyQ_app {c : UInt8} (h : Stp c) (y m : List UInt8) (a k : Nat) : tyQ (y ++ c :: m) a k = tyQ y a k := by
  unfold tyQ
  rw [h.hp y m [84, 82, 85, 69] (stp_mem (by decide)), h.hp y m [70, 65, 76, 83, 69] (stp_mem (by decide)), h.hp y m [45] (stp_mem (by decide)), num_app h]
  split
  · rfl
  · split
    · rfl
    · split
      · rename_i q
        rw [Bool.and_eq_true] at q
        rw [List.drop_append_of_le_length (show 1 ≤ y.length from hp_le q.1), h.rd]
      · rfl
theorem hp_room {l : List UInt8} {k : Nat} (h : hp (l.drop k) [35] = true) : k + 1 ≤ l.length := by
  have h1 := hp_le h
  rw [List.length_drop] at h1
  have h2 : 1 ≤ l.length - k := h1
  omega
theorem wdR_app {c : UInt8} (h : Stp c) (l m : List UInt8) : wdR (l ++ c :: m) = wdR l := by
  have hz := cz_le inW l
  have ez : cz inW (l ++ c :: m) = cz inW l := cz_app m h.inW l
  have et : (l ++ c :: m).take (cz inW l) = l.take (cz inW l) := List.take_append_of_le_length hz
  have ed : (l ++ c :: m).drop (cz inW l) = l.drop (cz inW l) ++ c :: m := List.drop_append_of_le_length hz
  unfold wdR
  rw [ez, et, ed, h.hp _ m [35] (stp_mem (by decide))]
  simp only [tmR_Q, tyR_Q]
  cases hh : hp (l.drop (cz inW l)) [35] with
  | false => simp only [Bool.false_and, Bool.false_eq_true, if_false]
  | true => rw [List.drop_append_of_le_length (hp_room hh), tmQ_app h, tyQ_app h]
theorem unR_app {c : UInt8} (h : Stp c) (l m : List UInt8) : unR (l ++ c :: m) = unR l := by
  unfold unR
  rw [num_app h]
theorem adR_app {c : UInt8} (h : Stp c) (d : UInt8) (l m : List UInt8) : adR (d :: l ++ c :: m) = adR (d :: l) := by
  have e : adz (d :: l ++ c :: m) = adz (d :: l) := by
    unfold adz
    rw [List.cons_append, List.drop_succ_cons, List.drop_zero, List.drop_succ_cons, List.drop_zero, cz_app m h.inA]
  have hz : adz (d :: l) ≤ (d :: l).length := (adz_le (l := d :: l) (by simp)).1
  unfold adR
  rw [e, List.take_append_of_le_length hz]
theorem two_stop {c x : UInt8} (h : Stp c) : two.contains [x, c] = false := by
  have : ¬ [x, c] ∈ two := by rcases h with rfl | rfl | rfl | rfl | rfl | rfl | rfl | rfl | rfl <;> simp [two]
  simpa using this
theorem sgR_app {c : UInt8} (h : Stp c) (d : UInt8) (l m : List UInt8) : sgR (d :: l ++ c :: m) = sgR (d :: l) := by
  have e : sgz (d :: l ++ c :: m) = sgz (d :: l) := by
    unfold sgz
    cases l with
    | nil =>
      rw [show ([d] ++ c :: m).take 2 = [d, c] from rfl, two_stop h, Bool.and_false, if_neg Bool.false_ne_true, if_neg (show ¬ (decide (1 < [d].length) && two.contains ([d].take 2)) = true by simp)]
      rfl
    | cons x l =>
      rw [show (d :: x :: l ++ c :: m).take 2 = [d, x] from rfl, show (d :: x :: l).take 2 = [d, x] from rfl, decide_eq_true (show 1 < (d :: x :: l ++ c :: m).length by simp), decide_eq_true (show 1 < (d :: x :: l).length by simp)]
      rfl
  have hz : sgz (d :: l) ≤ (d :: l).length := (sgz_le (l := d :: l) (by simp)).1
  unfold sgR
  rw [e, List.take_append_of_le_length hz]
theorem nx_app {c : UInt8} (h : Stp c) (d : UInt8) (l m : List UInt8) : nx (d :: l ++ c :: m) = nx (d :: l) := by
  rw [show nx (d :: l ++ c :: m) = nx (d :: (l ++ c :: m)) from rfl, nx_cons, nx_cons, ← List.cons_append, wdR_app h, unR_app h, adR_app h, sgR_app h]
theorem ltR_z {tok k : Nat} {n : Int} {a z : Nat} (h : (ltR tok k n a z).e = 0) : (ltR tok k n a z).z = a + z ∧ 1 ≤ z ∧ klo k ≤ n ∧ n ≤ khi k ∧ (ltR tok k n a z).t = ⟨tok, k, n, []⟩ := by
  unfold ltR at *
  by_cases h0 : z = 0
  · rw [if_pos h0] at h; cases h
  · rw [if_neg h0] at h ⊢
    split at h
    · cases h
    · rename_i h1
      rw [if_neg h1]
      rw [Bool.or_eq_true, decide_eq_true_eq, decide_eq_true_eq] at h1
      exact ⟨rfl, by omega, by omega, by omega, rfl⟩
def vf (b : Nat) (n : Nat) (l : List UInt8) : Nat := l.foldl (fun n c => min (n * b + (dv c).toNat) 8589934592) n
theorem okd_95 {b : Nat} {c : UInt8} (h : okd b c = true) : ¬ c.toNat = 95 := by
  intro e
  have : c = 95 := UInt8.toNat_inj.1 e
  subst this
  unfold okd at h
  rw [show dv 95 = -1 by decide] at h
  simp at h
theorem rdl_digits {b : Nat} : ∀ (ds r : List UInt8) (n i : Nat), (∀ c ∈ ds, okd b c = true) → rdl b (ds ++ r) n i i = rdl b r (vf b n ds) (i + ds.length) (i + ds.length)
  | [], r, n, i, _ => rfl
  | c :: ds, r, n, i, h => by
    have hc := h c (by simp)
    rw [List.cons_append, rdl, decide_eq_false (okd_95 hc), Bool.false_and, if_neg Bool.false_ne_true, if_pos hc, rdl_digits ds r _ (i + 1) (fun d hd => h d (by simp [hd]))]
    show _ = rdl b r (vf b (min (n * b + (dv c).toNat) 8589934592) ds) _ _
    rw [List.length_cons, show i + 1 + ds.length = i + (ds.length + 1) by omega]
def Stop (b : Nat) (r : List UInt8) : Prop := ∀ c ∈ r.head?, okd b c = false ∧ ¬ c.toNat = 95
theorem rdl_stops {b : Nat} {r : List UInt8} (h : Stop b r) (n i : Nat) : rdl b r n i i = (n, i) := by
  cases r with
  | nil => rfl
  | cons c r =>
    obtain ⟨h1, h2⟩ := h c (by simp)
    rw [rdl, decide_eq_false h2, Bool.false_and, if_neg Bool.false_ne_true, h1, if_neg Bool.false_ne_true]
theorem sg_fin : ∀ d : Fin 16, dv (sg d) = (d : Nat) ∧ dgt (sg d) = decide ((d : Nat) < 10) ∧ (10 ≤ (d : Nat) → isL (sg d) = true) := by decide +kernel
theorem sg_dv {d : Nat} (h : d < 16) : dv (sg d) = d := (sg_fin ⟨d, h⟩).1
theorem sg_dgt {d : Nat} (h : d < 10) : dgt (sg d) = true := by
  have := (sg_fin ⟨d, by omega⟩).2.1
  rw [this]
  exact decide_eq_true h
theorem sg_okd {b d : Nat} (h : d < b) (hb : b ≤ 16) : okd b (sg d) = true := by
  unfold okd
  rw [sg_dv (by omega), decide_eq_true (by omega), decide_eq_true (by omega)]
  rfl
theorem dgs_okd {b : Nat} (hb : 2 ≤ b) (hb2 : b ≤ 16) (n : Nat) : ∀ c ∈ dgs b n, okd b c = true := by
  induction n using Nat.strongRecOn with
  | _ n ih =>
    by_cases h : n < b
    · rw [dgs_lo h]
      intro c hc
      obtain rfl := List.mem_singleton.1 hc
      exact sg_okd h hb2
    · rw [dgs_hi h hb]
      intro c hc
      rcases List.mem_append.1 hc with hc | hc
      · exact ih (n / b) (Nat.div_lt_self (by omega) (by omega)) c hc
      · obtain rfl := List.mem_singleton.1 hc
        exact sg_okd (Nat.mod_lt _ (by omega)) hb2
theorem dgs_vf {b : Nat} (hb : 2 ≤ b) (hb2 : b ≤ 16) (n : Nat) : n ≤ 8589934592 → vf b 0 (dgs b n) = n := by
  induction n using Nat.strongRecOn with
  | _ n ih =>
    intro hn
    by_cases h : n < b
    · rw [dgs_lo h]
      show min (0 * b + (dv (sg n)).toNat) 8589934592 = n
      rw [sg_dv (by omega)]
      simp
      omega
    · have hd := Nat.div_lt_self (n := n) (k := b) (by omega) (by omega)
      rw [dgs_hi h hb]
      unfold vf
      rw [List.foldl_append]
      show min (vf b 0 (dgs b (n / b)) * b + (dv (sg (n % b))).toNat) 8589934592 = n
      have hm : n % b < 16 := Nat.lt_of_lt_of_le (Nat.mod_lt _ (by omega)) hb2
      rw [ih (n / b) hd (by omega), sg_dv hm, Int.toNat_natCast, Nat.mul_comm, Nat.div_add_mod]
      exact Nat.min_eq_left hn
theorem dgs_rd {b : Nat} (hb : 2 ≤ b) (hb2 : b ≤ 16) {n : Nat} (hn : n ≤ 8589934592) {r : List UInt8} (hr : Stop b r) : rd b (dgs b n ++ r) = (n, (dgs b n).length) := by
  unfold rd
  rw [rdl_digits _ _ _ _ (dgs_okd hb hb2 n), dgs_vf hb hb2 n hn, rdl_stops hr]
  simp
theorem dgs_dgt (n : Nat) : ∀ c ∈ dgs 10 n, dgt c = true := by
  induction n using Nat.strongRecOn with
  | _ n ih =>
    by_cases h : n < 10
    · rw [dgs_lo h]
      intro c hc
      obtain rfl := List.mem_singleton.1 hc
      exact sg_dgt h
    · rw [dgs_hi h (by omega)]
      intro c hc
      rcases List.mem_append.1 hc with hc | hc
      · exact ih (n / 10) (Nat.div_lt_self (by omega) (by omega)) c hc
      · obtain rfl := List.mem_singleton.1 hc
        exact sg_dgt (Nat.mod_lt _ (by omega))
theorem hp_cons {l p : List UInt8} {a b : UInt8} : hp (a :: l) (b :: p) = ((b == a) && hp l p) := rfl
theorem hp_all (l : List UInt8) : hp l [] = true := by cases l <;> rfl
theorem hp_none (b : UInt8) (p : List UInt8) : hp [] (b :: p) = false := rfl
theorem dgs_plain (n : Nat) (r : List UInt8) (hr : ∀ c ∈ r.head?, ¬ c = 35 ∧ dgt c = false) : hp (dgs 10 n ++ r) [50, 35] = false ∧ hp (dgs 10 n ++ r) [56, 35] = false ∧ hp (dgs 10 n ++ r) [49, 54, 35] = false ∧ hp (dgs 10 n ++ r) [45] = false := by
  have hd := dgs_dgt n
  have hne : dgs 10 n ≠ [] := by
    by_cases h : n < 10
    · rw [dgs_lo h]; simp
    · rw [dgs_hi h (by omega)]; simp
  have key : ∀ (ds : List UInt8), (∀ c ∈ ds, dgt c = true) → ds ≠ [] → hp (ds ++ r) [50, 35] = false ∧ hp (ds ++ r) [56, 35] = false ∧ hp (ds ++ r) [49, 54, 35] = false ∧ hp (ds ++ r) [45] = false := by
    have n35 : ∀ c : UInt8, dgt c = true → ¬ 35 = c := fun c h e => by subst e; revert h; decide
    have n45 : ∀ c : UInt8, dgt c = true → ¬ 45 = c := fun c h e => by subst e; revert h; decide
    intro ds h hne
    match ds, h, hne with
    | [], _, hne => exact absurd rfl hne
    | [a], h, _ =>
      have ha := n45 a (h a (by simp))
      cases r with
      | nil => simp [hp_cons, hp_all, hp_none, ha]
      | cons c r =>
        have hc : ¬ 35 = c := fun e => (hr c (by simp)).1 e.symm
        cases r with
        | nil => simp [hp_cons, hp_all, hp_none, ha, hc]
        | cons d r =>
          refine ⟨by simp [hp_cons, hp_all, hc], by simp [hp_cons, hp_all, hc], ?_, by simp [hp_cons, hp_all, ha]⟩
          have hc6 : ¬ 54 = c := fun e => by have := (hr c (by simp)).2; rw [← e] at this; revert this; decide
          simp [hp_cons, hc6]
    | [a, b], h, _ =>
      have ha := n45 a (h a (by simp))
      have hb := n35 b (h b (by simp))
      cases r with
      | nil => simp [hp_cons, hp_all, hp_none, ha, hb]
      | cons c r =>
        have hc : ¬ 35 = c := fun e => (hr c (by simp)).1 e.symm
        simp [hp_cons, hp_all, ha, hb, hc]
    | a :: b :: c :: ds, h, _ =>
      have ha := n45 a (h a (by simp))
      have hb := n35 b (h b (by simp))
      have hc := n35 c (h c (by simp))
      simp [hp_cons, hp_all, ha, hb, hc]
  exact key _ hd hne
def nmK (k : Nat) : List UInt8 := (kn k).data.toList
theorem nmK_is (k : Nat) (h2 : 2 ≤ k) (h10 : k ≤ 10) (r : List UInt8) : cz inW (nmK k ++ 35 :: r) = (nmK k).length ∧ (nmK k ++ 35 :: r).take (nmK k).length = nmK k ∧ (nmK k ++ 35 :: r).drop (nmK k).length = 35 :: r ∧ kf (nmK k) = k ∧ (nmK k == [84]) = false ∧ (nmK k ++ 35 :: r).drop ((nmK k).length + 1) = r ∧ (nmK k).length ≤ 5 ∧ ∃ c l, nmK k ++ 35 :: r = c :: l ∧ isL c = true ∧ (∀ il, blk c il = false) ∧ hp (c :: l) [40, 42] = false := by
  have hc : k = 2 ∨ k = 3 ∨ k = 4 ∨ k = 5 ∨ k = 6 ∨ k = 7 ∨ k = 8 ∨ k = 9 ∨ k = 10 := by omega
  rcases hc with rfl | rfl | rfl | rfl | rfl | rfl | rfl | rfl | rfl
  all_goals exact ⟨rfl, rfl, rfl, rfl, rfl, rfl, by decide, _, _, rfl, rfl, fun il => by cases il <;> rfl, rfl⟩
theorem nx_typed {k : Nat} (h2 : 2 ≤ k) (h10 : k ≤ 10) (r : List UInt8) : nx (nmK k ++ 35 :: r) = tyR (nmK k ++ 35 :: r) ((nmK k).length + 1) k := by
  obtain ⟨a1, a2, a3, a4, a5, a6, a7, c, l, e, h1, hb, hc⟩ := nmK_is k h2 h10 r
  have hw : wdR (nmK k ++ 35 :: r) = tyR (nmK k ++ 35 :: r) ((nmK k).length + 1) k := by
    unfold wdR
    rw [a1, a2, a3, a4, a5, show hp (35 :: r) [35] = true by rw [hp_cons, hp_all]; rfl, decide_eq_false (by omega), decide_eq_false (by omega)]
    rfl
  rw [← hw, e, nx_cons, if_pos h1]
theorem stop_nil (b : Nat) : Stop b [] := fun c hc => by cases hc
theorem nil_head : ∀ c ∈ ([] : List UInt8).head?, ¬ c = 35 ∧ dgt c = false := fun c hc => by cases hc
theorem num_dgs {u : Nat} (hu : u ≤ 8589934592) : num (dgs 10 u) = (u, (dgs 10 u).length) := by
  obtain ⟨p1, p2, p3, p4⟩ := dgs_plain u [] nil_head
  have e := dgs_rd (b := 10) (by omega) (by omega) hu (stop_nil 10)
  rw [List.append_nil] at p1 p2 p3 p4 e
  unfold num
  rw [show (bn 0).data.toList = [50, 35] from rfl, show (bn 1).data.toList = [56, 35] from rfl, show (bn 2).data.toList = [49, 54, 35] from rfl, p1, p2, p3]
  exact e
theorem typed_pos {k u : Nat} (h2 : 2 ≤ k) (h10 : k ≤ 10) (hu : u ≤ 8589934592) : nx (nmK k ++ 35 :: dgs 10 u) = ltR 3 k u ((nmK k).length + 1) (dgs 10 u).length := by
  rw [nx_typed h2 h10]
  obtain ⟨a1, a2, a3, a4, a5, a6, a7, _⟩ := nmK_is k h2 h10 (dgs 10 u)
  obtain ⟨p1, p2, p3, p4⟩ := dgs_plain u [] nil_head
  rw [List.append_nil] at p4
  unfold tyR
  rw [a6, decide_eq_false (by omega), p4, num_dgs hu]
  rfl
theorem typed_neg {k u : Nat} (h2 : 2 ≤ k) (h10 : k ≤ 10) (hu : u ≤ 8589934592) (hlo : klo k < 0) : nx (nmK k ++ 35 :: 45 :: dgs 10 u) = ltR 3 k (-(u : Int)) ((nmK k).length + 2) (dgs 10 u).length := by
  rw [nx_typed h2 h10]
  obtain ⟨a1, a2, a3, a4, a5, a6, a7, _⟩ := nmK_is k h2 h10 (45 :: dgs 10 u)
  have e := dgs_rd (b := 10) (by omega) (by omega) hu (stop_nil 10)
  rw [List.append_nil] at e
  unfold tyR
  rw [a6, decide_eq_false (by omega), show hp (45 :: dgs 10 u) [45] = true by rw [hp_cons, hp_all]; rfl, decide_eq_true hlo]
  simp only [Bool.false_and, Bool.false_eq_true, if_false, Bool.and_true, if_true, List.drop_succ_cons, List.drop_zero]
  rw [e]
theorem ltR_yes {tok k : Nat} {n : Int} {a z : Nat} (hz : 1 ≤ z) (h1 : klo k ≤ n) (h2 : n ≤ khi k) : ltR tok k n a z = ⟨⟨tok, k, n, []⟩, a + z, 0⟩ := by
  unfold ltR
  rw [if_neg (by omega), decide_eq_false (by omega), decide_eq_false (by omega)]
  rfl
end Go.Proofs.YtgdoanhemgklpaaGreatDoor
