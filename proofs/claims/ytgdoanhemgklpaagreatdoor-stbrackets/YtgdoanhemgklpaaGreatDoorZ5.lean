/- What was written is read as it was (stage 13). -/
import Derived.Test.YtgdoanhemgklpaaGreatDoorZ4
namespace Go.Proofs.YtgdoanhemgklpaaGreatDoor
open Go.RowKit
open Adr Lx Sx
theorem sc_fo {p : List UInt8} {t : Tk} {d : UInt8} {q : List UInt8} (hp : p = d :: q) (hb : blk d false = false) (h4 : ¬ d = 40) (hn : nx p = ⟨t, p.length, 0⟩) : Sc Fo p [t] := by
  subst hp
  refine sc_tok (fun r hr => ?_) ⟨d, q, rfl, hb⟩ (fun r _ => hp_4042 h4)
  rcases hr with rfl | ⟨c, m, rfl, hc⟩
  · rw [List.append_nil]; exact hn
  · rw [nx_app hc]; exact hn
theorem dgs_head (n : Nat) : ∃ c r, dgs 10 n = c :: r ∧ dgt c = true := by
  have h := dgs_dgt n
  cases e : dgs 10 n with
  | nil =>
    exfalso
    by_cases q : n < 10
    · rw [dgs_lo q] at e; cases e
    · rw [dgs_hi q (by omega)] at e
      have := congrArg List.length e
      rw [List.length_append] at this
      simp at this
  | cons c r => exact ⟨c, r, rfl, h c (by rw [e]; exact List.mem_cons_self)⟩
theorem dgt_is {c : UInt8} (h : dgt c = true) : isL c = false ∧ blk c false = false ∧ ¬ c = 40 ∧ ¬ c = 42 := by
  have h1 : 48 ≤ c.toNat ∧ c.toNat ≤ 57 := by
    unfold dgt at h
    rw [Bool.and_eq_true, decide_eq_true_eq, decide_eq_true_eq] at h
    exact h
  refine ⟨?_, ?_, ?_, ?_⟩
  · unfold isL
    rw [decide_eq_false (show ¬ 97 ≤ c.toNat by omega), decide_eq_false (show ¬ 65 ≤ c.toNat by omega), decide_eq_false (show ¬ c.toNat = 95 by omega)]
    rfl
  · unfold blk
    rw [decide_eq_false (show ¬ c.toNat = 32 by omega), decide_eq_false (show ¬ c.toNat = 9 by omega), decide_eq_false (show ¬ c.toNat = 13 by omega), decide_eq_false (show ¬ c.toNat = 10 by omega)]
    rfl
  · intro e; subst e; exact absurd h1.1 (by decide)
  · intro e; subst e; exact absurd h1.1 (by decide)
theorem isL_is {c : UInt8} (h : isL c = true) : blk c false = false ∧ ¬ c = 40 ∧ ¬ c = 42 ∧ ¬ c = 45 ∧ ¬ c = 46 := by
  have h1 : 65 ≤ c.toNat := by
    unfold isL at h
    simp only [Bool.or_eq_true, Bool.and_eq_true, decide_eq_true_eq] at h
    omega
  refine ⟨?_, ?_, ?_, ?_, ?_⟩
  · unfold blk
    rw [decide_eq_false (show ¬ c.toNat = 32 by omega), decide_eq_false (show ¬ c.toNat = 9 by omega), decide_eq_false (show ¬ c.toNat = 13 by omega), decide_eq_false (show ¬ c.toNat = 10 by omega)]
    rfl
  all_goals (intro e; subst e; exact absurd h1 (by decide))
/-- A literal's token. -/
def ltk (k : Nat) (n : Int) : Tk := ⟨if k = 11 then 4 else 3, k, n, []⟩
theorem nx_dgs {u : Nat} (h : u ≤ 4294967295) : nx (dgs 10 u) = ⟨⟨3, 0, u, []⟩, (dgs 10 u).length, 0⟩ := by
  obtain ⟨c, r, e, hc⟩ := dgs_head u
  have hl := (dgs_le10 h).2
  have q : nx (dgs 10 u) = unR (dgs 10 u) := by
    rw [e, nx_cons, (dgt_is hc).1, if_neg Bool.false_ne_true, if_pos hc]
  rw [q]
  unfold unR
  rw [num_dgs (by omega), if_neg (by show ¬ (dgs 10 u).length = 0; omega), if_neg (by show ¬ 4294967295 < u; omega)]
theorem un_ms : un [109, 115] = 4 := rfl
theorem stop_ms : Stop 10 [109, 115] := fun c hc => by cases hc; decide
theorem span_of {l : List UInt8} {u z : Nat} (h1 : rd 10 l = (u, z)) (h0 : 0 < z) (h2 : un (l.drop z) = 4) : span l = (u, z + 2) := by
  have p : ∀ k, k ≠ 4 → prt l k (0, 0) = (0, 0) := fun k hk => by
    unfold prt
    rw [List.drop_zero, h1, Nat.zero_add, h2, decide_eq_false (show ¬ 4 = k from fun q => hk q.symm), Bool.and_false, if_neg Bool.false_ne_true]
  show prt l 4 (prt l 3 (prt l 2 (prt l 1 (prt l 0 (0, 0))))) = _
  rw [p 0 (by decide), p 1 (by decide), p 2 (by decide), p 3 (by decide)]
  unfold prt
  rw [List.drop_zero, h1, Nat.zero_add, h2, decide_eq_true h0]
  show (0 + u * 1, 0 + (z + 2)) = _
  rw [Nat.zero_add, Nat.zero_add, Nat.mul_one]
theorem span_ms {u : Nat} (h : u ≤ 4294967295) : span (dgs 10 u ++ [109, 115]) = (u, (dgs 10 u).length + 2) :=
  span_of (dgs_rd (b := 10) (n := u) (r := [109, 115]) (by decide) (by decide) (Nat.le_trans h (by decide)) stop_ms) (dgs_le10 h).2 (by rw [List.drop_left]; exact un_ms)
theorem nx_T (r : List UInt8) : nx (84 :: 35 :: r) = tmR (84 :: 35 :: r) 2 := by
  have e : cz inW (84 :: 35 :: r) = 1 := by
    rw [cz_cons, if_pos (by decide), cz_cons, if_neg (by decide)]
  rw [nx_cons, if_pos (by decide)]
  unfold wdR
  rw [e]
  show (if hp (35 :: r) [35] && (decide (kf [84] = 11) || ([84] == [84])) then _ else _) = _
  rw [hp_cons, hp_all]
  rfl
theorem time_pos {u : Nat} (h : u ≤ 2147483647) : nx ([84, 35] ++ dgs 10 u ++ [109, 115]) = ⟨⟨4, 11, u, []⟩, ([84, 35] ++ dgs 10 u ++ [109, 115]).length, 0⟩ := by
  have hl := (dgs_le10 (n := u) (by omega)).2
  have p4 := (dgs_plain u [109, 115] (fun c hc => by cases hc; decide)).2.2.2
  rw [List.append_assoc]
  show nx (84 :: 35 :: (dgs 10 u ++ [109, 115])) = _
  rw [nx_T]
  unfold tmR
  show (if hp (dgs 10 u ++ [109, 115]) [45] then _ else ltR 4 11 (span (dgs 10 u ++ [109, 115])).1 2 (span (dgs 10 u ++ [109, 115])).2) = _
  rw [p4, if_neg Bool.false_ne_true, span_ms (by omega), ltR_yes (by omega) (by show (-2147483648 : Int) ≤ (u : Int); omega) (by show (u : Int) ≤ 2147483647; omega)]
  simp only [List.length_append, List.length_cons, List.length_nil]
theorem time_neg {u : Nat} (h : u ≤ 2147483648) : nx ([84, 35, 45] ++ dgs 10 u ++ [109, 115]) = ⟨⟨4, 11, -(u : Int), []⟩, ([84, 35, 45] ++ dgs 10 u ++ [109, 115]).length, 0⟩ := by
  have hl := (dgs_le10 (n := u) (by omega)).2
  rw [List.append_assoc]
  show nx (84 :: 35 :: (45 :: (dgs 10 u ++ [109, 115]))) = _
  rw [nx_T]
  unfold tmR
  show (if hp (45 :: (dgs 10 u ++ [109, 115])) [45] then ltR 4 11 (-((span (dgs 10 u ++ [109, 115])).1 : Int)) 3 (span (dgs 10 u ++ [109, 115])).2 else _) = _
  rw [hp_cons, hp_all, show ((45 : UInt8) == 45) = true by decide, Bool.and_true, if_pos rfl, span_ms (by omega), ltR_yes (by omega) (by show (-2147483648 : Int) ≤ -(u : Int); omega) (by show -(u : Int) ≤ 2147483647; omega)]
  simp only [List.length_append, List.length_cons, List.length_nil]
theorem lit_nx {k : Nat} {n : Int} (h : Lit k n) : nx (ltx k n) = ⟨ltk k n, (ltx k n).length, 0⟩ ∧ ∃ c r, ltx k n = c :: r ∧ blk c false = false ∧ ¬ c = 40 ∧ ¬ c = 42 := by
  obtain ⟨r1, r2, r3, r4⟩ := lit_range h
  by_cases h0 : k = 0
  · subst h0
    have hn : ¬ n < 0 := fun q => absurd (r4 q).1 (by decide)
    have e : ltx 0 n = dgs 10 n.toNat := by
      unfold ltx
      rw [if_neg (by decide), if_neg hn]
      rfl
    rw [e, nx_dgs (by omega)]
    obtain ⟨c, r, e2, hc⟩ := dgs_head n.toNat
    obtain ⟨_, d2, d3, d4⟩ := dgt_is hc
    refine ⟨?_, c, r, e2, d2, d3, d4⟩
    rw [show ((n.toNat : Nat) : Int) = n by omega]
    rfl
  · by_cases h11 : k = 11
    · subst h11
      rcases h with ⟨q, _⟩ | ⟨_, _, b1, b2⟩
      · cases q
      · have b1 : -2147483648 ≤ n := b1
        have b2 : n ≤ 2147483647 := b2
        by_cases hn : n < 0
        · have e : ltx 11 n = [84, 35, 45] ++ dgs 10 (-n).toNat ++ [109, 115] := by
            unfold ltx
            rw [if_pos rfl, if_pos hn]
          rw [e, time_neg (by omega)]
          refine ⟨?_, 84, 35 :: 45 :: (dgs 10 (-n).toNat ++ [109, 115]), by simp, by decide, by decide, by decide⟩
          rw [show -(((-n).toNat : Nat) : Int) = n by omega]
          rfl
        · have e : ltx 11 n = [84, 35] ++ dgs 10 n.toNat ++ [109, 115] := by
            unfold ltx
            rw [if_pos rfl, if_neg hn]
          rw [e, time_pos (by omega)]
          refine ⟨?_, 84, 35 :: (dgs 10 n.toNat ++ [109, 115]), by simp, by decide, by decide, by decide⟩
          rw [show ((n.toNat : Nat) : Int) = n by omega]
          rfl
    · rcases h with ⟨q, _⟩ | ⟨a1, a2, b1, b2⟩
      · exact absurd q h0
      · by_cases hk1 : k = 1
        · subst hk1
          have b1 : 0 ≤ n := b1
          have b2 : n ≤ 1 := b2
          have hc : n = 0 ∨ n = 1 := by omega
          have e : ∀ m : Nat, m < 10 → ltx 1 m = [66, 79, 79, 76, 35, sg m] := fun m hm => by
            unfold ltx
            rw [if_neg (by decide), if_neg (by omega), Int.toNat_natCast, dgs_lo hm]
            rfl
          rcases hc with rfl | rfl
          · have e0 : ltx 1 0 = [66, 79, 79, 76, 35, 48] := e 0 (by decide)
            rw [e0]
            exact ⟨rfl, 66, _, rfl, by decide, by decide, by decide⟩
          · have e0 : ltx 1 1 = [66, 79, 79, 76, 35, 49] := e 1 (by decide)
            rw [e0]
            exact ⟨rfl, 66, _, rfl, by decide, by decide, by decide⟩
        · have t3 : (if k = 11 then 4 else 3 : Nat) = 3 := if_neg h11
          by_cases hn : n < 0
          · have e : ltx k n = nmK k ++ 35 :: 45 :: dgs 10 (-n).toNat := by
              unfold ltx kdt
              rw [if_neg h11, if_pos hn, if_neg h0]
              simp
            have hl := (dgs_le10 (n := (-n).toNat) (by omega)).2
            rw [e, typed_neg (by omega) (by omega) (by omega) (r4 hn).2, ltR_yes (by omega) (by omega) (by omega)]
            obtain ⟨_, _, _, _, _, _, _, c, l, e2, _, hb, hc⟩ := nmK_is k (by omega) (by omega) (45 :: dgs 10 (-n).toNat)
            have hi := isL_is (c := c) (by assumption)
            refine ⟨?_, c, l, e2, hb false, hi.2.1, hi.2.2.1⟩
            rw [show -(((-n).toNat : Nat) : Int) = n by omega]
            unfold ltk
            rw [t3]
            simp only [List.length_append, List.length_cons]
            rw [show (nmK k).length + 2 + (dgs 10 (-n).toNat).length = (nmK k).length + ((dgs 10 (-n).toNat).length + 1 + 1) by omega]
          · have e : ltx k n = nmK k ++ 35 :: dgs 10 n.toNat := by
              unfold ltx kdt
              rw [if_neg h11, if_neg hn, if_neg h0]
              simp
            have hl := (dgs_le10 (n := n.toNat) (by omega)).2
            rw [e, typed_pos (by omega) (by omega) (by omega), ltR_yes (by omega) (by omega) (by omega)]
            obtain ⟨_, _, _, _, _, _, _, c, l, e2, _, hb, hc⟩ := nmK_is k (by omega) (by omega) (dgs 10 n.toNat)
            have hi := isL_is (c := c) (by assumption)
            refine ⟨?_, c, l, e2, hb false, hi.2.1, hi.2.2.1⟩
            rw [show ((n.toNat : Nat) : Int) = n by omega]
            unfold ltk
            rw [t3]
            simp only [List.length_append, List.length_cons]
            rw [show (nmK k).length + 1 + (dgs 10 n.toNat).length = (nmK k).length + ((dgs 10 n.toNat).length + 1) by omega]
theorem sc_lit {k : Nat} {n : Int} (h : Lit k n) : Sc Fo (ltx k n) [ltk k n] := by
  obtain ⟨h1, c, r, e, h2, h3, h4⟩ := lit_nx h
  exact sc_fo e h2 h3 h1
/-- What may stand behind a name. -/
def Nf (r : List UInt8) : Prop := ∀ c ∈ r.head?, inW c = false ∧ ¬ c = 35
theorem fo_nf {r : List UInt8} (h : Fo r) : Nf r := by
  rcases h with rfl | ⟨c, m, rfl, hc⟩
  · intro c hc; cases hc
  · intro d hd
    cases hd
    refine ⟨hc.inW, fun e => ?_⟩
    subst e
    rcases hc with q | q | q | q | q | q | q | q | q <;> exact absurd q (by decide)
theorem cz_whole : ∀ {s r : List UInt8}, (∀ c ∈ s, inW c = true) → (∀ c ∈ r.head?, inW c = false) → cz inW (s ++ r) = s.length
  | [], r, _, h => by
    cases r with
    | nil => rfl
    | cons c r => rw [List.nil_append, cz_cons, h c (by simp)]; rfl
  | c :: s, r, h, h2 => by rw [List.cons_append, cz_cons, if_pos (h c List.mem_cons_self), cz_whole (fun d hd => h d (List.mem_cons_of_mem _ hd)) h2]; rfl
theorem sc_name {s : List UInt8} (h : IsN s) : Sc Nf s [⟨2, 0, 0, s⟩] := by
  obtain ⟨c, q, e, hc⟩ := h.c
  have hi := isL_is hc
  refine sc_tok (fun r hr => ?_) ⟨c, q, e, hi.1⟩ (fun r _ => by rw [e]; exact hp_4042 hi.2.1)
  have e1 : cz inW (s ++ r) = s.length := cz_whole h.w (fun d hd => (hr d hd).1)
  have e2 : hp r [35] = false := by
    cases r with
    | nil => rfl
    | cons d r => rw [hp_cons, beq_eq_false_iff_ne.2 (fun q => (hr d (by simp)).2 q.symm), Bool.false_and]
  have e3 : nx (s ++ r) = wdR (s ++ r) := by rw [e, List.cons_append, nx_cons, if_pos hc]
  rw [e3]
  unfold wdR
  rw [e1, List.drop_left, List.take_left, e2, Bool.false_and, Bool.false_and, if_neg Bool.false_ne_true, if_neg Bool.false_ne_true]
  exact h.p
theorem isN_head {s : List UInt8} (h : IsN s) : ∃ c r, s = c :: r ∧ ¬ c = 42 ∧ ¬ c = 46 := by
  obtain ⟨c, q, e, hc⟩ := h.c
  exact ⟨c, q, e, (isL_is hc).2.2.1, (isL_is hc).2.2.2.2⟩
theorem isN_not {s : List UInt8} (h : IsN s) : s ≠ [45] ∧ s ≠ [78, 79, 84] ∧ s ≠ [40] := by
  obtain ⟨c, q, e, hc⟩ := h.c
  have hi := isL_is hc
  refine ⟨fun q => ?_, fun q => ?_, fun q => ?_⟩
  · rw [e] at q; exact hi.2.2.2.1 (List.cons.inj q).1
  · have := h.p
    rw [q] at this
    have e2 := congrArg (fun x => x.t.tok) this
    exact absurd (show (plainW [78, 79, 84]).t.tok = 2 from e2) (by decide)
  · rw [e] at q; exact hi.2.1 (List.cons.inj q).1
def dotT : Tk := ⟨6, 0, 0, [46]⟩
theorem sc_dot : Sc (fun r => ∀ c ∈ r.head?, ¬ c = 46) [46] [dotT] := by
  refine sc_tok (fun r hr => ?_) ⟨46, [], rfl, by decide⟩ (fun r _ => hp_4042 (by decide))
  have e : sgz (46 :: r) = 1 := by
    unfold sgz
    have e2 : two.contains ((46 :: r).take 2) = false := by
      cases r with
      | nil => decide
      | cons x r =>
        have hx : ¬ x = 46 := hr x (by simp)
        show two.contains [46, x] = false
        have : ¬ [46, x] ∈ two := by simp [two, hx]
        simpa using this
    rw [e2, Bool.and_false, if_neg Bool.false_ne_true]
    rfl
  show nx (46 :: r) = _
  rw [nx_cons]
  show sgR (46 :: r) = _
  unfold sgR
  rw [e]
  rfl
/-- An operator's token, its level. -/
def wtk (o : Nat) : Tk := ⟨if o = 7 ∨ o = 16 ∨ o = 17 ∨ o = 18 then 1 else 6, 0, 0, opw o⟩
theorem op_cases {o : Nat} (h1 : 5 ≤ o) (h2 : o ≤ 18) : o = 5 ∨ o = 6 ∨ o = 7 ∨ o = 8 ∨ o = 9 ∨ o = 10 ∨ o = 11 ∨ o = 12 ∨ o = 13 ∨ o = 14 ∨ o = 15 ∨ o = 16 ∨ o = 17 ∨ o = 18 := by omega
theorem sc_op {o : Nat} (h1 : 5 ≤ o) (h2 : o ≤ 18) : Sc Fo (opw o) [wtk o] := by
  rcases op_cases h1 h2 with rfl | rfl | rfl | rfl | rfl | rfl | rfl | rfl | rfl | rfl | rfl | rfl | rfl | rfl
  all_goals exact sc_fo rfl (by decide) (by decide) rfl
theorem opr_opw {o : Nat} (h1 : 5 ≤ o) (h2 : o ≤ 18) : (opr (opw o)).1 = o ∧ (opr (opw o)).2 ≤ 5 := by
  rcases op_cases h1 h2 with rfl | rfl | rfl | rfl | rfl | rfl | rfl | rfl | rfl | rfl | rfl | rfl | rfl | rfl
  all_goals exact ⟨by decide, by decide⟩
theorem sc_not : Sc Fo [78, 79, 84] [⟨1, 0, 0, [78, 79, 84]⟩] := sc_fo rfl (by decide) (by decide) rfl
/-- These tokens stand at i. -/
def Has (T : TL) (i : Nat) (M : List Tk) : Prop := ∀ (j : Nat) (u : Tk), M[j]? = some u → (cu T (i + j)).1 = u
theorem Has.left {T : TL} {i : Nat} {M N : List Tk} (h : Has T i (M ++ N)) : Has T i M := fun j u hu => h j u (by
  have : j < M.length := by
    by_cases q : j < M.length
    · exact q
    · rw [List.getElem?_eq_none (by omega)] at hu; cases hu
  rw [List.getElem?_append_left this]; exact hu)
theorem Has.right {T : TL} {i : Nat} {M N : List Tk} (h : Has T i (M ++ N)) : Has T (i + M.length) N := fun j u hu => by
  have := h (M.length + j) u (by rw [List.getElem?_append_right (by omega), Nat.add_sub_cancel_left]; exact hu)
  rw [Nat.add_assoc]
  exact this
theorem Has.head {T : TL} {i : Nat} {u : Tk} {N : List Tk} (h : Has T i (u :: N)) : (cu T i).1 = u := h 0 u rfl
theorem Has.tail {T : TL} {i : Nat} {u : Tk} {N : List Tk} (h : Has T i (u :: N)) : Has T (i + 1) N := Has.right (M := [u]) h
theorem has_lt {T : TL} {i : Nat} {u : Tk} (h : (cu T i).1 = u) (hu : u.tok ≠ 0) : i < T.length := by
  by_cases q : i < T.length
  · exact q
  · exfalso
    unfold cu at h
    rw [List.getD_eq_getElem?_getD, List.getElem?_eq_none (by omega)] at h
    rw [← h] at hu
    exact hu rfl
/-- What stands at k ends an expression. -/
def Cl (T : TL) (k : Nat) : Prop := opr (ct T k) = (0, 0) ∧ isT T [46] k = false ∧ isT T [91] k = false ∧ isT T [40] k = false
theorem cl_of {T : TL} {k : Nat} {u : Tk} (h : (cu T k).1 = u) (hu : u.text = [41] ∨ u.text = [93] ∨ u.text = [44] ∨ u.text = []) : Cl T k := by
  unfold Cl isT ct
  rw [h]
  rcases hu with e | e | e | e <;> rw [e] <;> exact ⟨rfl, rfl, rfl, rfl⟩
/-- Too deep, or read so. -/
def Rg {α : Type} (P : α → Prop) (p : Re α) (k : Nat) : Prop := (p.v = none ∧ p.e = 131) ∨ ∃ a, P a ∧ p = ok a k
theorem Rg.bind {α β : Type} {P : α → Prop} {R : β → Prop} {p : Re α} {k m : Nat} {f : α → Nat → Re β} (h : Rg P p k) (g : ∀ a, P a → Rg R (f a k) m) : Rg R (th p f) m := by
  rcases h with ⟨h1, h2⟩ | ⟨a, h1, h2⟩
  · left; rw [th_none h1]; exact ⟨rfl, h2⟩
  · rw [h2]; exact g a h1
theorem rg_ok {α : Type} {P : α → Prop} {a : α} {k : Nat} (h : P a) : Rg P (ok a k) k := Or.inr ⟨a, h, rfl⟩
theorem rg_xp {α : Type} {P : α → Prop} {T : TL} {s : List UInt8} {k m : Nat} {f : Unit → Nat → Re α} (h : isT T s k = true) (g : Rg P (f () (k + 1)) m) : Rg P (th (xp T s k) f) m := by
  unfold xp
  rw [if_pos h]
  exact g
theorem xpr_una {P : Tr → Prop} {T : TL} {d i k : Nat} (h : Rg P (una T d i) k) (hc : opr (ct T k) = (0, 0)) : Rg P (xpr T d i) k := by
  unfold xpr
  rcases h with ⟨h1, h2⟩ | ⟨a, h1, h2⟩
  · obtain ⟨c1, c2⟩ := bi_none (T := T) h1 6
    exact Or.inl ⟨c1, c2.trans h2⟩
  · exact Or.inr ⟨a, h1, bi_stop h2 hc 6⟩
theorem una_rg {P : Tr → Prop} {T : TL} {d i k : Nat} (hb : beg T i = true) (h : ∀ c, d = c + 1 → Rg P (una T (c + 1) i) k) : Rg P (una T d i) k := by
  cases d with
  | zero =>
    left
    unfold una
    rw [if_pos hb]
    exact ⟨rfl, rfl⟩
  | succ c => exact h c rfl
theorem una_pri {T : TL} {c i : Nat} (hb : beg T i = true) (h1 : isT T [45] i = false) (h2 : isT T [78, 79, 84] i = false) : una T (c + 1) i = pri T (xpr T c) i := by
  unfold una
  rw [hb, h1, h2]
  rfl
/-- These tokens are read as this tree. -/
def PF (M : List Tk) (t : Tr) : Prop := ∀ (T : TL) (i d : Nat), Has T i M → Cl T (i + M.length) → Rg (fun t' => br t' = br t) (xpr T d i) (i + M.length)
/-- In brackets. -/
theorem paren {M : List Tk} {t : Tr} (h : PF M t) (T : TL) (i d : Nat) (hh : Has T i ([opn] ++ M ++ [shut])) : Rg (fun t' => br t' = br t) (una T d i) (i + M.length + 2) := by
  have h0 : (cu T i).1 = opn := hh.left.left.head
  have hM : Has T (i + 1) M := hh.left.right
  have hs : (cu T (i + 1 + M.length)).1 = shut := by
    have := hh.right.head
    rw [List.length_append, List.length_singleton, ← Nat.add_assoc] at this
    exact this
  have b0 : isT T [40] i = true := by unfold isT ct; rw [h0]; rfl
  refine una_rg (by unfold beg; rw [b0, Bool.or_true]) fun c _ => ?_
  rw [una_pri (by unfold beg; rw [b0, Bool.or_true]) (by unfold isT ct; rw [h0]; rfl) (by unfold isT ct; rw [h0]; rfl)]
  unfold pri
  rw [if_pos b0]
  refine Rg.bind (h T (i + 1) c hM (cl_of hs (Or.inl rfl))) fun a ha => rg_xp (by unfold isT ct; rw [hs]; rfl) ?_
  rw [show i + 1 + M.length + 1 = i + M.length + 2 by omega]
  exact rg_ok ha
/-- A name ahead. -/
theorem name_ahead {T : TL} {i d k : Nat} {P : Tr → Prop} {s : List UInt8} (hs : IsN s) (h0 : (cu T i).1 = ⟨2, 0, 0, s⟩) (h : ∀ c, Rg P (if isT T [40] (i + 1) then cal T (xpr T c) (cu T i) (i + 2) else vr T (xpr T c) (cu T i) (i + 1)) k) : Rg P (una T d i) k := by
  obtain ⟨n1, n2, n3⟩ := isN_not hs
  have b2 : ck T i = 2 := by unfold ck; rw [h0]
  have e : ct T i = s := by unfold ct; rw [h0]
  have hb : beg T i = true := by unfold beg; rw [decide_eq_true b2]; rfl
  refine una_rg hb fun c _ => ?_
  rw [una_pri hb (by unfold isT; rw [e]; exact beq_eq_false_iff_ne.2 n1) (by unfold isT; rw [e]; exact beq_eq_false_iff_ne.2 n2)]
  unfold pri
  rw [if_neg (by unfold isT; rw [e, beq_eq_false_iff_ne.2 n3]; exact Bool.false_ne_true), if_pos b2]
  exact h c
theorem bi_pass {T : TL} {u : Nat → Re Tr} {i k lv op : Nat} {t : Tr} (hu : u i = ok t k) (ho : opr (ct T k) = (op, lv)) : ∀ c, c + lv ≤ 5 → bi T u c i = ok t k
  | 0, _ => hu
  | c + 1, h => by
    unfold bi
    rw [bi_pass hu ho c (by omega)]
    show bl T (5 - c) _ (T.length + 1) t k = _
    unfold bl
    rw [ho, decide_eq_false (show ¬ lv = 5 - c by omega), Bool.not_false, Bool.or_true, if_pos rfl]
theorem bi_last {P : Tr → Prop} {T : TL} {u : Nat → Re Tr} {i k : Nat} (hc : opr (ct T k) = (0, 0)) : ∀ (n c : Nat), Rg P (bi T u c i) k → Rg P (bi T u (c + n) i) k
  | 0, _, h => h
  | n + 1, c, h => by
    have h := bi_last hc n c h
    show Rg P (bi T u (c + n + 1) i) k
    unfold bi
    refine Rg.bind h fun a ha => ?_
    rw [bl_stop hc]
    exact rg_ok ha
theorem bin_rg {T : TL} {d i k1 k2 op lv : Nat} {ta tb : Tr} (h0 : 0 < T.length) (ha : Rg (fun t' => br t' = br ta) (una T d i) k1) (hb : Rg (fun t' => br t' = br tb) (una T d (k1 + 1)) k2) (ho : opr (ct T k1) = (op, lv)) (hop : op ≠ 0) (hlv : lv ≤ 5) (hc : opr (ct T k2) = (0, 0)) (pl : Nat) : Rg (fun t' => br t' = br (bin2 op pl ta tb)) (xpr T d i) k2 := by
  unfold xpr
  rcases ha with ⟨h1, h2⟩ | ⟨a, h1, h2⟩
  · obtain ⟨c1, c2⟩ := bi_none (T := T) h1 6
    exact Or.inl ⟨c1, c2.trans h2⟩
  · have e1 : bi T (una T d) (5 - lv) i = ok a k1 := bi_pass h2 ho (5 - lv) (by omega)
    have e2 : Rg (fun t' => br t' = br (bin2 op pl ta tb)) (bi T (una T d) (5 - lv + 1) i) k2 := by
      unfold bi
      rw [e1, show 5 - (5 - lv) = lv by omega]
      show Rg _ (bl T lv (bi T (una T d) (5 - lv)) (T.length + 1) a k1) k2
      unfold bl
      rw [ho, decide_eq_false hop, decide_eq_true (show lv = lv from rfl), if_neg (by decide)]
      have hb2 : Rg (fun t' => br t' = br tb) (bi T (una T d) (5 - lv) (k1 + 1)) k2 := by
        have := bi_last (u := una T d) (i := k1 + 1) hc (5 - lv) 0 hb
        rw [Nat.zero_add] at this
        exact this
      refine Rg.bind hb2 fun b hb3 => ?_
      have eb : br (bin2 op (ca T k1) a b) = br (bin2 op pl ta tb) := al_bin (pl := ca T k1) (pl' := pl) (show Al a ta from h1) (show Al b tb from hb3)
      by_cases h3 : lv = 3
      · rw [if_pos h3]; exact rg_ok eb
      · rw [if_neg h3]
        obtain ⟨f, hf⟩ : ∃ f, T.length = f + 1 := ⟨T.length - 1, by omega⟩
        rw [hf, bl_stop hc]
        exact rg_ok eb
    have e3 := bi_last hc lv (5 - lv + 1) e2
    rw [show 5 - lv + 1 + lv = 6 by omega] at e3
    exact e3
def cma : Tk := ⟨6, 0, 0, [44]⟩
def Fct (t : Tr) (l : List UInt8) : Prop := (∃ c r, l = c :: r ∧ ¬ c = 42) ∧ ∃ M, Sc Fo l M ∧ PF M t
theorem args_fct : ∀ (ts : List Tr) (ls : List (List UInt8)), ls.length = ts.length → (∀ (j : Nat) (a : Tr) (b : List UInt8), ts[j]? = some a → ls[j]? = some b → Fct a b) →
    ∃ N : List Tk, Sc Fo (ls.flatMap fun b => [44, 32] ++ b) N ∧ ts.length ≤ N.length ∧ (∃ u K, N ++ [shut] = u :: K ∧ (u.text = [41] ∨ u.text = [44])) ∧
      ∀ (T : TL) (k d f : Nat) (acc : List Tr), Has T k (N ++ [shut]) → ts.length < f → Rg (fun l => l.map br = acc.map br ++ ts.map br) (rp (isT T [44]) (fun l m => th (xpr T d (m + 1)) fun a z => ok (l ++ [a]) z) f acc k) (k + N.length)
  | [], [], _, _ => by
    refine ⟨[], sc_nil _, Nat.le_refl _, ⟨shut, [], rfl, Or.inl rfl⟩, fun T k d f acc hh hf => ?_⟩
    obtain ⟨g, rfl⟩ : ∃ g, f = g + 1 := ⟨f - 1, by omega⟩
    unfold rp
    have e : isT T [44] k = false := by unfold isT ct; rw [hh.head]; rfl
    rw [e, if_neg Bool.false_ne_true]
    exact rg_ok (by rw [List.map_nil, List.append_nil])
  | [], _ :: _, h, _ => by cases h
  | _ :: _, [], h, _ => by cases h
  | t :: ts, l :: ls, h, hf => by
    obtain ⟨N, n1, n2, ⟨u, K, n3, n4⟩, n5⟩ := args_fct ts ls (by simpa using h) (fun j a b ha hb => hf (j + 1) a b ha hb)
    obtain ⟨⟨c, r, e, hc⟩, M, m1, m2⟩ := hf 0 t l rfl rfl
    refine ⟨[cma] ++ ([] ++ (M ++ N)), ?_, ?_, ⟨cma, M ++ N ++ [shut], by simp, Or.inr rfl⟩, ?_⟩
    · rw [List.flatMap_cons]
      show Sc Fo ([44] ++ ([32] ++ l) ++ _) _
      rw [List.append_assoc, List.append_assoc]
      refine Sc.app (F := Any) (sc_sgn (c := 44) (by decide)) (Sc.app (F := Any) (sc_blank (c := 32) (by decide)) (Sc.app m1 n1 fun r hr => ?_) fun _ _ => trivial) fun _ _ => trivial
      cases ls with
      | nil => exact hr
      | cons b ls => exact Or.inr ⟨44, _, rfl, Or.inr (Or.inr (Or.inr (Or.inr (Or.inr (Or.inr (Or.inl rfl))))))⟩
    · simp only [List.length_append, List.length_cons, List.length_nil]; omega
    · intro T k d f acc hh hfu
      obtain ⟨g, rfl⟩ : ∃ g, f = g + 1 := ⟨f - 1, by omega⟩
      have hh : Has T k ([cma] ++ (M ++ (N ++ [shut]))) := by
        have e2 : [cma] ++ ([] ++ (M ++ N)) ++ [shut] = [cma] ++ (M ++ (N ++ [shut])) := by simp
        rw [e2] at hh
        exact hh
      have h0 : (cu T k).1 = cma := hh.head
      have h1 : Has T (k + 1) (M ++ (N ++ [shut])) := hh.right
      have h2 := h1.right
      unfold rp
      have e0 : isT T [44] k = true := by unfold isT ct; rw [h0]; rfl
      rw [e0, if_pos rfl]
      have hu : (cu T (k + 1 + M.length)).1 = u := by rw [n3] at h2; exact h2.head
      have q := m2 T (k + 1) d h1.left (cl_of hu (by rcases n4 with q | q; exact Or.inl q; exact Or.inr (Or.inr (Or.inl q))))
      refine Rg.bind (P := fun l => ∃ a, br a = br t ∧ l = acc ++ [a]) (k := k + 1 + M.length) (Rg.bind q fun a ha => rg_ok ⟨a, ha, rfl⟩) fun x hx => ?_
      obtain ⟨a, ha, rfl⟩ := hx
      have q2 := n5 T (k + 1 + M.length) d g (acc ++ [a]) h2 (by rw [List.length_cons] at hfu; omega)
      have el : k + ([cma] ++ ([] ++ (M ++ N))).length = k + 1 + M.length + N.length := by simp only [List.length_append, List.length_cons, List.length_nil]; omega
      rw [el]
      rcases q2 with q2 | ⟨y, y1, y2⟩
      · exact Or.inl q2
      · exact Or.inr ⟨y, by show y.map br = _; rw [y1, List.map_append, List.map_cons, List.map_cons, ha]; simp, y2⟩
end Go.Proofs.YtgdoanhemgklpaaGreatDoor
