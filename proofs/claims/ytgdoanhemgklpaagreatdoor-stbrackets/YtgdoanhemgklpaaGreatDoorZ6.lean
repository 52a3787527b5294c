/- What was written is read as it was: every tree (stage 13). -/
import Derived.Test.YtgdoanhemgklpaaGreatDoorZ5
namespace Go.Proofs.YtgdoanhemgklpaaGreatDoor
open Go.RowKit
open Adr Lx Sx
theorem fct_lit {k : Nat} {n : Int} (pl : Nat) (h : Lit k n) : Fct (mkT ⟨1, k, n, [], [], pl, 0⟩ []) (ltx k n) := by
  obtain ⟨_, c, r, e, _, _, h4⟩ := lit_nx h
  refine ⟨⟨c, r, e, h4⟩, [ltk k n], sc_lit h, fun T i d hh hc => xpr_una ?_ hc.1⟩
  have h0 : (cu T i).1 = ltk k n := hh.head
  have et : ct T i = [] := by unfold ct; rw [h0]; rfl
  have nt : ∀ s : List UInt8, s ≠ [] → isT T s i = false := fun s hs => by unfold isT; rw [et]; exact beq_eq_false_iff_ne.2 (Ne.symm hs)
  have eb : br (litOf (cu T i)) = br (mkT ⟨1, k, n, [], [], pl, 0⟩ []) := by
    unfold litOf
    refine br_mkT ?_ rfl
    unfold sp
    rw [h0]
    rfl
  by_cases q : k = 11
  · have e4 : ck T i = 4 := by unfold ck; rw [h0]; exact if_pos q
    have hb : beg T i = true := by unfold beg; rw [decide_eq_true e4, Bool.or_true]; rfl
    refine una_rg hb fun c _ => ?_
    rw [una_pri hb (nt _ (by decide)) (nt _ (by decide))]
    unfold pri
    rw [nt _ (by decide), if_neg Bool.false_ne_true, if_neg (by omega)]
    unfold litT
    rw [if_pos e4]
    exact rg_ok eb
  · have e3 : ck T i = 3 := by unfold ck; rw [h0]; exact if_neg q
    have hb : beg T i = true := by unfold beg; rw [decide_eq_true e3, Bool.or_true]; rfl
    refine una_rg hb fun c _ => ?_
    rw [una_pri hb (nt _ (by decide)) (nt _ (by decide))]
    unfold pri
    rw [nt _ (by decide), if_neg Bool.false_ne_true, if_neg (by omega)]
    unfold litT tof
    rw [if_neg (by omega), if_pos e3]
    exact rg_ok eb
theorem fct_name {s : List UInt8} (pl : Nat) (h : IsN s) : Fct (mkT ⟨2, 0, 0, s, [], pl, 0⟩ []) s := by
  obtain ⟨c, r, e, h4, _⟩ := isN_head h
  refine ⟨⟨c, r, e, h4⟩, _, (sc_name h).mono (fun r hr => fo_nf hr), fun T i d hh hc => xpr_una ?_ hc.1⟩
  have h0 : (cu T i).1 = ⟨2, 0, 0, s⟩ := hh.head
  obtain ⟨_, c2, c3, c4⟩ := hc
  refine name_ahead h h0 fun c => ?_
  have c4 : isT T [40] (i + 1) = false := c4
  have c2 : isT T [46] (i + 1) = false := c2
  have c3 : isT T [91] (i + 1) = false := c3
  rw [c4, if_neg Bool.false_ne_true]
  unfold vr
  rw [c2, if_neg Bool.false_ne_true, c3, if_neg Bool.false_ne_true]
  refine rg_ok ?_
  unfold plainV
  refine br_mkT ?_ rfl
  unfold sp
  rw [h0]
theorem fct_field {s f : List UInt8} (pl : Nat) (h : IsN s) (hf : IsN f) : Fct (mkT ⟨2, 0, 0, s, f, pl, 0⟩ []) (s ++ [46] ++ f) := by
  obtain ⟨c, r, e, h4, _⟩ := isN_head h
  obtain ⟨c', r', e', _, h46⟩ := isN_head hf
  refine ⟨⟨c, r ++ [46] ++ f, by rw [e]; rfl, h4⟩, [⟨2, 0, 0, s⟩] ++ [dotT] ++ [⟨2, 0, 0, f⟩], ?_, fun T i d hh hc => xpr_una ?_ hc.1⟩
  · refine Sc.mono (F := Nf) (Sc.app (Sc.app (sc_name h) sc_dot ?_) (sc_name hf) ?_) (fun r hr => fo_nf hr)
    · intro r _ x hx
      cases hx
      decide
    · intro r _ x hx
      rw [e'] at hx
      cases hx
      exact h46
  · have h0 : (cu T i).1 = ⟨2, 0, 0, s⟩ := hh.head
    have h1 : (cu T (i + 1)).1 = dotT := hh.tail.head
    have h2 : (cu T (i + 1 + 1)).1 = ⟨2, 0, 0, f⟩ := hh.tail.tail.head
    refine name_ahead h h0 fun c => ?_
    rw [if_neg (by unfold isT ct; rw [h1]; decide)]
    unfold vr
    rw [if_pos (by unfold isT ct; rw [h1]; decide)]
    unfold tof
    rw [if_pos (by unfold ck; rw [h2])]
    refine rg_ok ?_
    refine br_mkT ?_ rfl
    unfold sp
    rw [h0, h2]
theorem fct_index {s x : List UInt8} {t : Tr} (pl : Nat) (h : IsN s) (hx : Fct t x) : Fct (mkT ⟨2, 0, 0, s, [], pl, 1⟩ [t]) (s ++ [91] ++ x ++ [93]) := by
  obtain ⟨c, r, e, h4, _⟩ := isN_head h
  obtain ⟨_, M, m1, m2⟩ := hx
  refine ⟨⟨c, r ++ [91] ++ x ++ [93], by rw [e]; rfl, h4⟩, [⟨2, 0, 0, s⟩] ++ [⟨6, 0, 0, [91]⟩] ++ M ++ [⟨6, 0, 0, [93]⟩], ?_, fun T i d hh hc => xpr_una ?_ hc.1⟩
  · refine Sc.mono (F := Any) (Sc.app (Sc.app (Sc.app (sc_name h) (sc_sgn (c := 91) (by decide)) ?_) m1 (fun _ _ => trivial)) (sc_sgn (c := 93) (by decide)) ?_) (fun _ _ => trivial)
    · intro r _ x hx
      cases hx
      decide
    · exact fun r _ => Or.inr ⟨93, r, rfl, by unfold Stp; decide⟩
  · have h0 : (cu T i).1 = ⟨2, 0, 0, s⟩ := hh.left.left.head
    have h1 : (cu T (i + 1)).1 = ⟨6, 0, 0, [91]⟩ := hh.left.left.tail.head
    have h2 : Has T (i + 1 + 1) M := hh.left.right
    have h3 : (cu T (i + 1 + 1 + M.length)).1 = ⟨6, 0, 0, [93]⟩ := by
      have := hh.right.head
      have el : i + ([(⟨2, 0, 0, s⟩ : Tk)] ++ [(⟨6, 0, 0, [91]⟩ : Tk)] ++ M).length = i + 1 + 1 + M.length := by simp only [List.length_append, List.length_cons, List.length_nil]; omega
      rw [el] at this
      exact this
    have el : i + ([(⟨2, 0, 0, s⟩ : Tk)] ++ [(⟨6, 0, 0, [91]⟩ : Tk)] ++ M ++ [(⟨6, 0, 0, [93]⟩ : Tk)]).length = i + 1 + 1 + M.length + 1 := by simp only [List.length_append, List.length_cons, List.length_nil]; omega
    rw [el]
    refine name_ahead h h0 fun c => ?_
    rw [if_neg (by unfold isT ct; rw [h1]; decide)]
    unfold vr
    rw [if_neg (by unfold isT ct; rw [h1]; decide), if_pos (by unfold isT ct; rw [h1]; decide)]
    refine Rg.bind (m2 T (i + 1 + 1) c h2 (cl_of h3 (by decide))) fun a ha => rg_xp (by unfold isT ct; rw [h3]; rfl) (rg_ok ?_)
    refine br_mkT ?_ ?_
    · unfold sp
      rw [h0]
    · rw [List.map_cons, List.map_cons, ha]
/-- A piece in brackets. -/
theorem sc_paren {x : List UInt8} {M : List Tk} (hx : ∃ c r, x = c :: r ∧ ¬ c = 42) (m1 : Sc Fo x M) : Sc Any ([40] ++ x ++ [41]) ([opn] ++ M ++ [shut]) := by
  refine Sc.app (Sc.app sc_opn m1 ?_) (sc_sgn (c := 41) (by decide)) ?_
  · intro r _ c hc
    obtain ⟨d, q, rfl, hd⟩ := hx
    cases hc
    exact hd
  · exact fun r _ => Or.inr ⟨41, r, rfl, by unfold Stp; decide⟩
theorem una_succ (T : TL) (d i : Nat) : una T (d + 1) i = if !beg T i then no 130 i else if isT T [45] i then un1 3 (ca T i) (una T d (i + 1)) else if isT T [78, 79, 84] i then un1 4 (ca T i) (una T d (i + 1)) else pri T (bi T (una T d) 6) i := rfl
theorem fct_un {op : Nat} {x : List UInt8} {t : Tr} (pl : Nat) (ho : op = 3 ∨ op = 4) (hx : Fct t x) : Fct (mkT ⟨op, 0, 0, [], [], pl, 1⟩ [t]) ((if op = 3 then [45, 32] else [78, 79, 84, 32]) ++ ([40] ++ x ++ [41])) := by
  obtain ⟨hd, M, m1, m2⟩ := hx
  have key : ∀ (u : Tk) (w : List UInt8), Sc Fo w [u] → (∃ c r, w = c :: r ∧ ¬ c = 42) → (∀ (T : TL) (i c : Nat), (cu T i).1 = u → beg T i = true ∧ una T (c + 1) i = un1 op (ca T i) (una T c (i + 1))) → Fct (mkT ⟨op, 0, 0, [], [], pl, 1⟩ [t]) (w ++ [32] ++ ([40] ++ x ++ [41])) := by
    intro u w hw ⟨c, r, e, h4⟩ hu
    refine ⟨⟨c, r ++ [32] ++ ([40] ++ x ++ [41]), by rw [e]; rfl, h4⟩, [u] ++ [] ++ ([opn] ++ M ++ [shut]), ?_, fun T i d hh hc => xpr_una ?_ hc.1⟩
    · refine Sc.mono (F := Any) (Sc.app (Sc.app hw (sc_blank (c := 32) (by decide)) ?_) (sc_paren hd m1) (fun _ _ => trivial)) (fun _ _ => trivial)
      exact fun r _ => Or.inr ⟨32, r, rfl, by unfold Stp; decide⟩
    · have h0 : (cu T i).1 = u := hh.left.head
      have h1 : Has T (i + 1) ([opn] ++ M ++ [shut]) := hh.right
      have el : i + ([u] ++ [] ++ ([opn] ++ M ++ [shut])).length = i + 1 + M.length + 2 := by simp only [List.length_append, List.length_cons, List.length_nil]; omega
      rw [el]
      refine una_rg (hu T i 0 h0).1 fun c _ => ?_
      rw [(hu T i c h0).2]
      unfold un1
      refine Rg.bind (paren m2 T (i + 1) c h1) fun a ha => rg_ok ?_
      refine br_mkT rfl ?_
      rw [List.map_cons, List.map_cons, ha]
  rcases ho with rfl | rfl
  · refine key ⟨6, 0, 0, [45]⟩ [45] ((sc_sgn (c := 45) (by decide)).mono (fun _ _ => trivial)) ⟨45, [], rfl, by decide⟩ fun T i c h0 => ?_
    have b0 : isT T [45] i = true := by unfold isT ct; rw [h0]; rfl
    have hb : beg T i = true := by unfold beg; rw [b0, Bool.or_true]; rfl
    refine ⟨hb, ?_⟩
    rw [una_succ, hb, b0]
    rfl
  · refine key ⟨1, 0, 0, [78, 79, 84]⟩ [78, 79, 84] sc_not ⟨78, [79, 84], rfl, by decide⟩ fun T i c h0 => ?_
    have b0 : isT T [78, 79, 84] i = true := by unfold isT ct; rw [h0]; rfl
    have b1 : isT T [45] i = false := by unfold isT ct; rw [h0]; rfl
    have hb : beg T i = true := by unfold beg; rw [b0, Bool.or_true]; rfl
    refine ⟨hb, ?_⟩
    rw [una_succ, hb, b0, b1]
    rfl
theorem fct_bin {op : Nat} {x y : List UInt8} {t u : Tr} (pl : Nat) (h1 : 5 ≤ op) (h2 : op ≤ 18) (hx : Fct t x) (hy : Fct u y) : Fct (mkT ⟨op, 0, 0, [], [], pl, 2⟩ [t, u]) ([40] ++ x ++ [41] ++ [32] ++ opw op ++ [32] ++ ([40] ++ y ++ [41])) := by
  obtain ⟨hd, M, m1, m2⟩ := hx
  obtain ⟨hd', N, n1, n2⟩ := hy
  refine ⟨⟨40, x ++ [41] ++ [32] ++ opw op ++ [32] ++ ([40] ++ y ++ [41]), rfl, by decide⟩, ([opn] ++ M ++ [shut]) ++ [] ++ [wtk op] ++ [] ++ ([opn] ++ N ++ [shut]), ?_, fun T i d hh hc => ?_⟩
  · refine Sc.mono (F := Any) (Sc.app (Sc.app (Sc.app (Sc.app (sc_paren hd m1) (sc_blank (c := 32) (by decide)) (fun _ _ => trivial)) (sc_op h1 h2) (fun _ _ => trivial)) (sc_blank (c := 32) (by decide)) ?_) (sc_paren hd' n1) (fun _ _ => trivial)) (fun _ _ => trivial)
    exact fun r _ => Or.inr ⟨32, r, rfl, by unfold Stp; decide⟩
  · have hh : Has T i (([opn] ++ M ++ [shut]) ++ (wtk op :: ([opn] ++ N ++ [shut]))) := by
      have e2 : ([opn] ++ M ++ [shut]) ++ [] ++ [wtk op] ++ [] ++ ([opn] ++ N ++ [shut]) = ([opn] ++ M ++ [shut]) ++ (wtk op :: ([opn] ++ N ++ [shut])) := by simp
      rw [e2] at hh
      exact hh
    have h0 : (cu T i).1 = opn := hh.left.left.left.head
    have a1 := paren m2 T i d hh.left
    have h3 := hh.right
    have el1 : i + ([opn] ++ M ++ [shut]).length = i + M.length + 2 := by simp only [List.length_append, List.length_cons, List.length_nil]; omega
    rw [el1] at h3
    have h4 : (cu T (i + M.length + 2)).1 = wtk op := h3.head
    have a2 := paren n2 T (i + M.length + 2 + 1) d h3.tail
    have el2 : i + (([opn] ++ M ++ [shut]) ++ [] ++ [wtk op] ++ [] ++ ([opn] ++ N ++ [shut])).length = i + M.length + 2 + 1 + N.length + 2 := by simp only [List.length_append, List.length_cons, List.length_nil]; omega
    rw [el2] at hc ⊢
    obtain ⟨o1, o2⟩ := opr_opw h1 h2
    exact bin_rg (Nat.lt_of_le_of_lt (Nat.zero_le _) (has_lt h0 (by decide))) a1 a2 (lv := (opr (opw op)).2) (op := op) (by
      have : ct T (i + M.length + 2) = opw op := by unfold ct; rw [h4]; rfl
      rw [this]
      exact Prod.ext o1 rfl) (by omega) o2 hc.1 pl
theorem fct_call {s : List UInt8} {a : List UInt8} {r : List (List UInt8)} {t : Tr} {ts : List Tr} (pl : Nat) (h : IsN s) (hl : r.length = ts.length) (hx : Fct t a) (hr : ∀ (j : Nat) (a : Tr) (b : List UInt8), ts[j]? = some a → r[j]? = some b → Fct a b) : Fct (mkT ⟨19, 0, 0, s, [], pl, (t :: ts).length⟩ (t :: ts)) (s ++ [40] ++ a ++ (r.flatMap fun b => [44, 32] ++ b) ++ [41]) := by
  obtain ⟨c, q, e, h4, _⟩ := isN_head h
  obtain ⟨⟨c', q', e', h42⟩, M, m1, m2⟩ := hx
  obtain ⟨N, n1, n2, ⟨u, K, n3, n4⟩, n5⟩ := args_fct ts r hl hr
  refine ⟨⟨c, q ++ [40] ++ a ++ (r.flatMap fun b => [44, 32] ++ b) ++ [41], by rw [e]; rfl, h4⟩, [⟨2, 0, 0, s⟩] ++ [opn] ++ M ++ N ++ [shut], ?_, fun T i d hh hc => xpr_una ?_ hc.1⟩
  · refine Sc.mono (F := Any) (Sc.app (Sc.app (Sc.app (Sc.app (sc_name h) sc_opn ?_) m1 ?_) n1 ?_) (sc_sgn (c := 41) (by decide)) ?_) (fun _ _ => trivial)
    · intro r _ x hx
      cases hx
      decide
    · intro r _ x hx
      rw [e'] at hx
      cases hx
      exact h42
    · intro z hz
      cases r with
      | nil => exact hz
      | cons b r => exact Or.inr ⟨44, _, rfl, by unfold Stp; decide⟩
    · exact fun r _ => Or.inr ⟨41, r, rfl, by unfold Stp; decide⟩
  · have hh : Has T i (⟨2, 0, 0, s⟩ :: opn :: (M ++ (N ++ [shut]))) := by
      have e2 : [⟨2, 0, 0, s⟩] ++ [opn] ++ M ++ N ++ [shut] = ⟨2, 0, 0, s⟩ :: opn :: (M ++ (N ++ [shut])) := by simp
      rw [e2] at hh
      exact hh
    have h0 : (cu T i).1 = ⟨2, 0, 0, s⟩ := hh.head
    have h1 : (cu T (i + 1)).1 = opn := hh.tail.head
    have h2 : Has T (i + 2) (M ++ (N ++ [shut])) := hh.tail.tail
    have h3 := h2.right
    have hu : (cu T (i + 2 + M.length)).1 = u := by rw [n3] at h3; exact h3.head
    have hs : (cu T (i + 2 + M.length + N.length)).1 = shut := h3.right.head
    have hlt := has_lt hs (by decide)
    have el : i + ([(⟨2, 0, 0, s⟩ : Tk)] ++ [opn] ++ M ++ N ++ [shut]).length = i + 2 + M.length + N.length + 1 := by simp only [List.length_append, List.length_cons, List.length_nil]; omega
    rw [el]
    refine name_ahead h h0 fun c => ?_
    rw [if_pos (by unfold isT ct; rw [h1]; decide)]
    unfold cal
    refine Rg.bind (m2 T (i + 2) c h2.left (cl_of hu (by rcases n4 with q | q; exact Or.inl q; exact Or.inr (Or.inr (Or.inl q))))) fun b hb => ?_
    refine Rg.bind (n5 T (i + 2 + M.length) c (T.length + 1) [b] h3 (by omega)) fun l hl2 => rg_xp (by unfold isT ct; rw [hs]; rfl) (rg_ok ?_)
    have e3 : l.map br = (t :: ts).map br := by rw [hl2, List.map_cons, List.map_cons, hb]; rfl
    refine br_mkT ?_ e3
    unfold sp
    rw [h0, show l.length = (t :: ts).length by rw [← List.length_map (f := br), e3, List.length_map]]
theorem pr_fct : ∀ (D : Nat) (t : Tr) (l : List UInt8), Pr D t l → Fct t l
  | 0, _, _, h => h.elim
  | D + 1, t, l, ⟨nd, ts, ls, e1, har, hlen, hsub, hN⟩ => by
    obtain ⟨op, kind, n, name, field, pl, ar⟩ := nd
    have har : ar = ts.length := har
    have ih : ∀ (j : Nat) (a : Tr) (b : List UInt8), ts[j]? = some a → ls[j]? = some b → Fct a b := fun j a b ha hb => pr_fct D a b (hsub j a b ha hb)
    subst e1
    rcases hN with ⟨a1, a2, a3, a4, a5, a6⟩ | ⟨a1, a2, a3, a4, a5⟩ | ⟨a1, a2, a3, a4, a5, x, a6, a7⟩ | ⟨a1, a2, a3, a4, a5, x, r, a6, a7⟩ | ⟨a1, a2, a3, a4, a5, a6, x, y, a7, a8⟩
    · have a1 : op = 1 := a1
      have a2 : name = [] := a2
      have a3 : field = [] := a3
      subst a4 a1 a2 a3
      have e : ts = [] := List.length_eq_zero_iff.1 hlen.symm
      subst e har
      rw [a6]
      exact fct_lit pl a5
    · have a1 : op = 2 := a1
      have a2 : kind = 0 := a2
      have a3 : n = 0 := a3
      have a4 : IsN name := a4
      subst a1 a2 a3
      rcases a5 with ⟨b1, b2, b3⟩ | ⟨b1, b2, b3⟩ | ⟨x, b1, b2, b3⟩
      · have b2 : field = [] := b2
        subst b1 b2
        have e : ts = [] := List.length_eq_zero_iff.1 hlen.symm
        subst e har
        rw [b3]
        exact fct_name pl a4
      · subst b1
        have e : ts = [] := List.length_eq_zero_iff.1 hlen.symm
        subst e har
        rw [b3]
        exact fct_field pl a4 b2
      · have b2 : field = [] := b2
        subst b1 b2
        obtain ⟨t, rfl⟩ : ∃ t, ts = [t] := List.length_eq_one_iff.1 hlen.symm
        subst har
        rw [b3]
        exact fct_index pl a4 (ih 0 t x rfl rfl)
    · have a1 : op = 3 ∨ op = 4 := a1
      have a2 : kind = 0 := a2
      have a3 : n = 0 := a3
      have a4 : name = [] := a4
      have a5 : field = [] := a5
      subst a2 a3 a4 a5 a6
      obtain ⟨t, rfl⟩ : ∃ t, ts = [t] := List.length_eq_one_iff.1 hlen.symm
      subst har
      rw [a7]
      exact fct_un pl a1 (ih 0 t x rfl rfl)
    · have a1 : op = 19 := a1
      have a2 : kind = 0 := a2
      have a3 : n = 0 := a3
      have a4 : field = [] := a4
      subst a1 a2 a3 a4 a6
      cases ts with
      | nil => cases hlen
      | cons t ts =>
        subst har
        rw [a7]
        exact fct_call pl a5 (by simpa using hlen) (ih 0 t x rfl rfl) (fun j a b ha hb => ih (j + 1) a b ha hb)
    · have a1 : 5 ≤ op := a1
      have a2 : op ≤ 18 := a2
      have a3 : kind = 0 := a3
      have a4 : n = 0 := a4
      have a5 : name = [] := a5
      have a6 : field = [] := a6
      subst a3 a4 a5 a6 a7
      obtain ⟨t, u, rfl⟩ : ∃ t u, ts = [t, u] := by
        match ts, hlen with
        | [t, u], _ => exact ⟨t, u, rfl⟩
      subst har
      rw [a8]
      exact fct_bin pl a1 a2 (ih 0 t x rfl rfl) (ih 1 u y rfl rfl)
/-- What a tree is written as, read: the tree, or too deep. -/
theorem onl_back {D : Nat} {t : Tr} {l : List UInt8} (h : Pr D t l) (hl : l.length ≤ 65536) : ∃ T' : TL, toks l false = (T', none) ∧ ((∃ e, onl T' = no 131 e) ∨ ∃ t' m, br t' = br t ∧ onl T' = ok t' m) := by
  obtain ⟨_, M, m1, m2⟩ := pr_fct D t l h
  obtain ⟨Q, q1, q2⟩ := m1.whole (Or.inl rfl) hl
  refine ⟨_, q2, ?_⟩
  generalize hT : Q ++ [(nul, l.length)] = T
  have e : T.map Prod.fst = M ++ [nul] := by rw [← hT, List.map_append, q1]; rfl
  have hh : Has T 0 M := by
    intro j u hu
    rw [Nat.zero_add, cu_map, e, List.getD_eq_getElem?_getD]
    have : j < M.length := by
      by_cases q : j < M.length
      · exact q
      · rw [List.getElem?_eq_none (by omega)] at hu; cases hu
    rw [List.getElem?_append_left this, hu]
    rfl
  have hn : (cu T (0 + M.length)).1 = nul := by rw [Nat.zero_add, cu_map, e, getD_r (Nat.le_refl _), Nat.sub_self]; rfl
  rcases m2 T 0 32 hh (cl_of hn (Or.inr (Or.inr (Or.inr rfl)))) with ⟨b1, b2⟩ | ⟨t', b1, b2⟩
  · left
    exact ⟨(xpr T 32 0).k, by rw [onl_none b1, b2]⟩
  · right
    exact ⟨t', _, b1, onl_out b2 (by unfold ck; rw [hn]; rfl)⟩
end Go.Proofs.YtgdoanhemgklpaaGreatDoor
