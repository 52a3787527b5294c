/- print: every tree (stage 13). -/
import Derived.Test.YtgdoanhemgklpaaGreatDoorZC
import Derived.Test.YtgdoanhemgklpaaGreatDoorZD
import Derived.Test.YtgdoanhemgklpaaGreatDoorZE
namespace Go.Proofs.YtgdoanhemgklpaaGreatDoor
open Go.RowKit
open Adr Lx Sx
theorem fm_len (r : List (List UInt8)) : r.length ≤ (r.flatMap fun b => [44, 32] ++ b).length := by
  induction r with
  | nil => exact Nat.le_refl _
  | cons b r ih => rw [List.flatMap_cons, List.length_append]; simp only [List.length_cons, List.length_append, List.length_nil]; omega
theorem fm_le {r : List (List UInt8)} {j : Nat} {b : List UInt8} (h : r[j]? = some b) : b.length ≤ (r.flatMap fun b => [44, 32] ++ b).length := by
  induction r generalizing j with
  | nil => cases h
  | cons a r ih =>
    rw [List.flatMap_cons, List.length_append]
    cases j with
    | zero => cases h; simp only [List.length_append, List.length_cons, List.length_nil]; omega
    | succ j => have := ih h; omega
/-- An operand's text is no longer than the whole; there are no more operands than signs. -/
theorem nl_le {nd : Nd} {ls : List (List UInt8)} {l : List UInt8} (h : Nl nd ls l) : ls.length ≤ l.length + 2 ∧ ∀ (j : Nat) (b : List UInt8), ls[j]? = some b → b.length ≤ l.length := by
  have one : ∀ (a : List UInt8) (j : Nat) (b : List UInt8), [a][j]? = some b → b = a := fun a j b hb => by
    cases j with
    | zero => cases hb; rfl
    | succ j => cases hb
  rcases h with ⟨_, _, _, e, _, _⟩ | ⟨_, _, _, _, h⟩ | ⟨_, _, _, _, _, a, e, rfl⟩ | ⟨_, _, _, _, _, a, r, e, rfl⟩ | ⟨_, _, _, _, _, _, a, b, e, rfl⟩
  · subst e; exact ⟨Nat.zero_le _, fun j b hb => by cases hb⟩
  · rcases h with ⟨e, _, _⟩ | ⟨e, _, _⟩ | ⟨a, e, _, rfl⟩
    · subst e; exact ⟨Nat.zero_le _, fun j b hb => by cases hb⟩
    · subst e; exact ⟨Nat.zero_le _, fun j b hb => by cases hb⟩
    · subst e
      refine ⟨by simp, fun j b hb => ?_⟩
      rw [one a j b hb]
      simp only [List.length_append]
      omega
  · subst e
    refine ⟨by simp, fun j b hb => ?_⟩
    rw [one a j b hb]
    simp only [List.length_append]
    omega
  · subst e
    have q := fm_len r
    refine ⟨by simp only [List.length_append, List.length_cons]; omega, fun j b hb => ?_⟩
    cases j with
    | zero => cases hb; simp only [List.length_append]; omega
    | succ j => have := fm_le (show r[j]? = some b from hb); simp only [List.length_append] at this ⊢; omega
  · subst e
    refine ⟨by simp only [List.length_append, List.length_cons, List.length_nil]; omega, fun j c hc => ?_⟩
    cases j with
    | zero => cases hc; simp only [List.length_append]; omega
    | succ j => rw [one b j c hc]; simp only [List.length_append]; omega
theorem pr_sz : ∀ (D : Nat) (t : Tr) (l : List UInt8), Pr D t l → l.length ≤ 90000 → Sz t
  | 0, _, _, h, _ => h.elim
  | D + 1, t, l, ⟨nd, ts, ls, e1, har, hlen, hsub, hN⟩, hl => by
    obtain ⟨q1, q2⟩ := nl_le hN
    subst e1
    intro q x hx
    cases q with
    | nil => cases hx; omega
    | cons j q =>
      cases hj : ts[j]? with
      | none => simp only [mkT, hj] at hx; cases hx
      | some a =>
        simp only [mkT, hj] at hx
        have hjl : j < ts.length := by
          by_cases z : j < ts.length
          · exact z
          · rw [List.getElem?_eq_none (by omega)] at hj; cases hj
        have hb : ls[j]? = some (ls[j]'(by omega)) := List.getElem?_eq_getElem (by omega)
        exact pr_sz D a _ (hsub j a _ hj hb) (Nat.le_trans (q2 j _ hb) hl) q x hx
set_option maxHeartbeats 4000000 in
set_option maxRecDepth 100000 in
theorem print_c : ∀ (D : Nat) (S : Nat → Prop) (d : Nat) (w : World) (o1 k1 n1 : Int) (nm1 fl1 : ByteArray) (lp1 : Option Addr) (ln1 lc1 : Nat) (p1 : Int) (t : Tr) (l : List UInt8), Pr D t l → l.length ≤ 100000 → EA S d w (.agg #[.int .i64 o1, .int .i64 k1, .int .i64 n1, .string nm1, .string fl1, .slice lp1 ln1 lc1, .int .i64 p1]) t → Calls Tryz.prog 9 #[.agg #[.int .i64 o1, .int .i64 k1, .int .i64 n1, .string nm1, .string fl1, .slice lp1 ln1 lc1, .int .i64 p1]] w fun e w' => e = .returned (.string (tx l)) ∧ Below w.heap.size w w'
  | 0, _, _, _, _, _, _, _, _, _, _, _, _, _, _, h, _, _ => h.elim
  | _ + 1, _, 0, _, _, _, _, _, _, _, _, _, _, _, _, _, _, h => h.elim
  | D + 1, S, d + 1, w, o1, k1, n1, nm1, fl1, lp1, ln1, lc1, p1, t, l, ⟨nd, ts, ls, e1, har, hlen, hsub, hN⟩, hl, ea => by
    obtain ⟨q1, q2⟩ := nl_le hN
    subst e1
    obtain ⟨nd', e0, rfl, rfl, rfl, rfl, rfl, rfl, hs⟩ := ea.kids
    obtain rfl : nd = nd' := Option.some.inj e0
    clear e0 ea
    have leaf : ts = [] → lp1 = none ∧ ln1 = 0 ∧ lc1 = 0 := fun e => by
      rcases hs with ⟨_, a, b, c⟩ | ⟨g, _, _, z, _⟩
      · exact ⟨a, b, c⟩
      · rw [e] at har; rw [har] at z; exact absurd z (by decide)
    have kids : 0 < ts.length → ∃ g, lp1 = some ⟨g, 0, none⟩ ∧ ln1 = ts.length ∧ g < w.heap.size ∧ ∀ j a b, ts[j]? = some a → ls[j]? = some b → ∃ (o1 k1 n1 : Int) (nm1 fl1 : ByteArray) (lp1 : Option Addr) (ln1 lc1 : Nat) (p1 : Int), RowE w g j o1 k1 n1 nm1 fl1 (.slice lp1 ln1 lc1) p1 ∧ (∀ W, Below w.heap.size w W → Calls Tryz.prog 9 #[.agg #[.int .i64 o1, .int .i64 k1, .int .i64 n1, .string nm1, .string fl1, .slice lp1 ln1 lc1, .int .i64 p1]] W fun e w' => e = .returned (.string (tx b)) ∧ Below W.heap.size W w') := fun e => by
      rcases hs with ⟨z, _⟩ | ⟨g, z1, z2, z3, z4, z5, z6, z7⟩
      · omega
      · refine ⟨g, z1, by rw [z2, har], z6, fun j a b ha hb => ?_⟩
        have hj : j < nd.ar := by
          rw [har]
          by_cases z : j < ts.length
          · exact z
          · rw [List.getElem?_eq_none (by omega)] at ha; cases ha
        obtain ⟨o1, k1, n1, nm1, fl1, lp1, ln1, lc1, p1, r, ek⟩ := z7 j hj
        rw [mkT_at ha] at ek
        exact ⟨o1, k1, n1, nm1, fl1, lp1, ln1, lc1, p1, r, fun W hW => print_c D S d W _ _ _ _ _ _ _ _ _ a b (hsub j a b ha hb) (Nat.le_trans (q2 j b hb) hl) (ek.below hW)⟩
    clear hs
    obtain ⟨op, kind, n, name, field, pl, ar⟩ := nd
    have har : ar = ts.length := har
    rcases hN with ⟨a1, a2, a3, a4, a5, a6⟩ | ⟨a1, a2, a3, a4, a5⟩ | ⟨a1, a2, a3, a4, a5, x, a6, a7⟩ | ⟨a1, a2, a3, a4, a5, x, r, a6, a7⟩ | ⟨a1, a2, a3, a4, a5, a6, x, y, a7, a8⟩
    · have a1 : op = 1 := a1
      have a5 : Lit kind n := a5
      have a6 : l = ltx kind n := a6
      subst a1
      rw [a6]
      obtain ⟨b1, b2, b3, b4⟩ : kind ≤ 11 ∧ -2147483648 ≤ n ∧ n ≤ 4294967295 ∧ (n < 0 → 1 ≤ kind ∧ klo kind < 0) := lit_range a5
      unfold ltx
      by_cases h11 : kind = 11
      · subst h11
        rw [if_pos rfl]
        by_cases hn : n < 0
        · rw [if_pos hn]
          have q := print_tn (-n).toNat (by omega) (by omega) (tx name) (tx field) lp1 ln1 lc1 pl w
          rw [show -(((-n).toNat : Nat) : Int) = n by omega] at q
          exact q
        · rw [if_neg hn]
          have q := print_tp n.toNat (by omega) (by omega) (tx name) (tx field) lp1 ln1 lc1 pl w
          rw [show ((n.toNat : Nat) : Int) = n by omega] at q
          exact q
      · rw [if_neg h11]
        by_cases hn : n < 0
        · rw [if_pos hn]
          have q := print_ln kind (by omega) (-n).toNat (by omega) (by omega) (tx name) (tx field) lp1 ln1 lc1 pl w
          rw [show -(((-n).toNat : Nat) : Int) = n by omega] at q
          exact q
        · rw [if_neg hn]
          have q := print_lp kind (by omega) n.toNat (by omega) (by omega) (tx name) (tx field) lp1 ln1 lc1 pl w
          rw [show ((n.toNat : Nat) : Int) = n by omega] at q
          exact q
    · have a1 : op = 2 := a1
      have a2 : kind = 0 := a2
      have a3 : n = 0 := a3
      have a4 : IsN name := a4
      subst a1 a2 a3
      rcases a5 with ⟨b1, b2, b3⟩ | ⟨b1, b2, b3⟩ | ⟨x, b1, b2, b3⟩
      · have b2 : field = [] := b2
        have b3 : l = name := b3
        subst b1 b2 b3
        obtain ⟨rfl, rfl, rfl⟩ := leaf (List.length_eq_zero_iff.1 hlen.symm)
        exact print_name (tx l) pl w
      · have b2 : IsN field := b2
        subst b1
        rw [b3]
        obtain ⟨rfl, rfl, rfl⟩ := leaf (List.length_eq_zero_iff.1 hlen.symm)
        obtain ⟨c, r, e, _⟩ := b2.c
        exact print_field name field a4.z b2.z (by rw [e]; simp) pl w
      · have b2 : field = [] := b2
        subst b1 b2
        rw [b3]
        obtain ⟨t, rfl⟩ : ∃ t, ts = [t] := List.length_eq_one_iff.1 hlen.symm
        obtain ⟨g, rfl, rfl, hg, hk⟩ := kids (by simp)
        obtain ⟨o2, k2, n2, nm2, fl2, lp2, ln2, lc2, p2, r, C⟩ := hk 0 t x rfl rfl
        exact print_index w g lc1 pl _ _ _ _ _ _ _ _ _ name x hg r (hid_as C) a4.z (by have := q2 0 x rfl; omega)
    · have a1 : op = 3 ∨ op = 4 := a1
      have a2 : kind = 0 := a2
      have a3 : n = 0 := a3
      have a4 : name = [] := a4
      have a5 : field = [] := a5
      subst a2 a3 a4 a5 a6
      rw [a7]
      obtain ⟨t, rfl⟩ : ∃ t, ts = [t] := List.length_eq_one_iff.1 hlen.symm
      obtain ⟨g, rfl, rfl, hg, hk⟩ := kids (by simp)
      obtain ⟨o2, k2, n2, nm2, fl2, lp2, ln2, lc2, p2, r, C⟩ := hk 0 t x rfl rfl
      have hx := q2 0 x rfl
      rcases a1 with rfl | rfl
      · exact print_neg w g lc1 1 pl _ _ _ _ _ _ _ _ _ x (by decide) hg r (hid_as C) (by omega)
      · exact print_not w g lc1 1 pl _ _ _ _ _ _ _ _ _ x (by decide) hg r (hid_as C) (by omega)
    · have a1 : op = 19 := a1
      have a2 : kind = 0 := a2
      have a3 : n = 0 := a3
      have a4 : field = [] := a4
      have a5 : IsN name := a5
      have e7 : l = name ++ [40] ++ jn (x :: r) ++ [41] := by rw [a7]; simp [jn]
      clear a7
      subst a1 a2 a3 a4
      have hls : 0 < ls.length := by rw [a6]; simp
      obtain ⟨g, rfl, rfl, hg, hk⟩ := kids (by omega)
      rw [e7]
      rw [← a6]
      refine print_call w g lc1 ts.length pl name ls hlen (by omega) (by omega) hg (hid_as fun j hj => ?_) (by rw [a6, ← e7]; omega)
      have hj2 : j < ls.length := by omega
      obtain ⟨o2, k2, n2, nm2, fl2, lp2, ln2, lc2, p2, z, C⟩ := hk j _ _ (List.getElem?_eq_getElem hj) (List.getElem?_eq_getElem hj2)
      refine ⟨o2, k2, n2, nm2, fl2, lp2, ln2, lc2, p2, z, ?_⟩
      rw [List.getD_eq_getElem?_getD, List.getElem?_eq_getElem hj2]
      exact C
    · have a1 : 5 ≤ op := a1
      have a2 : op ≤ 18 := a2
      have a3 : kind = 0 := a3
      have a4 : n = 0 := a4
      have a5 : name = [] := a5
      have a6 : field = [] := a6
      obtain ⟨q, rfl⟩ : ∃ q, op = q + 5 := ⟨op - 5, by omega⟩
      subst a3 a4 a5 a6 a7
      rw [a8]
      obtain ⟨t, u, rfl⟩ : ∃ t u, ts = [t, u] := by
        match ts, hlen with
        | [t, u], _ => exact ⟨t, u, rfl⟩
      obtain ⟨g, rfl, rfl, hg, hk⟩ := kids (by simp)
      obtain ⟨o2, k2, n2, nm2, fl2, lp2, ln2, lc2, p2, r, C⟩ := hk 0 t x rfl rfl
      obtain ⟨o3, k3, n3, nm3, fl3, lp3, ln3, lc3, p3, r', C'⟩ := hk 1 u y rfl rfl
      have hx := q2 0 x rfl
      have hy := q2 1 y rfl
      exact print_bin w q g lc1 2 pl _ _ _ _ _ _ _ _ _ _ _ _ _ _ _ _ _ _ x y (by omega) (by decide) hg r r' (hid_as C) (hid_as C') (by omega) (by omega)
end Go.Proofs.YtgdoanhemgklpaaGreatDoor
