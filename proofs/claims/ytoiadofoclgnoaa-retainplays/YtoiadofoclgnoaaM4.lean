/- What is read of a block that was written, torn or spoilt, in plain mathematics (stage 9). -/
import Derived.Test.YtoiadofoclgnoaaJ4
namespace Go.Proofs.Ytoiadofoclgnoaa
open Go.RowKit
open Pdu
theorem getD_left {l m : List Nat} {i : Nat} (h : i < l.length) : (l ++ m).getD i 0 = l.getD i 0 := by
  rw [List.getD_eq_getElem?_getD, List.getElem?_append_left h, List.getD_eq_getElem?_getD]
theorem getD_right {l m : List Nat} {i : Nat} (h : l.length ≤ i) : (l ++ m).getD i 0 = m.getD (i - l.length) 0 := by
  rw [List.getD_eq_getElem?_getD, List.getElem?_append_right h, List.getD_eq_getElem?_getD]
theorem set_two (a b c d k : Nat) (P : List Nat) : stm (a :: b :: (P ++ [c, d])) k = k :: k :: (P ++ [k, k]) := by
  unfold stm
  have hl : (a :: b :: (P ++ [c, d])).length = P.length + 4 := by simp
  rw [hl, show P.length + 4 - 2 = P.length + 1 + 1 by omega, show P.length + 4 - 1 = P.length + 1 + 1 + 1 by omega]
  simp only [List.set_cons_zero, List.set_cons_succ]
  rw [List.set_append_right _ _ (by omega), Nat.sub_self, List.set_cons_zero, List.set_append_right _ _ (by omega), show P.length + 1 - P.length = 1 by omega]
  rfl
theorem stm_stm {l : List Nat} (h : 4 ≤ l.length) (j k : Nat) : stm (stm l j) k = stm l k := by
  obtain ⟨a, b, P, c, d, rfl⟩ : ∃ a b P c d, l = a :: b :: (P ++ [c, d]) := by
    match l, h with
    | a :: b :: r, h =>
      refine ⟨a, b, r.take (r.length - 2), r.getD (r.length - 2) 0, r.getD (r.length - 1) 0, ?_⟩
      simp only [List.length_cons] at h
      congr 2
      conv => lhs; rw [← List.take_append_drop (r.length - 2) r]
      congr 1
      rw [List.drop_eq_getElem_cons (by omega), List.drop_eq_getElem_cons (by omega), List.drop_eq_nil_of_le (by omega)]
      rw [List.getD_eq_getElem?_getD, List.getElem?_eq_getElem (by omega), List.getD_eq_getElem?_getD, List.getElem?_eq_getElem (by omega)]
      simp only [Option.getD_some]
      congr 2
      simp only [show r.length - 2 + 1 = r.length - 1 by omega]
  rw [set_two, set_two, set_two]
/-- The body's sum. -/
def sgm (sz t s : Nat) (l : List Int) : Nat := s32 (bd t s l.length l ++ zs (sz - 36 - 8 * l.length))
theorem pk_is {sz t s : Nat} {l : List Int} (h : 36 + 8 * l.length ≤ sz) : pk sz t s l = 0 :: 0 :: (((bd t s l.length l ++ zs (sz - 36 - 8 * l.length)) ++ be8 (sgm sz t s l)) ++ [0, 0]) := by
  obtain ⟨m, hm⟩ : ∃ m, m = sz - 36 - 8 * l.length := ⟨_, rfl⟩
  have hb := bd_len t s l.length l
  have e1 : fl sz (bd t s l.length l) = 0 :: 0 :: ((bd t s l.length l ++ zs m) ++ zs 10) := by
    unfold fl
    rw [hb, show sz - 2 - (24 + 8 * l.length) = m + 10 by omega, List.append_assoc]
    congr 3
    simp only [zs]
    rw [List.replicate_append_replicate]
  have e2 : bsum (fl sz (bd t s l.length l)) = sgm sz t s l := by
    unfold bsum sgm
    rw [fl_len (by omega), e1, ← hm]
    congr 1
    show (((bd t s l.length l ++ zs m) ++ zs 10)).take (sz - 12) = _
    rw [List.take_left' (by rw [List.length_append, hb, zs_len]; omega)]
  unfold pk
  rw [e2, e1, show sz - 10 = 2 + (bd t s l.length l ++ zs m).length by rw [List.length_append, hb, zs_len]; omega, splice_cons, splice_mid, ← hm, be8_len]
  simp only [List.append_assoc]
  rfl
theorem stm_is {sz t s : Nat} {l : List Int} (h : 36 + 8 * l.length ≤ sz) (k : Nat) : stm (pk sz t s l) k = k :: k :: (((bd t s l.length l ++ zs (sz - 36 - 8 * l.length)) ++ be8 (sgm sz t s l)) ++ [k, k]) := by
  rw [pk_is h, set_two]
theorem pk_len {sz t s : Nat} {l : List Int} (h : 36 + 8 * l.length ≤ sz) : (pk sz t s l).length = sz := by
  rw [pk_is h]
  simp only [List.length_cons, List.length_append, bd_len, zs_len, be8_len, List.length_nil]
  omega
theorem pk_bytes {sz t s : Nat} {l : List Int} (h : 36 + 8 * l.length ≤ sz) : Bytes (pk sz t s l) := by
  rw [pk_is h]
  exact Bytes.cons (by decide) (Bytes.cons (by decide) ((((bd_bytes _ _ _ _).app (zs_bytes _)).app (be8_bytes _)).app (by intro x hx; simp at hx; omega)))
theorem gv_at {X Y : List Nat} {x a : Nat} (ha : a = X.length) (hx : x < 18446744073709551616) : gv (X ++ (be8 x ++ Y)) a = x := by
  subst ha
  unfold gv
  rw [List.drop_left' rfl, List.take_left' (be8_len x), fold8_be8 hx]
theorem ends_of (k : Nat) (P : List Nat) : e0 (k :: k :: (P ++ [k, k])) = k ∧ e1 (k :: k :: (P ++ [k, k])) = k ∧ e2 (k :: k :: (P ++ [k, k])) = k ∧ e3 (k :: k :: (P ++ [k, k])) = k := by
  have hl : (k :: k :: (P ++ [k, k])).length = P.length + 4 := by simp
  refine ⟨rfl, rfl, ?_, ?_⟩
  · unfold e2
    rw [hl, show P.length + 4 - 2 = P.length + 1 + 1 by omega, List.getD_cons_succ, List.getD_cons_succ, getD_right (Nat.le_refl _), Nat.sub_self]
    rfl
  · unfold e3
    rw [hl, show P.length + 4 - 1 = P.length + 1 + 1 + 1 by omega, List.getD_cons_succ, List.getD_cons_succ, getD_right (by omega), show P.length + 1 - P.length = 1 by omega]
    rfl
theorem nmb_app (a b : List Int) : nmb (a ++ b) = nmb a ++ nmb b := by simp [nmb]
theorem nmb_split {l : List Int} {i : Nat} (h : i < l.length) : nmb l = nmb (l.take i) ++ (be8 (nm (l.getD i 0)) ++ nmb (l.drop (i + 1))) := by
  conv => lhs; rw [← List.take_append_drop i l, nmb_app]
  congr 1
  rw [List.drop_eq_getElem_cons h, List.getD_eq_getElem?_getD, List.getElem?_eq_getElem h]
  rfl
/-- What was written whole is read again. -/
theorem unp_pk {sz t s k : Nat} {l : List Int} (h : 36 + 8 * l.length ≤ sz) (hm : sz ≤ 4096) (hI : Ints l) (ht : t < 18446744073709551616) (hs : s < 18446744073709551616) (hk : k ≠ 0) : unp (stm (pk sz t s l) k) = ⟨t, s, l⟩ := by
  have hlen : (stm (pk sz t s l) k).length = sz := by rw [stm_len, pk_len h]
  have hb := bd_len t s l.length l
  obtain ⟨m, hmm⟩ : ∃ m, m = sz - 36 - 8 * l.length := ⟨_, rfl⟩
  have hsg : sgm sz t s l < 18446744073709551616 := Nat.lt_trans (s32_lt ((bd_bytes _ _ _ _).app (zs_bytes _))) (by decide)
  have E := stm_is (t := t) (s := s) h k
  have hends := ends_of k ((bd t s l.length l ++ zs (sz - 36 - 8 * l.length)) ++ be8 (sgm sz t s l))
  rw [← E] at hends
  have g1 : gv (stm (pk sz t s l) k) (sz - 10) = sgm sz t s l := by
    rw [E, ← hmm]
    have := gv_at (X := k :: k :: (bd t s l.length l ++ zs m)) (Y := [k, k]) (a := sz - 10) (x := sgm sz t s l) (by simp only [List.length_cons, List.length_append, hb, zs_len]; omega) hsg
    simpa [List.append_assoc] using this
  have g2 : bsum (stm (pk sz t s l) k) = sgm sz t s l := by
    unfold bsum sgm
    rw [hlen, E, ← hmm]
    congr 1
    show (((bd t s l.length l ++ zs m) ++ be8 (sgm sz t s l)) ++ [k, k]).take (sz - 12) = _
    rw [List.append_assoc, List.take_left' (by rw [List.length_append, hb, zs_len]; omega)]
  have g3 : gv (stm (pk sz t s l) k) 2 = t := by
    rw [E]
    have := gv_at (X := [k, k]) (Y := be8 s ++ (be8 l.length ++ (nmb l ++ (zs (sz - 36 - 8 * l.length) ++ (be8 (sgm sz t s l) ++ [k, k]))))) (a := 2) (x := t) rfl ht
    simpa [List.append_assoc, bd] using this
  have g4 : gv (stm (pk sz t s l) k) 10 = s := by
    rw [E]
    have := gv_at (X := k :: k :: be8 t) (Y := be8 l.length ++ (nmb l ++ (zs (sz - 36 - 8 * l.length) ++ (be8 (sgm sz t s l) ++ [k, k])))) (a := 10) (x := s) (by simp [be8_len]) hs
    simpa [List.append_assoc, bd] using this
  have g5 : gv (stm (pk sz t s l) k) 18 = l.length := by
    rw [E]
    have := gv_at (X := k :: k :: (be8 t ++ be8 s)) (Y := nmb l ++ (zs (sz - 36 - 8 * l.length) ++ (be8 (sgm sz t s l) ++ [k, k]))) (a := 18) (x := l.length) (by simp [be8_len]) (by omega)
    simpa [List.append_assoc, bd] using this
  have g6 : ∀ i, i < l.length → gv (stm (pk sz t s l) k) (26 + i * 8) = nm (l.getD i 0) := by
    intro i hi
    rw [E]
    have hti : (nmb (l.take i)).length = 8 * i := by rw [nmb_len, List.length_take]; omega
    have := gv_at (X := k :: k :: (be8 t ++ (be8 s ++ (be8 l.length ++ nmb (l.take i))))) (Y := nmb (l.drop (i + 1)) ++ (zs (sz - 36 - 8 * l.length) ++ (be8 (sgm sz t s l) ++ [k, k]))) (a := 26 + i * 8) (x := nm (l.getD i 0)) (by simp [be8_len, hti]; omega) (nm_lt _)
    rw [show bd t s l.length l = be8 t ++ (be8 s ++ (be8 l.length ++ nmb l)) from rfl, nmb_split hi]
    simpa [List.append_assoc] using this
  have g7 : nums (stm (pk sz t s l) k) l.length = l := by
    apply List.ext_getElem
    · rw [nums_len]
    · intro i h1 h2
      simp only [nums, List.getElem_map, List.getElem_range]
      rw [g6 i h2]
      have := hI.at i
      rw [sg_nm this.1 this.2, List.getD_eq_getElem?_getD, List.getElem?_eq_getElem h2]
      rfl
  unfold unp
  rw [if_pos, g3, g4, g5, g7]
  refine ⟨⟨by rw [hends.1]; exact hk, by rw [hends.1, hends.2.1], by rw [hends.1, hends.2.2.1], by rw [hends.1, hends.2.2.2]⟩, by rw [hlen, g1, g2], ?_⟩
  rw [hlen, g5]
  omega
/-- A write that tore is no record. -/
theorem unp_torn {b old : List Nat} {k c : Nat} (hl : b.length = old.length) (h4 : 4 ≤ b.length) (h0 : e0 b = k) (h3 : k ≠ e3 old) (hc0 : 0 < c) (hc : c < b.length) : unp (b.take c ++ old.drop c) = r0 := by
  refine unp_no (fun q => ?_)
  have q1 := q.1
  obtain ⟨_, _, _, q4⟩ := q1
  have hlen : (b.take c ++ old.drop c).length = old.length := by rw [List.length_append, List.length_take, List.length_drop]; omega
  have x0 : e0 (b.take c ++ old.drop c) = k := by
    rw [← h0]
    unfold e0
    rw [getD_left (by rw [List.length_take]; omega), List.getD_eq_getElem?_getD, List.getElem?_take, if_pos hc0, List.getD_eq_getElem?_getD]
  have x3 : e3 (b.take c ++ old.drop c) = e3 old := by
    unfold e3
    rw [hlen, getD_right (by rw [List.length_take]; omega), List.length_take, Nat.min_eq_left (Nat.le_of_lt hc), getD_drop, show c + (old.length - 1 - c) = old.length - 1 by omega]
  rw [x0, x3] at q4
  exact h3 q4.symm
/- One byte spoilt. -/
theorem xr_xor {a x : Nat} (ha : a < 256) (hx : x < 256) : xr a x = a ^^^ x := by
  have h := xr_is a x
  have e : bits .xor .u8 (a : Int) (x : Int) = ((a ^^^ x : Nat) : Int) := by
    show IntKind.u8.wrap ((BitVec.ofInt 8 (a : Int) ^^^ BitVec.ofInt 8 (x : Int)).toNat : Int) = _
    have h : (BitVec.ofInt 8 (a : Int) ^^^ BitVec.ofInt 8 (x : Int)).toNat = a ^^^ x := by
      rw [BitVec.toNat_xor, BitVec.ofInt_natCast, BitVec.toNat_ofNat, BitVec.ofInt_natCast, BitVec.toNat_ofNat, Nat.mod_eq_of_lt ha, Nat.mod_eq_of_lt hx]
    have hlt : a ^^^ x < 2 ^ 8 := Nat.xor_lt_two_pow ha hx
    rw [h, IntKind.wrap_u8]
    omega
  rw [e] at h
  omega
theorem xor_ne {a x : Nat} (hx : x ≠ 0) : a ^^^ x ≠ a := by
  intro h
  have := congrArg (a ^^^ ·) h
  simp only [← Nat.xor_assoc, Nat.xor_self, Nat.zero_xor] at this
  exact hx this
theorem getD_set (l : List Nat) (i j x : Nat) (hi : i < l.length) : (l.set i x).getD j 0 = if i = j then x else l.getD j 0 := by
  rw [List.getD_eq_getElem?_getD, List.getElem?_set]
  by_cases h : i = j
  · subst h
    simp [hi]
  · simp [h, List.getD_eq_getElem?_getD]
theorem fold8_inj {a b : List Nat} (ha : Bytes a) (hb : Bytes b) (hl : a.length = b.length) (h : fold8 a = fold8 b) : a = b := by
  have key : ∀ (n : Nat) (a b : List Nat), a.length = n → b.length = n → Bytes a → Bytes b → fold8 a = fold8 b → a = b := by
    intro n
    induction n with
    | zero =>
      intro a b h1 h2 _ _ _
      rw [List.length_eq_zero_iff.1 h1, List.length_eq_zero_iff.1 h2]
    | succ n ih =>
      intro a b h1 h2 ha hb h
      have ea : a = a.take n ++ [a.getD n 0] := by rw [← take_snoc (by omega), List.take_of_length_le (by omega)]
      have eb : b = b.take n ++ [b.getD n 0] := by rw [← take_snoc (by omega), List.take_of_length_le (by omega)]
      rw [ea, eb, fold8_snoc, fold8_snoc] at h
      have x1 := ha.at n
      have x2 := hb.at n
      have y1 : a.getD n 0 = b.getD n 0 := by omega
      have y2 := ih (a.take n) (b.take n) (by rw [List.length_take]; omega) (by rw [List.length_take]; omega) (ha.take n) (hb.take n) (by omega)
      rw [ea, eb, y1, y2]
  exact key _ a b rfl hl.symm ha hb h
/-- A record with one byte spoilt is none. -/
theorem unp_spoilt {l : List Nat} {j x : Nat} (hB : Bytes l) (h64 : 64 ≤ l.length) (hw : same4 l) (hsum : gv l (l.length - 10) = bsum l) (hj : j < l.length) (hx0 : x ≠ 0) (hx : x < 256) : unp (l.set j (xr (l.getD j 0) x)) = r0 := by
  have hv : xr (l.getD j 0) x = l.getD j 0 ^^^ x := xr_xor (hB.at j) hx
  have hne : l.getD j 0 ^^^ x ≠ l.getD j 0 := xor_ne hx0
  rw [hv]
  refine unp_no (fun q => ?_)
  obtain ⟨⟨q0, q1, q2, q3⟩, q4, _⟩ := q
  obtain ⟨w0, w1, w2, w3⟩ := hw
  simp only [e0, e1, e2, e3] at q0 q1 q2 q3 w0 w1 w2 w3
  simp only [List.length_set, getD_set l j _ _ hj] at q0 q1 q2 q3
  by_cases j0 : j = 0
  · subst j0
    rw [if_neg (by decide), if_pos rfl] at q1
    rw [w1] at q1
    exact hne q1.symm
  · rw [if_neg j0] at q0 q1 q2 q3
    by_cases j1 : j = 1
    · subst j1
      rw [if_pos rfl] at q1
      rw [w1] at q1 hne
      exact hne q1
    · by_cases j2 : j = l.length - 2
      · subst j2
        rw [if_pos rfl] at q2
        rw [w2] at q2 hne
        exact hne q2
      · by_cases j3 : j = l.length - 1
        · subst j3
          rw [if_pos rfl] at q3
          rw [w3] at q3 hne
          exact hne q3
        · rw [List.length_set] at q4
          by_cases jm : j < l.length - 10
          · have a1 : gv (l.set j (l.getD j 0 ^^^ x)) (l.length - 10) = gv l (l.length - 10) := by
              unfold gv
              rw [List.drop_set_of_lt jm]
            have a2 : bsum (l.set j (l.getD j 0 ^^^ x)) = s32 (((l.drop 2).take (l.length - 12)).set (j - 2) (((l.drop 2).take (l.length - 12)).getD (j - 2) 0 ^^^ x)) := by
              unfold bsum
              congr 1
              have e : ((l.drop 2).take (l.length - 12)).getD (j - 2) 0 = l.getD j 0 := by
                rw [List.getD_eq_getElem?_getD, List.getElem?_take, if_pos (by omega), List.getElem?_drop, show 2 + (j - 2) = j by omega, List.getD_eq_getElem?_getD]
              rw [e, List.length_set, List.drop_set, if_neg (by omega), List.take_set]
            rw [a1, a2, hsum] at q4
            exact s32_tells (bs := (l.drop 2).take (l.length - 12)) (j := j - 2) (by rw [List.length_take, List.length_drop]; omega) hx0 hx q4.symm
          · have a2 : bsum (l.set j (l.getD j 0 ^^^ x)) = bsum l := by
              unfold bsum
              rw [List.length_set, List.drop_set, if_neg (by omega), List.take_set_of_le (by omega)]
            rw [a2, ← hsum] at q4
            unfold gv at q4
            have hBs : Bytes (l.set j (l.getD j 0 ^^^ x)) := bytes_set hB _ (Nat.xor_lt_two_pow (n := 8) (hB.at j) hx)
            have q5 := fold8_inj ((hBs.drop _).take 8) ((hB.drop (l.length - 10)).take 8) (by simp) q4
            have q6 := congrArg (fun z : List Nat => z.getD (j - (l.length - 10)) 0) q5
            simp only [List.getD_eq_getElem?_getD, List.getElem?_take, List.getElem?_drop] at q6
            rw [if_pos (by omega), if_pos (by omega), show l.length - 10 + (j - (l.length - 10)) = j by omega, List.getElem?_set, if_pos rfl, if_pos hj] at q6
            simp only [Option.getD_some, ← List.getD_eq_getElem?_getD] at q6
            exact hne q6
end Go.Proofs.Ytoiadofoclgnoaa
