/- The reference's token, whole; how far it reaches (stage 12). · The reference's Tokens, of a text without blanks and comments (stage 12). · Plain mathematics of LexBlanks: pieces, blanks between them, and what is told of them (stage 12). -/
import Derived.Test.YtnponognncdkcaaDoorJ4
import Derived.Test.YtnponognncdkcaaDoorRQ
import Derived.Test.YtnponognncdkcaaDoorRS
import Derived.Test.YtnponognncdkcaaDoorWE
namespace Go.Proofs.YtnponognncdkcaaDoor
open Go.RowKit
open Adr Lx
theorem ext_list {s : ByteArray} {a k : Nat} : (s.extract a (a + k)).data.toList = (s.data.toList.drop a).take k := by rw [← Lib.toList_data, ext_take]
theorem plain_way (w : List UInt8) : ((w == [84, 82, 85, 69]) = true ∧ okR (plainW w) = some (tru 1, w.length)) ∨ ((w == [84, 82, 85, 69]) = false ∧ (((w == [70, 65, 76, 83, 69]) = true ∧ okR (plainW w) = some (tru 0, w.length)) ∨ ((w == [70, 65, 76, 83, 69]) = false ∧ ((wrd w = true ∧ okR (plainW w) = some (⟨1, 0, 0, w⟩, w.length)) ∨ (wrd w = false ∧ ((32 < w.length ∧ okR (plainW w) = none) ∨ (¬ 32 < w.length ∧ okR (plainW w) = some (⟨2, 0, 0, w⟩, w.length)))))))) := by
  unfold plainW
  cases h1 : (w == [84, 82, 85, 69]) with
  | true => left; rw [if_pos rfl]; exact ⟨rfl, rfl⟩
  | false =>
    right
    rw [if_neg Bool.false_ne_true]
    refine ⟨rfl, ?_⟩
    cases h2 : (w == [70, 65, 76, 83, 69]) with
    | true => left; rw [if_pos rfl]; exact ⟨rfl, rfl⟩
    | false =>
      right
      rw [if_neg Bool.false_ne_true]
      refine ⟨rfl, ?_⟩
      cases h3 : wrd w with
      | true => left; rw [if_pos rfl]; exact ⟨rfl, rfl⟩
      | false =>
        right
        rw [if_neg Bool.false_ne_true]
        refine ⟨rfl, ?_⟩
        by_cases h4 : 32 < w.length
        · left; rw [if_pos h4]; exact ⟨h4, rfl⟩
        · right; rw [if_neg h4]; exact ⟨h4, rfl⟩
theorem token_word (s : ByteArray) (g a : Nat) (w : World) (h : Sc w g s a) (ha : a < s.size) (hs : s.size ≤ 65535) (hl : isL (chr s a) = true) : Calls Tryd.prog 35 #[.pointer (some ⟨g, 0, none⟩)] w fun e w' => RT g s a a (rwd (s.size + 1) (s.data.toList.drop a)) w e w' := by
  have hz0 := cz_le inW (s.data.toList.drop a)
  rw [List.length_drop, ← Lib.size_eq] at hz0
  unfold rwd
  generalize hz : cz inW (s.data.toList.drop a) = k at *
  have hk : a + k ≤ s.size := by omega
  have hwl : ((s.data.toList.drop a).take k).length = k := by rw [List.length_take, List.length_drop, ← Lib.size_eq]; omega
  have eT : ∀ p : List UInt8, ((s.data.toList.drop a).take k == p) = ((s.extract a (a + k)).toList == p) := fun p => by rw [ext_take]
  have hh := hp_chr s (a + k) 35 (by decide)
  rw [List.drop_drop, hh]
  have pl : ∀ b, (b = true → ((s.extract a (a + k)).toList == [84]) = false ∧ kf (s.extract a (a + k)).data.toList = 0) → (((chr s (a + k)).toNat : Int) == ((35 : UInt8).toNat : Int)) = b → Calls Tryd.prog 35 #[.pointer (some ⟨g, 0, none⟩)] w fun e w' => RT g s a a (okR (plainW ((s.data.toList.drop a).take k))) w e w' := by
    intro b hb hc
    have W := plain_way ((s.data.toList.drop a).take k)
    rw [hwl] at W
    simp only [eT] at W
    rw [show wrd ((s.data.toList.drop a).take k) = wrd (s.extract a (a + k)).data.toList by rw [ext_list]] at W
    cases b with
    | false =>
      rcases W with ⟨q1, e⟩ | ⟨q1, ⟨q2, e⟩ | ⟨q2, ⟨q3, e⟩ | ⟨q3, ⟨q4, e⟩ | ⟨q4, e⟩⟩⟩⟩
      · rw [e]; exact tokPn_true s g a k w h ha (by omega) hk hl hz hc q1
      · rw [e]; exact tokPn_false s g a k w h ha (by omega) hk hl hz hc q1 q2
      · rw [e]; exact tokPn_word s g a k w h ha (by omega) hk hl hz hc q1 q2 q3
      · rw [e]; exact tokPn_big s g a k w h ha (by omega) hk hl hz hc q1 q2 q3 q4
      · rw [e]; exact tokPn_name s g a k w h ha (by omega) hk hl hz hc q1 q2 q3 q4
    | true =>
      obtain ⟨hT, h0⟩ := hb rfl
      rcases W with ⟨q1, e⟩ | ⟨q1, ⟨q2, e⟩ | ⟨q2, ⟨q3, e⟩ | ⟨q3, ⟨q4, e⟩ | ⟨q4, e⟩⟩⟩⟩
      · rw [e]; exact tokPh_true s g a k w h ha (by omega) hk hl hz hc hT h0 q1
      · rw [e]; exact tokPh_false s g a k w h ha (by omega) hk hl hz hc hT h0 q1 q2
      · rw [e]; exact tokPh_word s g a k w h ha (by omega) hk hl hz hc hT h0 q1 q2 q3
      · rw [e]; exact tokPh_big s g a k w h ha (by omega) hk hl hz hc hT h0 q1 q2 q3 q4
      · rw [e]; exact tokPh_name s g a k w h ha (by omega) hk hl hz hc hT h0 q1 q2 q3 q4
  cases hc : (((chr s (a + k)).toNat : Int) == ((35 : UInt8).toNat : Int)) with
  | false =>
    rw [Bool.false_and, if_neg Bool.false_ne_true]
    exact pl false (fun e => by cases e) hc
  | true =>
    rw [Bool.true_and, eT]
    have hlt : a + k < s.size := chr_lt (fun e => by rw [e] at hc; exact absurd hc (by decide))
    have TY := fun V q hW => typed_r s g (a + k + 1) a (s.extract a (a + k)) V q (by omega) (by omega) hW
    rw [show kf ((s.data.toList.drop a).take k) = kf (s.extract a (a + k)).data.toList by rw [ext_list], show kT ((s.data.toList.drop a).take k) = kT (s.extract a (a + k)).data.toList by rw [ext_list], List.drop_drop, show a + (k + 1) = a + k + 1 by omega]
    cases hT : ((s.extract a (a + k)).toList == [84]) with
    | true =>
      rw [Bool.true_or, if_pos rfl]
      have hW : ¬ kT (s.extract a (a + k)).data.toList = 0 := by rw [kT_eq, hT, if_pos rfl]; decide
      replace TY := fun V q => TY V q hW
      cases ho : rty (s.size + 1) (kT (s.extract a (a + k)).data.toList) (s.data.toList.drop (a + k + 1)) with
      | none => rw [ho] at TY; exact tokW_T_none s g a k w h ha (by omega) hk hl hz hc hT TY
      | some q => rw [ho] at TY; exact tokW_T_some s g a k w h ha (by omega) hk hl hz hc hT q.1 q.2 TY
    | false =>
      by_cases h0 : kf (s.extract a (a + k)).data.toList = 0
      · rw [decide_eq_true h0, Bool.false_or, Bool.not_true, if_neg Bool.false_ne_true]
        exact pl true (fun _ => ⟨hT, h0⟩) hc
      · rw [decide_eq_false h0, Bool.not_false, Bool.or_true, if_pos rfl]
        have hW : ¬ kT (s.extract a (a + k)).data.toList = 0 := by rw [kT_eq, hT, if_neg Bool.false_ne_true]; exact h0
        replace TY := fun V q => TY V q hW
        cases ho : rty (s.size + 1) (kT (s.extract a (a + k)).data.toList) (s.data.toList.drop (a + k + 1)) with
        | none => rw [ho] at TY; exact tokW_K_none s g a k w h ha (by omega) hk hl hz hc hT _ rfl h0 TY
        | some q => rw [ho] at TY; exact tokW_K_some s g a k w h ha (by omega) hk hl hz hc hT _ rfl h0 q.1 q.2 TY
theorem token_r (s : ByteArray) (g a : Nat) (w : World) (h : Sc w g s a) (ha : a < s.size) (hs : s.size ≤ 2000) : Calls Tryd.prog 35 #[.pointer (some ⟨g, 0, none⟩)] w fun e w' => RT g s a a (rnx (s.size + 1) (s.data.toList.drop a)) w e w' := by
  have hcd := chr_drop ha
  have e : rnx (s.size + 1) (s.data.toList.drop a) = if isL (chr s a) then rwd (s.size + 1) (s.data.toList.drop a) else if dgt (chr s a) then rug (s.data.toList.drop a) else if decide ((chr s a).toNat = 37) then okR (adR (s.data.toList.drop a)) else okR (sgR (s.data.toList.drop a)) := by rw [hcd, rnx_cons]
  rw [e]
  cases hl : isL (chr s a) with
  | true => rw [if_pos rfl]; exact token_word s g a w h ha (by omega) hl
  | false =>
    rw [if_neg Bool.false_ne_true]
    cases hd : dgt (chr s a) with
    | true =>
      rw [if_pos rfl]
      have hnm : ∀ V, Sc V g s a → Calls Tryd.prog 54 #[.pointer (some ⟨g, 0, none⟩)] V fun e w' => e = .returned (.tuple #[.int .i64 ((rnm (s.data.toList.drop a)).1 : Nat), .int .i64 ((rnm (s.data.toList.drop a)).2.1 : Nat)]) ∧ Sc w' g s (a + (rnm (s.data.toList.drop a)).2.2) ∧ Turn g V w' := fun V hV => number_r s g a V hV (by omega) (by omega)
      unfold rug
      by_cases hh : (rnm (s.data.toList.drop a)).2.1 = 0
      · rw [if_pos hh]
        rw [hh] at hnm
        exact tokD_none s g a w h ha (by omega) hl hd _ _ hnm
      · rw [if_neg hh]
        by_cases hb : 4294967295 < (rnm (s.data.toList.drop a)).1
        · rw [if_pos hb]; exact tokD_big s g a w h ha (by omega) hl hd _ _ _ hh hb hnm
        · rw [if_neg hb]; exact tokD_ok s g a w h ha (by omega) hl hd _ _ _ hh hb hnm
    | false =>
      rw [if_neg Bool.false_ne_true]
      cases hc : decide ((chr s a).toNat = 37) with
      | true =>
        rw [if_pos rfl]
        have hcc : chr s a = 37 := UInt8.toNat_inj.1 (decide_eq_true_iff.1 hc)
        have hz0 := cz_le inA (s.data.toList.drop (a + 1))
        rw [List.length_drop, ← Lib.size_eq] at hz0
        have ez : adz (s.data.toList.drop a) = 1 + cz inA (s.data.toList.drop (a + 1)) := by unfold adz; rw [List.drop_drop]
        unfold adR
        rw [ez]
        have ex : (s.data.toList.drop a).take (1 + cz inA (s.data.toList.drop (a + 1))) = (s.extract a (a + 1 + cz inA (s.data.toList.drop (a + 1)))).data.toList := by rw [Nat.add_assoc, ext_list]
        by_cases hp0 : pe (s.extract a (a + 1 + cz inA (s.data.toList.drop (a + 1)))).data.toList = 0
        · rw [if_pos (by rw [ex]; exact hp0)]
          exact tokA_ok s g a _ w h ha hs (by omega) hcc rfl hp0
        · rw [if_neg (by rw [ex]; exact hp0)]
          have e3 : okR (er (pe ((s.data.toList.drop a).take (1 + cz inA (s.data.toList.drop (a + 1)))))) = none := by
            rw [ex]
            unfold okR
            exact if_neg hp0
          rw [e3]
          exact tokA_no s g a _ w h ha hs (by omega) hcc rfl _ rfl hp0
      | false =>
        rw [if_neg Bool.false_ne_true]
        refine tokS s g a w h ha (by omega) hl hd ?_
        rw [beq_eq_false_iff_ne]
        have := decide_eq_false_iff_not.1 hc
        omega
theorem rlt_z {tok k z : Nat} {n : Int} {t : Tk} {z' : Nat} (h : rlt tok k n z = some (t, z')) : z' = z := by
  unfold rlt at h
  split at h
  · cases h
  · simp only [Option.some.injEq, Prod.mk.injEq] at h; exact h.2.symm
theorem rtl_le : ∀ (f : Nat) (r : List UInt8) (n : Int) (lp z : Nat), (rtl f r n lp z).2.2 ≤ z + r.length
  | 0, r, n, lp, z => Nat.le_add_right _ _
  | f + 1, r, n, lp, z => by
    rw [rtl]
    split
    · split
      · exact Nat.le_add_right _ _
      · rename_i h1 h2
        have q := rtl_le f (r.drop ((rdg 10 r 0 0).2 + uz (un (r.drop (rdg 10 r 0 0).2)))) (nst n (rdg 10 r 0 0).1 (un (r.drop (rdg 10 r 0 0).2))) (u1 (r.drop (rdg 10 r 0 0).2)) (z + ((rdg 10 r 0 0).2 + uz (un (r.drop (rdg 10 r 0 0).2))))
        have h3 := un_le (u1_un (l := r.drop (rdg 10 r 0 0).2) (lp := lp) (by omega)).1
        have h4 := (rdg_le 10 r 0 0 (by omega)).2.2
        rw [List.length_drop] at q h3
        omega
    · exact Nat.le_add_right _ _
theorem rnm_z {r : List UInt8} (h : ¬ (rnm r).2.1 = 0) : 1 ≤ (rnm r).2.2 ∧ (rnm r).2.2 ≤ r.length := by
  rcases num_rnm r with ⟨h1, _⟩ | ⟨_, h2, h3⟩
  · exact absurd h1 h
  · have h4 := (num_le r).1
    rw [h2] at h3 h4
    have h3 : ¬ (rnm r).2.2 = 0 := h3
    exact ⟨by omega, h4⟩
theorem rty_le {F k : Nat} {r : List UInt8} {t : Tk} {z : Nat} (h : rty F k r = some (t, z)) : z ≤ r.length := by
  unfold rty at h
  split at h
  · unfold rtm at h
    split at h
    · rename_i hq
      have h1 : 1 ≤ r.length := hp_le hq
      split at h
      · cases h
      · have h2 := rtl_le F (r.drop 1) 0 0 0
        rw [rlt_z h]
        rw [List.length_drop] at h2
        omega
    · split at h
      · cases h
      · have h2 := rtl_le F r 0 0 0
        rw [rlt_z h]
        omega
  · split at h
    · unfold rbl at h
      split at h
      · rename_i q
        have e := congrArg List.length (beq_iff_eq.1 q)
        rw [List.length_take] at e
        simp only [Option.some.injEq, Prod.mk.injEq] at h
        have e : min (cz inW r) r.length = 4 := e
        omega
      · split at h
        · rename_i q
          have e := congrArg List.length (beq_iff_eq.1 q)
          rw [List.length_take] at e
          simp only [Option.some.injEq, Prod.mk.injEq] at h
          have e : min (cz inW r) r.length = 5 := e
          omega
        · cases h
    · split at h
      · rename_i q
        rw [Bool.and_eq_true] at q
        have h1 : 1 ≤ r.length := hp_le q.1
        unfold rmi at h
        split at h
        · rw [rlt_z h]
          have h2 := (rdg_le 10 (r.drop 1) 0 0 (by omega)).2.2
          rw [List.length_drop] at h2
          omega
        · cases h
      · unfold rnu at h
        split at h
        · cases h
        · rename_i q; rw [rlt_z h]; exact (rnm_z q).2
theorem okR_le {r : R} {n : Nat} {t : Tk} {z : Nat} (h : okR r = some (t, z)) (hr : r.e = 0 → 1 ≤ r.z ∧ r.z ≤ n) : 1 ≤ z ∧ z ≤ n := by
  have e := okR_some h
  rw [e] at hr
  exact hr rfl
/-- A token that the reference told has one sign at least, and lies within the text. -/
theorem rnx_le {F : Nat} {l : List UInt8} {t : Tk} {z : Nat} (h : rnx F l = some (t, z)) : 1 ≤ z ∧ z ≤ l.length := by
  cases l with
  | nil => cases h
  | cons c l =>
    rw [rnx_cons] at h
    split at h
    · rename_i hl
      have hz := cz_le inW (c :: l)
      have h1 : 1 ≤ cz inW (c :: l) := by rw [cz_cons, show inW c = true by unfold inW; rw [hl]; rfl, if_pos rfl]; omega
      unfold rwd at h
      split at h
      · rename_i q
        rw [Bool.and_eq_true] at q
        have hr := hp_room q.1
        cases ho : rty F (kT ((c :: l).take (cz inW (c :: l)))) ((c :: l).drop (cz inW (c :: l) + 1)) with
        | none => rw [ho] at h; cases h
        | some p =>
          rw [ho] at h
          have h2 := rty_le (t := p.1) (z := p.2) ho
          have h3 : (p.1, cz inW (c :: l) + 1 + p.2) = (t, z) := Option.some.inj h
          have h4 := (Prod.mk.inj h3).2
          rw [List.length_drop] at h2
          omega
      · refine okR_le h fun he => ?_
        rw [plainW_ok he, List.length_take]
        omega
    · split at h
      · unfold rug at h
        split at h
        · cases h
        · rename_i q
          split at h
          · cases h
          · simp only [Option.some.injEq, Prod.mk.injEq] at h
            have := rnm_z q
            omega
      · split at h
        · refine okR_le h fun he => ?_
          have hz := adz_le (l := c :: l) (by simp)
          unfold adR at *
          split at he
          · rename_i q; rw [if_pos q]; exact ⟨hz.2, hz.1⟩
          · rename_i q; exact absurd he q
        · refine okR_le h fun he => ?_
          have hz := sgz_le (l := c :: l) (by simp)
          unfold sgR at *
          split at he
          · cases he
          · rename_i q; rw [if_neg q]; exact ⟨by show 1 ≤ sgz (c :: l); omega, hz.1⟩
open Go.RowKit
open Adr Lx
/-- The reference's tokens, of a text without blanks and comments. -/
def rsc (F : Nat) : Nat → List UInt8 → Nat → List (Tk × Nat) → Option (List (Tk × Nat))
  | _, [], a, acc => some (acc ++ [(nul, a)])
  | 0, _ :: _, _, _ => none
  | f + 1, c :: l, a, acc => match rnx F (c :: l) with
    | none => none
    | some (t, z) => rsc F f ((c :: l).drop z) (a + z) (acc ++ [(t, a)])
/-- No blank, no comment. -/
def Cln (s : ByteArray) : Prop := ∀ j, j < s.size → (¬ (chr s j).toNat = 32 ∧ ¬ (chr s j).toNat = 9 ∧ ¬ (chr s j).toNat = 13 ∧ ¬ (chr s j).toNat = 10) ∧ ((chr s j).toNat = 40 → ¬ (chr s (j + 1)).toNat = 42)
theorem Tks.turn {base g : Nat} {W W' : World} {v : Value} {L : List (Tk × Nat)} (o : Tks base W v L) (k : Turn g W W') (hg : g < base) : Tks base W' v L := by
  refine ⟨o.1, ?_⟩
  rcases o.2 with h' | ⟨b, cap, cur, rfl, hb, hgg, r⟩
  · exact Or.inl h'
  · have hlt : b < W.heap.size := (World.ownsRow.lt o b rfl).2
    exact Or.inr ⟨b, cap, cur, rfl, hb, (k.block b hlt (by simp; omega)).trans hgg, r⟩
theorem Sc.low {W W' : World} {g b : Nat} {s : ByteArray} {a : Nat} (h : Sc W g s a) (k : Below b W W') (hg : g < b) : Sc W' g s a :=
  ⟨(k.cell (p := ⟨g, 0, none⟩) hg).trans h.c0, (k.cell (p := ⟨g, 1, none⟩) hg).trans h.c1, (k.frozen (p := ⟨g, 1, none⟩) hg).trans h.fr⟩
/-- What the reference's Tokens hands back. -/
def RTold (w : World) (r : Option (List (Tk × Nat))) (e : Ending) (w' : World) : Prop := Below w.heap.size w w' ∧ match r with
  | some L => ∃ v, e = .returned (.tuple #[v, .int .i64 0, .int .i64 0]) ∧ Tks (w.heap.size + 1) w' v L
  | none => ∃ (a E : Int), ¬ E = 0 ∧ e = .returned (.tuple #[.slice none 0 0, .int .i64 a, .int .i64 E])
theorem sc_start (w : World) (s : ByteArray) : Sc (w.alloc (.cells #[.string s, .int .i64 0] 64)) w.heap.size s 0 := ⟨by simp, by simp, by simp⟩
theorem rsc_end {F f a : Nat} {A : List (Tk × Nat)} : rsc F f [] a A = some (A ++ [(nul, a)]) := by cases f <;> rfl
theorem rsc_none {F f k : Nat} {s : ByteArray} {A : List (Tk × Nat)} (hk : k < s.size) (h : rnx F (s.data.toList.drop k) = none) : rsc F (f + 1) (s.data.toList.drop k) k A = none := by
  rw [chr_drop hk] at *
  rw [rsc, h]
theorem rsc_some {F f k : Nat} {s : ByteArray} {A : List (Tk × Nat)} {t : Tk} {z : Nat} (hk : k < s.size) (h : rnx F (s.data.toList.drop k) = some (t, z)) : rsc F (f + 1) (s.data.toList.drop k) k A = rsc F f (s.data.toList.drop (k + z)) (k + z) (A ++ [(t, k)]) := by
  rw [← List.drop_drop]
  rw [chr_drop hk] at *
  rw [rsc, h]
theorem gr_below {b g : Nat} {w W W' : World} (h : Below b w W) (k : Turn g W W') (hg : b ≤ g) (hb : b ≤ W.heap.size) : Below b w W' := h.trans (k.below hg hb)
set_option maxHeartbeats 4000000 in
set_option maxRecDepth 100000 in
theorem rtokens_c (s : ByteArray) (w : World) (hs : s.size ≤ 2000) (hC : Cln s) : Calls Tryd.prog 22 #[.string s, .bool false] w fun e w' => RTold w (rsc (s.size + 1) (s.size + 1) s.data.toList 0 []) e w' := by
  have hb' : ¬ (65536 : Int) < s.size := by omega
  have hS0 := hid_as (sc_start w s)
  have hB0 := hid_as (below_new1 w (.cells #[.string s, .int .i64 0] 64))
  have hz0 : Hid ((w.alloc (.cells #[.string s, .int .i64 0] 64)).heap.size = w.heap.size + 1) := hid_as (by simp)
  replace hC := hid_as hC
  generalize hR : rsc (s.size + 1) (s.size + 1) s.data.toList 0 [] = R at *
  replace hR := hid_as hR
  go_enter Tryd.func22, Tryd.ntmps22
  go_wp2
  generalize w.alloc (.cells #[.string s, .int .i64 0] 64) = W1 at *
  generalize hg : w.heap.size = g at *
  replace hg := hid_as hg
  go_loopw [8] (fun v wr => ∃ (k f : Nat) (A : List (Tk × Nat)), k ≤ s.size ∧ s.size < k + f ∧ A.length ≤ k ∧ g < wr.heap.size ∧ Hid (Sc wr g s k) ∧ Hid (Below g w wr) ∧ Hid (Tks (g + 1) wr v A) ∧ Hid (R = rsc (s.size + 1) f (s.data.toList.drop k) k A)) (fun v wr => s.size - atOf g wr)
  case atStart => exact ⟨0, s.size + 1, [], by omega, by omega, Nat.le_refl _, by have := hz0.out; omega, hS0, hB0, hid_as (Tks.nil _ _), hid_as hR.out.symm⟩
  case round =>
    obtain ⟨k, f, A, hk, hf, hA, hgl, hS, hB, hv, hRk⟩ := hrel
    have hat := hid_as hS.out.atOf
    have C0 : Hid (∀ V, Sc V g s k → Calls Tryd.prog 34 #[.pointer (some ⟨g, 0, none⟩), .int .i64 0] V fun e w' => e = .returned (.int .u8 (chr s k).toNat) ∧ Same V w') := fun V q => c_r s g k 0 V q (by omega) (by omega)
    have C1 : Hid (∀ V, Sc V g s k → Calls Tryd.prog 34 #[.pointer (some ⟨g, 0, none⟩), .int .i64 1] V fun e w' => e = .returned (.int .u8 (chr s (k + 1)).toNat) ∧ Same V w') := fun V q => c_r s g k 1 V q (by omega) (by omega)
    by_cases hlt : k < s.size
    · have hle : decide ((s.size : Int) ≤ k) = false := decide_eq_false (by omega)
      obtain ⟨⟨n1, n2, n3, n4⟩, n5⟩ := hC.out k hlt
      have g1 : (((chr s k).toNat : Int) == 32) = false := by rw [beq_eq_false_iff_ne]; omega
      have g2 : (((chr s k).toNat : Int) == 9) = false := by rw [beq_eq_false_iff_ne]; omega
      have g3 : (((chr s k).toNat : Int) == 13) = false := by rw [beq_eq_false_iff_ne]; omega
      have g4 : (((chr s k).toNat : Int) == 10) = false := by rw [beq_eq_false_iff_ne]; omega
      obtain ⟨f, rfl⟩ : ∃ f', f = f' + 1 := ⟨f - 1, by omega⟩
      have TKN := fun V q => token_r s g k V q hlt hs
      cases ho : rnx (s.size + 1) (s.data.toList.drop k) with
      | none =>
        have hR2 := hid_as (hRk.out.trans (rsc_none hlt ho))
        rw [ho] at TKN
        replace TKN := hid_as TKN
        by_cases h4 : (chr s k).toNat = 40
        · have h42 := n5 h4
          have g5 : (((chr s k).toNat : Int) == 40) = true := by rw [beq_iff_eq]; omega
          have g6 : (((chr s (k + 1)).toNat : Int) == 42) = false := by rw [beq_eq_false_iff_ne]; omega
          clear n1 n2 n3 n4 n5 h4 h42 ho hRk
          generalize (chr s k).toNat = cc at *
          generalize (chr s (k + 1)).toNat = c2 at *
          go_wp2_with (first
            | (go_at_call 34; (first | (with_reducible refine (C0.out _ hS.out).mono ?_) | (with_reducible refine (C1.out _ hS.out).mono ?_)); rintro e w4 ⟨rfl, k_⟩; replace hS := hid_as (hS.out.same k_); replace hB := hid_as (hB.out.trans (k_.below.mono (Nat.le_of_lt hgl))); replace hv := hid_as (hv.out.turn (Turn.same (g := g) k_) (Nat.lt_succ_self g)); replace hgl : g < w4.heap.size := Nat.lt_of_lt_of_le hgl k_.below.size; clear k_; have d1 := hS.out.c1)
            | (go_at_call 35; (with_reducible refine (TKN.out _ hS.out).mono ?_); rintro e w7 ⟨t7, x0, y0, n0, E0, u0, hE, rfl⟩; replace hB := hid_as (gr_below hB.out t7 (Nat.le_refl _) (Nat.le_of_lt hgl))))
          go_region
          go_wp2
          go_ret3
          refine ⟨by rw [hg.out]; repeat (first | (with_reducible exact hB.out) | (with_reducible refine Below.drew ?_) | (with_reducible refine Below.alloc ?_ (Nat.le_of_lt (Nat.lt_of_lt_of_le hgl t7.size)) _)), ?_⟩
          rw [hR2.out]
          exact ⟨_, _, hE, rfl⟩
        · have g5 : (((chr s k).toNat : Int) == 40) = false := by rw [beq_eq_false_iff_ne]; omega
          clear n1 n2 n3 n4 n5 h4 ho hRk
          generalize (chr s k).toNat = cc at *
          go_wp2_with (first
            | (go_at_call 34; (first | (with_reducible refine (C0.out _ hS.out).mono ?_) | (with_reducible refine (C1.out _ hS.out).mono ?_)); rintro e w4 ⟨rfl, k_⟩; replace hS := hid_as (hS.out.same k_); replace hB := hid_as (hB.out.trans (k_.below.mono (Nat.le_of_lt hgl))); replace hv := hid_as (hv.out.turn (Turn.same (g := g) k_) (Nat.lt_succ_self g)); replace hgl : g < w4.heap.size := Nat.lt_of_lt_of_le hgl k_.below.size; clear k_; have d1 := hS.out.c1)
            | (go_at_call 35; (with_reducible refine (TKN.out _ hS.out).mono ?_); rintro e w7 ⟨t7, x0, y0, n0, E0, u0, hE, rfl⟩; replace hB := hid_as (gr_below hB.out t7 (Nat.le_refl _) (Nat.le_of_lt hgl))))
          go_region
          go_wp2
          go_ret3
          refine ⟨by rw [hg.out]; repeat (first | (with_reducible exact hB.out) | (with_reducible refine Below.drew ?_) | (with_reducible refine Below.alloc ?_ (Nat.le_of_lt (Nat.lt_of_lt_of_le hgl t7.size)) _)), ?_⟩
          rw [hR2.out]
          exact ⟨_, _, hE, rfl⟩
      | some p =>
        obtain ⟨⟨ta, tb, tc, td⟩, z⟩ := p
        have hz := rnx_le ho
        rw [List.length_drop, ← Lib.size_eq] at hz
        have hR2 := hid_as (hRk.out.trans (rsc_some hlt ho))
        rw [ho] at TKN
        replace TKN := hid_as TKN
        by_cases h4 : (chr s k).toNat = 40
        · have h42 := n5 h4
          have g5 : (((chr s k).toNat : Int) == 40) = true := by rw [beq_iff_eq]; omega
          have g6 : (((chr s (k + 1)).toNat : Int) == 42) = false := by rw [beq_eq_false_iff_ne]; omega
          clear n1 n2 n3 n4 n5 h4 h42 ho hRk
          generalize (chr s k).toNat = cc at *
          generalize (chr s (k + 1)).toNat = c2 at *
          go_upto_region 24 with (first
            | (go_at_call 34; (first | (with_reducible refine (C0.out _ hS.out).mono ?_) | (with_reducible refine (C1.out _ hS.out).mono ?_)); rintro e w4 ⟨rfl, k_⟩; replace hS := hid_as (hS.out.same k_); replace hB := hid_as (hB.out.trans (k_.below.mono (Nat.le_of_lt hgl))); replace hv := hid_as (hv.out.turn (Turn.same (g := g) k_) (Nat.lt_succ_self g)); replace hgl : g < w4.heap.size := Nat.lt_of_lt_of_le hgl k_.below.size; clear k_; have d1 := hS.out.c1)
            | (go_at_call 35; (with_reducible refine (TKN.out _ hS.out).mono ?_); rintro e w7 ⟨t7, rfl, s7⟩; unfold tv; replace hB := hid_as (gr_below hB.out t7 (Nat.le_refl _) (Nat.le_of_lt hgl)); replace hv := hid_as (hv.out.turn t7 (Nat.lt_succ_self g)); replace hgl : g < w7.heap.size := Nat.lt_of_lt_of_le hgl t7.size; replace s7 := hid_as s7; clear t7))
          have nb := below_new1 w7 (.cells #[.int .i64 (ta : Nat), .int .i64 (tb : Nat), .int .i64 tc, .string (tx td), .int .i64 (k : Nat)] 31)
          have hB4 := hid_as (hB.out.trans (nb.mono (Nat.le_of_lt hgl)))
          have hv4 := hid_as (hv.out.turn (Turn.ofBelow (g := g) nb) (Nat.lt_succ_self g))
          have hS4 := hid_as (s7.out.below nb)
          have hg4 : g < (w7.alloc (.cells #[.int .i64 (ta : Nat), .int .i64 (tb : Nat), .int .i64 tc, .string (tx td), .int .i64 (k : Nat)] 31)).heap.size := Nat.lt_of_lt_of_le hgl nb.size
          obtain ⟨v', w', hr, ht, hb5⟩ := tks_push hv4.out (by omega) hg4 ⟨ta, tb, tc, td⟩ k
          have hB5 := hid_as (hB4.out.trans (hb5.mono (Nat.le_succ g)))
          have hS5 := hid_as (hS4.out.low hb5 (Nat.lt_succ_self g))
          have hg5 : g < w'.heap.size := Nat.lt_of_lt_of_le hg4 hb5.size
          replace ht := hid_as ht
          clear hb5 hv4 hS4 hB4 hv nb hg4
          replace hr : (Builtin.append_ #[24, 24] 24 #[_, .slice (some ⟨(w7.alloc (.cells #[.int .i64 (ta : Nat), .int .i64 (tb : Nat), .int .i64 tc, .string (tx td), .int .i64 (k : Nat)] 31)).heap.size, 0, none⟩) 1 1]).run Tryd.prog ((w7.alloc (.cells #[.int .i64 (ta : Nat), .int .i64 (tb : Nat), .int .i64 tc, .string (tx td), .int .i64 (k : Nat)] 31)).alloc (.cells #[.int .i64 (ta : Nat), .int .i64 (tb : Nat), .int .i64 tc, .string (tx td), .int .i64 (k : Nat)] 31)) = .ok v' w' := hr
          rw [show (w7.alloc (.cells #[.int .i64 (ta : Nat), .int .i64 (tb : Nat), .int .i64 tc, .string (tx td), .int .i64 (k : Nat)] 31)).heap.size = w7.heap.size + 1 by simp] at hr
          replace hr := hid_as hr
          go_wp2_with (at_builtin; refine Lib.wpList_append_run _ rfl _ _ _ _ rfl _ _ rfl rfl _ _ hr.out ?_)
          go_roundw
          case rel => exact ⟨k + z, f, A ++ [(⟨ta, tb, tc, td⟩, k)], by omega, by omega, by rw [List.length_append]; simp; omega, hg5, hS5, hB5, ht, hR2⟩
          case measure =>
            rw [hS5.out.atOf, hat.out]
            omega
        · have g5 : (((chr s k).toNat : Int) == 40) = false := by rw [beq_eq_false_iff_ne]; omega
          clear n1 n2 n3 n4 n5 h4 ho hRk
          generalize (chr s k).toNat = cc at *
          go_upto_region 24 with (first
            | (go_at_call 34; (first | (with_reducible refine (C0.out _ hS.out).mono ?_) | (with_reducible refine (C1.out _ hS.out).mono ?_)); rintro e w4 ⟨rfl, k_⟩; replace hS := hid_as (hS.out.same k_); replace hB := hid_as (hB.out.trans (k_.below.mono (Nat.le_of_lt hgl))); replace hv := hid_as (hv.out.turn (Turn.same (g := g) k_) (Nat.lt_succ_self g)); replace hgl : g < w4.heap.size := Nat.lt_of_lt_of_le hgl k_.below.size; clear k_; have d1 := hS.out.c1)
            | (go_at_call 35; (with_reducible refine (TKN.out _ hS.out).mono ?_); rintro e w7 ⟨t7, rfl, s7⟩; unfold tv; replace hB := hid_as (gr_below hB.out t7 (Nat.le_refl _) (Nat.le_of_lt hgl)); replace hv := hid_as (hv.out.turn t7 (Nat.lt_succ_self g)); replace hgl : g < w7.heap.size := Nat.lt_of_lt_of_le hgl t7.size; replace s7 := hid_as s7; clear t7))
          have nb := below_new1 w7 (.cells #[.int .i64 (ta : Nat), .int .i64 (tb : Nat), .int .i64 tc, .string (tx td), .int .i64 (k : Nat)] 31)
          have hB4 := hid_as (hB.out.trans (nb.mono (Nat.le_of_lt hgl)))
          have hv4 := hid_as (hv.out.turn (Turn.ofBelow (g := g) nb) (Nat.lt_succ_self g))
          have hS4 := hid_as (s7.out.below nb)
          have hg4 : g < (w7.alloc (.cells #[.int .i64 (ta : Nat), .int .i64 (tb : Nat), .int .i64 tc, .string (tx td), .int .i64 (k : Nat)] 31)).heap.size := Nat.lt_of_lt_of_le hgl nb.size
          obtain ⟨v', w', hr, ht, hb5⟩ := tks_push hv4.out (by omega) hg4 ⟨ta, tb, tc, td⟩ k
          have hB5 := hid_as (hB4.out.trans (hb5.mono (Nat.le_succ g)))
          have hS5 := hid_as (hS4.out.low hb5 (Nat.lt_succ_self g))
          have hg5 : g < w'.heap.size := Nat.lt_of_lt_of_le hg4 hb5.size
          replace ht := hid_as ht
          clear hb5 hv4 hS4 hB4 hv nb hg4
          replace hr : (Builtin.append_ #[24, 24] 24 #[_, .slice (some ⟨(w7.alloc (.cells #[.int .i64 (ta : Nat), .int .i64 (tb : Nat), .int .i64 tc, .string (tx td), .int .i64 (k : Nat)] 31)).heap.size, 0, none⟩) 1 1]).run Tryd.prog ((w7.alloc (.cells #[.int .i64 (ta : Nat), .int .i64 (tb : Nat), .int .i64 tc, .string (tx td), .int .i64 (k : Nat)] 31)).alloc (.cells #[.int .i64 (ta : Nat), .int .i64 (tb : Nat), .int .i64 tc, .string (tx td), .int .i64 (k : Nat)] 31)) = .ok v' w' := hr
          rw [show (w7.alloc (.cells #[.int .i64 (ta : Nat), .int .i64 (tb : Nat), .int .i64 tc, .string (tx td), .int .i64 (k : Nat)] 31)).heap.size = w7.heap.size + 1 by simp] at hr
          replace hr := hid_as hr
          go_wp2_with (at_builtin; refine Lib.wpList_append_run _ rfl _ _ _ _ rfl _ _ rfl rfl _ _ hr.out ?_)
          go_roundw
          case rel => exact ⟨k + z, f, A ++ [(⟨ta, tb, tc, td⟩, k)], by omega, by omega, by rw [List.length_append]; simp; omega, hg5, hS5, hB5, ht, hR2⟩
          case measure =>
            rw [hS5.out.atOf, hat.out]
            omega
    · obtain rfl : k = s.size := by omega
      have hR2 : Hid (R = some (A ++ [(nul, s.size)])) := by
        rw [hRk.out, (chr_end (s := s) (k := s.size) (Nat.le_refl _)).2, rsc_end]
        exact hid_as rfl
      generalize (chr s s.size).toNat = cc at *
      go_upto_region 7 with (go_at_call 34; (with_reducible refine (C0.out _ hS.out).mono ?_); rintro e w4 ⟨rfl, k_⟩; replace hS := hid_as (hS.out.same k_); replace hB := hid_as (hB.out.trans (k_.below.mono (Nat.le_of_lt hgl))); replace hv := hid_as (hv.out.turn (Turn.same (g := g) k_) (Nat.lt_succ_self g)); replace hgl : g < w4.heap.size := Nat.lt_of_lt_of_le hgl k_.below.size; clear k_; have d1 := hS.out.c1)
      obtain ⟨v', w', hr, ht, hb5⟩ := tks_push hv.out (by omega) hgl nul s.size
      have hB5 := hid_as (hB.out.trans (hb5.mono (Nat.le_succ g)))
      replace ht := hid_as ht
      replace hr : (Builtin.append_ #[24, 24] 24 #[_, .slice (some ⟨w4.heap.size, 0, none⟩) 1 1]).run Tryd.prog (w4.alloc (.cells #[.int .i64 0, .int .i64 0, .int .i64 0, .string ⟨#[]⟩, .int .i64 (s.size : Nat)] 31)) = .ok v' w' := hr
      replace hr := hid_as hr
      clear hb5 hv
      go_wp2_with (at_builtin; refine Lib.wpList_append_run _ rfl _ _ _ _ rfl _ _ rfl rfl _ _ hr.out ?_)
      go_ret3
      refine ⟨by rw [hg.out]; exact hB5.out, ?_⟩
      rw [hR2.out]
      exact ⟨v', rfl, by rw [hg.out]; exact ht.out⟩
open Go.RowKit
open Adr Lx
theorem rtl_fuel : ∀ (f g : Nat) (r : List UInt8) (n : Int) (lp z : Nat), r.length < f → r.length < g → rtl f r n lp z = rtl g r n lp z
  | 0, _, r, n, lp, z, h, _ => by omega
  | f + 1, 0, r, n, lp, z, _, h => by omega
  | f + 1, g + 1, r, n, lp, z, hf, hg => by
    rw [rtl, rtl]
    split
    · rename_i hd
      split
      · rfl
      · have h1 := rdg_pos hd
        have h2 := (rdg_le 10 r 0 0 (by omega)).2.2
        exact rtl_fuel f g _ _ _ _ (by rw [List.length_drop]; omega) (by rw [List.length_drop]; omega)
    · rfl
theorem rtm_fuel {F G : Nat} {r : List UInt8} (hF : r.length < F) (hG : r.length < G) : rtm F r = rtm G r := by
  unfold rtm
  rw [rtl_fuel F G r 0 0 0 hF hG, rtl_fuel F G (r.drop 1) 0 0 0 (by rw [List.length_drop]; omega) (by rw [List.length_drop]; omega)]
theorem rnx_fuel {F G : Nat} {l : List UInt8} (hF : l.length < F) (hG : l.length < G) : rnx F l = rnx G l := by
  cases l with
  | nil => rfl
  | cons c l =>
    rw [rnx_cons, rnx_cons]
    have e : rwd F (c :: l) = rwd G (c :: l) := by
      unfold rwd rty
      rw [rtm_fuel (F := F) (G := G) (by rw [List.length_drop]; omega) (by rw [List.length_drop]; omega)]
    rw [e]
theorem rsc_len {F : Nat} : ∀ (f : Nat) (l : List UInt8) (a : Nat) (A L : List (Tk × Nat)), rsc F f l a A = some L → A.length + 1 ≤ L.length
  | f, [], a, A, L, h => by
    rw [rsc_end] at h
    rw [← Option.some.inj h, List.length_append]
    exact Nat.le_refl _
  | 0, c :: l, a, A, L, h => by cases h
  | f + 1, c :: l, a, A, L, h => by
    rw [rsc] at h
    split at h
    · cases h
    · have := rsc_len f _ _ _ _ h
      rw [List.length_append, List.length_cons] at this
      omega
/-- Two tokens: the first is all of the text. -/
theorem rsc_two {F f : Nat} {l : List UInt8} {L : List (Tk × Nat)} (h : rsc F f l 0 [] = some L) (h2 : L.length = 2) (hl : 0 < l.length) : ∃ t, rnx F l = some (t, l.length) ∧ L = [(t, 0), (nul, l.length)] := by
  match f, l with
  | _, [] => simp at hl
  | 0, c :: l => cases h
  | f + 1, c :: l =>
    rw [rsc] at h
    split at h
    · cases h
    · rename_i t z e
      have hz := rnx_le e
      rw [Nat.zero_add, List.nil_append] at h
      by_cases hd : z = (c :: l).length
      · rw [List.drop_eq_nil_of_le (by omega), rsc_end] at h
        exact ⟨t, by rw [e, hd], by rw [← Option.some.inj h, hd]; rfl⟩
      · exfalso
        have hne : 0 < ((c :: l).drop z).length := by rw [List.length_drop]; omega
        cases hx : (c :: l).drop z with
        | nil => rw [hx] at hne; simp at hne
        | cons d m =>
          rw [hx] at h
          cases f with
          | zero => cases h
          | succ f =>
            rw [rsc] at h
            split at h
            · cases h
            · have := rsc_len f _ _ _ _ h
              rw [List.length_append] at this
              simp at this
              omega
theorem rsc_one {F f : Nat} {l : List UInt8} {t : Tk} (hl : 0 < l.length) (h : rnx F l = some (t, l.length)) : rsc F (f + 1) l 0 [] = some [(t, 0), (nul, l.length)] := by
  cases l with
  | nil => simp at hl
  | cons c l =>
    rw [rsc, h]
    show rsc F f ((c :: l).drop (c :: l).length) (0 + (c :: l).length) ([] ++ [(t, 0)]) = _
    rw [List.drop_length, rsc_end, Nat.zero_add]
    rfl
/-- A token of the program's stands at a. -/
structure Tok (l : List UInt8) (a : Nat) (t : Tk) (z : Nat) : Prop where
  n : nx (l.drop a) = ⟨t, z, 0⟩
  lt : a < l.length
  b : blk (l[a]'lt) false = false
  c : hp (l.drop a) [40, 42] = false
theorem Tok.z {l : List UInt8} {a z : Nat} {t : Tk} (h : Tok l a t z) : 1 ≤ z ∧ a + z ≤ l.length := by
  have q := nx_ok (l := l.drop a) (by rw [List.length_drop]; have := h.lt; omega) (by rw [h.n])
  rw [h.n, List.length_drop] at q
  have q : 1 ≤ z ∧ z ≤ l.length - a := q
  have := h.lt
  omega
theorem blk_no {c : UInt8} (h : blk c false = false) : ¬ c.toNat = 32 ∧ ¬ c.toNat = 9 ∧ ¬ c.toNat = 13 ∧ ¬ c.toNat = 10 := by
  unfold blk at h
  simp only [Bool.or_eq_false_iff, Bool.and_eq_false_iff, decide_eq_false_iff_not, Bool.not_false, Bool.true_eq_false, or_false] at h
  omega
/-- The token alone: its first sign, the rest, what the program tells of them. -/
theorem Tok.alone {l : List UInt8} {a z : Nat} {t : Tk} (h : Tok l a t z) : ∃ d r, (l.drop a).take z = d :: r ∧ d = l[a]'h.lt ∧ nx (d :: r) = ⟨t, z, 0⟩ ∧ (d :: r).length = z := by
  have hz := h.z
  have hlt := h.lt
  have hn := h.n
  have hd := drop_at h.lt
  obtain ⟨y, rfl⟩ : ∃ y, z = y + 1 := ⟨z - 1, by omega⟩
  refine ⟨l[a]'h.lt, (l.drop (a + 1)).take y, by rw [hd, List.take_succ_cons], rfl, ?_, ?_⟩
  · have q := nx_take (d := l[a]'h.lt) (l := l.drop (a + 1)) (by rw [← hd, hn])
    rw [← hd, hn] at q
    rw [← q]
    show _ = nx ((l.drop a).take (y + 1))
    rw [hd, List.take_succ_cons]
  · rw [List.length_cons, List.length_take, List.length_drop]
    omega
theorem Tok.pre {l : List UInt8} {a z : Nat} {t : Tk} (h : Tok l a t z) (m : Nat) (hm : m ≤ z) (F : Nat) (hF : m < F) : rnx F ((l.drop a).take m) = okR (nx ((l.drop a).take m)) := by
  obtain ⟨d, r, e1, e2, e3, e4⟩ := h.alone
  have e5 : (l.drop a).take m = (d :: r).take m := by rw [← e1, List.take_take, Nat.min_eq_left hm]
  have hl : ((d :: r).take m).length ≤ m := by rw [List.length_take]; omega
  rw [e5, rnx_fuel (F := F) (G := z + 1) (by omega) (by omega)]
  exact rnx_ok m (by rw [e3]) (by rw [e3]; exact e4.symm) (by rw [e4]; omega) (by rw [e2]; exact (blk_no h.b).2.2.2)
/-- At its end the reference tells just this token. -/
theorem Tok.full {l : List UInt8} {a z : Nat} {t : Tk} (h : Tok l a t z) (F : Nat) (hF : z < F) : rnx F ((l.drop a).take z) = some (t, z) := by
  rw [h.pre z (Nat.le_refl _) F hF]
  obtain ⟨d, r, e1, e2, e3, e4⟩ := h.alone
  rw [e1, e3]
  rfl
/-- What the reference tells of a beginning is told by the program, whatever blank stands behind it. -/
theorem Tok.part {l : List UInt8} {a z : Nat} {t t' : Tk} (h : Tok l a t z) {m : Nat} (h1 : 1 ≤ m) (hm : m ≤ z) {F : Nat} (hF : m < F) (hr : rnx F ((l.drop a).take m) = some (t', m)) (c : UInt8) (hc : Stp c) (x : List UInt8) : nx ((l.drop a).take m ++ c :: x) = ⟨t', m, 0⟩ := by
  rw [h.pre m hm F hF] at hr
  have e := okR_some hr
  obtain ⟨d, r, e1, _⟩ := h.alone
  obtain ⟨y, rfl⟩ : ∃ y, m = y + 1 := ⟨m - 1, by omega⟩
  have e5 : (l.drop a).take (y + 1) = d :: r.take y := by rw [← List.take_succ_cons, ← e1, List.take_take, Nat.min_eq_left hm]
  rw [e5] at e ⊢
  rw [nx_app hc, e]
theorem chr_piece {s : ByteArray} {a m j : Nat} (h : a + m ≤ s.size) (hj : j < m) : chr (s.extract a (a + m)) j = (((s.data.toList.drop a).take m)[j]'(by rw [List.length_take, List.length_drop, ← Lib.size_eq]; omega)) := by
  unfold chr
  rw [List.getD_eq_getElem?_getD, ext_list, List.getElem?_eq_getElem (by rw [List.length_take, List.length_drop, ← Lib.size_eq]; omega)]
  rfl
theorem chr_out {s : ByteArray} {j : Nat} (h : s.size ≤ j) : chr s j = 0 := (chr_end h).1
theorem Tok.clean {s : ByteArray} {a z : Nat} {t : Tk} (h : Tok s.data.toList a t z) {m : Nat} (hm : m ≤ z) : Cln (s.extract a (a + m)) := by
  obtain ⟨d, r, e1, e2, e3, e4⟩ := h.alone
  have hz := h.z
  rw [← Lib.size_eq] at hz
  have hsz : (s.extract a (a + m)).size = m := by rw [tx_extract, tx_size, List.length_take, List.length_drop, ← Lib.size_eq]; omega
  intro j hj
  rw [hsz] at hj
  have e5 : (s.data.toList.drop a).take m = (d :: r).take m := by rw [← e1, List.take_take, Nat.min_eq_left hm]
  have hjl : j < (d :: r).length := by rw [e4]; omega
  have e6 : chr (s.extract a (a + m)) j = (d :: r)[j]'hjl := by
    rw [chr_piece (by omega) hj]
    simp only [e5, List.getElem_take]
  rw [e6]
  cases j with
  | zero =>
    show (¬ d.toNat = 32 ∧ ¬ d.toNat = 9 ∧ ¬ d.toNat = 13 ∧ ¬ d.toNat = 10) ∧ (d.toNat = 40 → _)
    refine ⟨by rw [e2]; exact blk_no h.b, fun h4 => ?_⟩
    have hd : d = 40 := UInt8.toNat_inj.1 h4
    subst hd
    have hr := nx_open (l := r) (by rw [e3]; exact e4.symm)
    rw [hr] at e4
    have e4 : 1 = z := e4
    rw [chr_out (by rw [hsz]; omega)]
    decide
  | succ j =>
    have hjr : j < r.length := by rw [List.length_cons] at hjl; omega
    have hs := nx_clean (d := d) (l := r) (by rw [e3]) (by rw [e3]; exact e4.symm) (r[j]) (List.getElem_mem hjr)
    show (¬ (r[j]).toNat = 32 ∧ ¬ (r[j]).toNat = 9 ∧ ¬ (r[j]).toNat = 13 ∧ ¬ (r[j]).toNat = 10) ∧ ((r[j]).toNat = 40 → _)
    have q : ∀ c : UInt8, Stp c → ¬ (r[j]).toNat = c.toNat := fun c hc e => hs (by rw [UInt8.toNat_inj.1 e]; exact hc)
    refine ⟨⟨q 32 (Or.inl rfl), q 9 (Or.inr (Or.inr (Or.inl rfl))), q 13 (Or.inr (Or.inr (Or.inr (Or.inr rfl)))), q 10 (Or.inr (Or.inl rfl))⟩, fun h4 => absurd h4 (q 40 (Or.inr (Or.inr (Or.inr (Or.inl rfl)))))⟩
/-- These tokens were told of the text, up to k: where each is, and that the next begins behind it. -/
def nxp (B : List (Tk × Nat)) (k i : Nat) : Nat := ((B[i]?).map Prod.snd).getD k
def Sq (l : List UInt8) (B : List (Tk × Nat)) (k : Nat) : Prop := ∀ i, i < B.length → ∃ t a z, B[i]? = some (t, a) ∧ Tok l a t z ∧ a + z ≤ nxp B k (i + 1)
theorem Sq.mono {l : List UInt8} {B : List (Tk × Nat)} {k k' : Nat} (h : Sq l B k) (hk : k ≤ k') : Sq l B k' := by
  intro i hi
  obtain ⟨t, a, z, e1, e2, e3⟩ := h i hi
  refine ⟨t, a, z, e1, e2, Nat.le_trans e3 ?_⟩
  unfold nxp
  cases B[i + 1]? with
  | none => exact hk
  | some p => exact Nat.le_refl _
theorem Sq.onto {l : List UInt8} {B : List (Tk × Nat)} {k z : Nat} {t : Tk} (h : Sq l B k) (ht : Tok l k t z) : Sq l (B ++ [(t, k)]) (k + z) := by
  intro i hi
  rw [List.length_append] at hi
  have hi : i < B.length + 1 := hi
  by_cases e : i < B.length
  · obtain ⟨t', a, z', e1, e2, e3⟩ := h i e
    refine ⟨t', a, z', by rw [List.getElem?_append_left e, e1], e2, Nat.le_trans e3 ?_⟩
    unfold nxp
    by_cases e4 : i + 1 < B.length
    · rw [List.getElem?_append_left e4]
      cases B[i + 1]? with
      | none => exact Nat.le_add_right _ _
      | some p => exact Nat.le_refl _
    · have : i + 1 = B.length := by omega
      rw [List.getElem?_eq_none (by omega), List.getElem?_append_right (by omega), this, Nat.sub_self]
      exact Nat.le_refl _
  · have : i = B.length := by omega
    subst this
    refine ⟨t, k, z, by rw [List.getElem?_append_right (Nat.le_refl _), Nat.sub_self]; rfl, ht, ?_⟩
    unfold nxp
    rw [List.getElem?_eq_none (by rw [List.length_append]; exact Nat.le_refl _)]
    exact Nat.le_refl _
theorem scn_sq (l : List UInt8) : ∀ (f a : Nat) (A B : List (Tk × Nat)), a ≤ l.length → (l.drop a).length ≤ f → scn false f (l.drop a) a A = (B, none) → Sq l A a → Sq l B l.length
  | f, a, A, B, ha, hf, h, hA => by
    by_cases hlt : a < l.length
    · have hd := drop_at hlt
      cases f with
      | zero => rw [List.length_drop] at hf; omega
      | succ f =>
        rw [hd, scn_cons, ← hd] at h
        cases hb : blk l[a] false with
        | true =>
          rw [hb, if_pos rfl] at h
          exact scn_sq l f (a + 1) A B hlt (by rw [List.length_drop] at *; omega) h (hA.mono (Nat.le_succ a))
        | false =>
          rw [hb, if_neg Bool.false_ne_true] at h
          cases hc : hp (l.drop a) [40, 42] with
          | true =>
            rw [hc, if_pos rfl] at h
            by_cases h0 : csz (l.drop a) = 0
            · rw [if_pos h0] at h; cases (Prod.mk.inj h).2
            · rw [if_neg h0, List.drop_drop] at h
              have h2 := hp_le hc
              have hz := csz_le (l := l.drop a) h2
              rw [List.length_drop] at hz
              exact scn_sq l f (a + csz (l.drop a)) A B (by omega) (by rw [List.length_drop] at *; omega) h (hA.mono (Nat.le_add_right _ _))
          | false =>
            rw [hc, if_neg Bool.false_ne_true] at h
            by_cases he : (nx (l.drop a)).e = 0
            · rw [if_pos he, List.drop_drop] at h
              have ht : Tok l a (nx (l.drop a)).t (nx (l.drop a)).z := ⟨by
                generalize nx (l.drop a) = r at *
                obtain ⟨x, y, q⟩ := r
                have he : q = 0 := he
                rw [he], hlt, hb, hc⟩
              have hz := ht.z
              exact scn_sq l f (a + (nx (l.drop a)).z) _ B hz.2 (by rw [List.length_drop] at *; omega) h (hA.onto ht)
            · rw [if_neg he] at h; cases (Prod.mk.inj h).2
    · have e : a = l.length := by omega
      rw [List.drop_eq_nil_of_le (by omega), scn_end] at h
      rw [← (Prod.mk.inj h).1, ← e]
      exact hA
/-- What Tokens told: tokens, each at its place, and the end. -/
theorem toks_sq {l : List UInt8} {L : List (Tk × Nat)} (h : toks l false = (L, none)) : ∃ B, L = B ++ [(nul, l.length)] ∧ Sq l B l.length ∧ l.length ≤ 65536 := by
  unfold toks at h
  by_cases hb : 65536 < l.length
  · rw [if_pos hb] at h; cases (Prod.mk.inj h).2
  · rw [if_neg hb] at h
    obtain ⟨h1, h2⟩ := Prod.mk.inj h
    refine ⟨(scn false l.length l 0 []).1, h1.symm, ?_, by omega⟩
    have q := scn_sq l l.length 0 [] (scn false l.length l 0 []).1 (Nat.zero_le _) (by simp)
    rw [List.drop_zero] at q
    exact q (by rw [← h2]) (fun i hi => by simp at hi)
/-- Blanks and comments. -/
def sep : Nat → List UInt8
  | 0 => [32]
  | 1 => [10]
  | 2 => [9, 32, 13]
  | 3 => [40, 42, 32, 120, 32, 42, 41]
  | 4 => [32, 40, 42, 42, 41, 32]
  | _ => [10, 40, 42, 32, 40, 42, 32, 42, 41, 10]
def Hd (r : List UInt8) : Prop := ∃ c m, r = c :: m ∧ Stp c
theorem sep_hd (b : Nat) (r : List UInt8) : Hd (sep b ++ r) := by
  unfold sep
  split
  · exact ⟨32, _, rfl, Or.inl rfl⟩
  · exact ⟨10, _, rfl, Or.inr (Or.inl rfl)⟩
  · exact ⟨9, _, rfl, Or.inr (Or.inr (Or.inl rfl))⟩
  · exact ⟨40, _, rfl, Or.inr (Or.inr (Or.inr (Or.inl rfl)))⟩
  · exact ⟨32, _, rfl, Or.inl rfl⟩
  · exact ⟨10, _, rfl, Or.inr (Or.inl rfl)⟩
theorem at_cons {l : List UInt8} {k : Nat} {c : UInt8} {r : List UInt8} (e : l.drop k = c :: r) : ∃ h : k < l.length, l[k] = c ∧ l.drop (k + 1) = r := by
  have h : k < l.length := by
    have := congrArg List.length e
    rw [List.length_drop, List.length_cons] at this
    omega
  rw [drop_at h] at e
  exact ⟨h, (List.cons.inj e).1, (List.cons.inj e).2⟩
theorem At.b1 {l : List UInt8} {k : Nat} {A : List (Tk × Nat)} {c : UInt8} {r : List UInt8} (h : At false l k A) (e : l.drop k = c :: r) (hc : blk c false = true) : At false l (k + 1) A ∧ l.drop (k + 1) = r := by
  obtain ⟨h1, h2, h3⟩ := at_cons e
  exact ⟨h.blank h1 (by rw [h2]; exact hc), h3⟩
theorem At.c1 {l : List UInt8} {k z : Nat} {A : List (Tk × Nat)} {r x : List UInt8} (h : At false l k A) (e : l.drop k = 40 :: 42 :: r) (hz : csz (40 :: 42 :: r) = z) (h0 : ¬ z = 0) (hx : (40 :: 42 :: r).drop z = x) : At false l (k + z) A ∧ l.drop (k + z) = x := by
  obtain ⟨h1, h2, h3⟩ := at_cons e
  have q := h.comment h1 (by rw [h2]; decide) (by rw [e]; exact hp_iff.2 ⟨r, rfl⟩) (by rw [e, hz]; exact h0)
  rw [e, hz] at q
  exact ⟨q, by rw [← List.drop_drop, e]; exact hx⟩
theorem At.sep {l : List UInt8} {k : Nat} {A : List (Tk × Nat)} {r : List UInt8} (b : Nat) (h : At false l k A) (e : l.drop k = sep b ++ r) : At false l (k + (sep b).length) A ∧ l.drop (k + (sep b).length) = r := by
  unfold Go.Proofs.YtnponognncdkcaaDoor.sep at *
  split at e
  · exact h.b1 e (by decide)
  · exact h.b1 e (by decide)
  · obtain ⟨a1, d1⟩ := h.b1 e (by decide)
    obtain ⟨a2, d2⟩ := a1.b1 d1 (by decide)
    exact a2.b1 d2 (by decide)
  · exact h.c1 e rfl (by decide) rfl
  · obtain ⟨a1, d1⟩ := h.b1 e (by decide)
    obtain ⟨a2, d2⟩ := a1.c1 (z := 4) d1 rfl (by decide) rfl
    exact a2.b1 d2 (by decide)
  · obtain ⟨a1, d1⟩ := h.b1 e (by decide)
    obtain ⟨a2, d2⟩ := a1.c1 (z := 8) d1 rfl (by decide) rfl
    exact a2.b1 d2 (by decide)
/-- A piece: the program tells just this token of it, whatever blank stands behind. -/
structure Pc (p : List UInt8) (t : Tk) : Prop where
  n : ∀ c x, Stp c → nx (p ++ c :: x) = ⟨t, p.length, 0⟩
  b : ∃ d r, p = d :: r ∧ blk d false = false ∧ (d = 40 → r = [])
theorem Tok.piece {l : List UInt8} {a z : Nat} {t : Tk} (h : Tok l a t z) {m : Nat} (h1 : 1 ≤ m) (hm : m ≤ z) {F : Nat} (hF : m < F) (hr : rnx F ((l.drop a).take m) = some (t, m)) : Pc ((l.drop a).take m) t := by
  have hz := h.z
  have hl : ((l.drop a).take m).length = m := by rw [List.length_take, List.length_drop]; omega
  refine ⟨fun c x hc => by rw [hl]; exact h.part h1 hm hF hr c hc x, ?_⟩
  obtain ⟨d, r, e1, e2, e3, e4⟩ := h.alone
  obtain ⟨y, rfl⟩ : ∃ y, m = y + 1 := ⟨m - 1, by omega⟩
  have e5 : (l.drop a).take (y + 1) = d :: r.take y := by rw [← List.take_succ_cons, ← e1, List.take_take, Nat.min_eq_left hm]
  refine ⟨d, r.take y, e5, by rw [e2]; exact h.b, fun hd => ?_⟩
  subst hd
  rw [nx_open (l := r) (by rw [e3]; exact e4.symm), List.take_nil]
theorem At.pc {l : List UInt8} {k : Nat} {A : List (Tk × Nat)} {p r : List UInt8} {t : Tk} (h : At false l k A) (e : l.drop k = p ++ r) (hp : Pc p t) (hr : Hd r) : At false l (k + p.length) (A ++ [(t, k)]) ∧ l.drop (k + p.length) = r := by
  obtain ⟨c, m, rfl, hc⟩ := hr
  have hn := hp.n c m hc
  obtain ⟨d, q, rfl, hb, h4⟩ := hp.b
  obtain ⟨h1, h2, h3⟩ := at_cons e
  have ho : Lx.hp (l.drop k) [40, 42] = false := by
    rw [e]
    cases ho : Lx.hp (d :: q ++ c :: m) [40, 42] with
    | false => rfl
    | true =>
      exfalso
      obtain ⟨x, hx⟩ := hp_iff.1 ho
      have hd : d = 40 := ((List.cons.inj hx).1).symm
      rw [h4 hd] at hx
      have hc2 : c = 42 := ((List.cons.inj (List.cons.inj hx).2).1).symm
      rw [hc2] at hc
      rcases hc with q | q | q | q | q <;> exact absurd q (by decide)
  have q2 := h.token h1 (by rw [h2]; exact hb) ho (by rw [e, hn])
  rw [e, hn] at q2
  exact ⟨q2, by rw [← List.drop_drop, e, List.drop_left]⟩
/-- What was written so far is told as the first i tokens, whatever blank stands behind. -/
def Inv (B : List (Tk × Nat)) (i : Nat) (out : List UInt8) : Prop := ∃ A : List (Tk × Nat), A.map Prod.fst = (B.take i).map Prod.fst ∧ ∀ r, Hd r → At false (out ++ r) out.length A
theorem Inv.fresh (B : List (Tk × Nat)) : Inv B 0 [] := ⟨[], rfl, fun r _ => At.start false r⟩
theorem Inv.more {B : List (Tk × Nat)} {i a : Nat} {out p : List UInt8} {t : Tk} (h : Inv B i out) (b : Nat) (hB : B[i]? = some (t, a)) (hp : Pc p t) : Inv B (i + 1) (out ++ sep b ++ p) := by
  obtain ⟨A, hA, hat⟩ := h
  refine ⟨A ++ [(t, out.length + (sep b).length)], ?_, fun r hr => ?_⟩
  · rw [List.map_append, hA, List.take_add_one, hB, List.map_append]
    rfl
  · have h0 := hat (sep b ++ (p ++ r)) (sep_hd b _)
    have e0 : out ++ (sep b ++ (p ++ r)) = out ++ sep b ++ p ++ r := by simp
    rw [e0] at h0
    obtain ⟨h1, e1⟩ := h0.sep b (r := p ++ r) (by rw [List.append_assoc, List.append_assoc, List.drop_left])
    obtain ⟨h2, e2⟩ := h1.pc e1 hp hr
    rw [List.length_append, List.length_append]
    exact h2
/-- All written: the program tells the same tokens. -/
theorem Inv.whole {B : List (Tk × Nat)} {out : List UInt8} (h : Inv B B.length out) (hl : out.length + 1 ≤ 65536) : ∃ A : List (Tk × Nat), A.map Prod.fst = B.map Prod.fst ∧ toks (out ++ [32]) false = (A ++ [(nul, (out ++ [32]).length)], none) := by
  obtain ⟨A, hA, hat⟩ := h
  rw [List.take_length] at hA
  have h0 := hat [32] ⟨32, [], rfl, Or.inl rfl⟩
  obtain ⟨h1, e1⟩ := h0.b1 (c := 32) (r := []) (by rw [List.drop_left]) (by decide)
  have h2 := h1.out (by rw [List.length_append]; exact Nat.le_refl _)
  refine ⟨A, hA, ?_⟩
  unfold toks
  rw [if_neg (by rw [List.length_append]; show ¬ 65536 < out.length + 1; omega), h2]
end Go.Proofs.YtnponognncdkcaaDoor
