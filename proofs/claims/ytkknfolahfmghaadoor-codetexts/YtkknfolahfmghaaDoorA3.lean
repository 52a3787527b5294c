/- The walks of Block, isBlock (stage 20). -/
import Derived.Test.YtkknfolahfmghaaDoorA2
namespace Go.Proofs.YtkknfolahfmghaaDoor
open Go.RowKit
open Fb Cod
theorem pinsOf_none (s : ByteArray) (h : Nob s) (w : World) : Calls Tryd.prog 84 #[.string s] w fun e w' => e = .returned (.tuple #[.slice none 0 0, .slice none 0 0]) ∧ w' = w := by
  have h0 := h 0 (by decide)
  have h1 := h 1 (by decide)
  have h2 := h 2 (by decide)
  have h3 := h 3 (by decide)
  have h4 := h 4 (by decide)
  have h5 := h 5 (by decide)
  have h6 := h 6 (by decide)
  have h7 := h 7 (by decide)
  have h8 := h 8 (by decide)
  have h9 := h 9 (by decide)
  simp only [nml] at h0 h1 h2 h3 h4 h5 h6 h7 h8 h9
  clear h
  go_enter Tryd.func84, Tryd.ntmps84
  go_wp2
  go_ret2
  exact ⟨rfl, rfl⟩
theorem block_no (s : ByteArray) (h : Nob s) (w : World) : Calls Tryd.prog 79 #[.string s] w fun e w' => e = .returned (.bool false) ∧ w' = w := by
  have PO := hid_as (pinsOf_none s h w)
  clear h
  go_enter Tryd.func79, Tryd.ntmps79
  go_wp2_with (go_at_call 84; refine PO.out.mono ?_; rintro e w' ⟨rfl, hw⟩; subst w')
  go_ret
  exact ⟨rfl, rfl⟩
theorem block_yes (k : Nat) (hk : k < 10) (w : World) : Calls Tryd.prog 79 #[.string (nm k)] w fun e w' => e = .returned (.bool true) ∧ Below w.heap.size w w' := by
  have PO := hid_as (pinsOf_c k hk w)
  have PB := hid_as (pwd_below w k)
  have h0 := pI_pos k hk
  have h0' : (0 : Int) < ((pI k).length : Int) := by omega
  generalize (pI k).length = n at *
  generalize (pO k).length = m at *
  generalize pwd w k = w1 at *
  go_enter Tryd.func79, Tryd.ntmps79
  go_wp2_with (go_at_call 84; refine PO.out.mono ?_; rintro e w' ⟨rfl, hw⟩; subst w')
  go_ret
  exact ⟨rfl, PB.out⟩
theorem pO_pos (k : Nat) (hk : k < 10) : 0 < (pO k).length := by
  match k, hk with
  | 0, _ => exact (by decide)
  | 1, _ => exact (by decide)
  | 2, _ => exact (by decide)
  | 3, _ => exact (by decide)
  | 4, _ => exact (by decide)
  | 5, _ => exact (by decide)
  | 6, _ => exact (by decide)
  | 7, _ => exact (by decide)
  | 8, _ => exact (by decide)
  | 9, _ => exact (by decide)
namespace Cod
def pns (k : Nat) : List (List UInt8 × Int) := pI k ++ pO k
end Cod
theorem kdf_own (k : Nat) (hk : k < 10) : ∀ j, j < (pns k).length → kdf ((pns k).getD j ([], 0)).1 (pns k) = ((pns k).getD j ([], 0)).2 := by
  match k, hk with
  | 0, _ => decide
  | 1, _ => decide
  | 2, _ => decide
  | 3, _ => decide
  | 4, _ => decide
  | 5, _ => decide
  | 6, _ => decide
  | 7, _ => decide
  | 8, _ => decide
  | 9, _ => decide
theorem getD_at {α : Type} (l : List α) (j : Nat) (d : α) (h : j < l.length) : l[j]? = some (l.getD j d) := by rw [List.getD_eq_getElem?_getD, List.getElem?_eq_getElem h]; rfl
theorem pk_eq {K : List Int} {A k : Nat} (h : A + ((pns k).length + 3) ≤ K.length) : ((K.drop A).take (pk k).length = pk k) ↔ (∀ j, j < (pns k).length → K.getD (A + j) 0 = ((pns k).getD j ([], 0)).2) ∧ ∀ j, j < 3 → K.getD (A + (pns k).length + j) 0 = 4 := by
  have hl : (pk k).length = (pns k).length + 3 := by simp [pk, pns]; omega
  have at1 : ∀ j, j < (pns k).length → (pk k)[j]? = some ((pns k).getD j ([], 0)).2 := fun j hj => by
    show ((pns k).map (·.2) ++ [4, 4, 4])[j]? = _
    rw [List.getElem?_append_left (by rw [List.length_map]; exact hj), List.getElem?_map, getD_at _ _ ([], 0) hj]
    rfl
  have at2 : ∀ j, j < 3 → (pk k)[(pns k).length + j]? = some 4 := fun j hj => by
    show ((pns k).map (·.2) ++ [4, 4, 4])[(pns k).length + j]? = _
    rw [List.getElem?_append_right (by rw [List.length_map]; omega), List.length_map, Nat.add_sub_cancel_left]
    match j, hj with
    | 0, _ => rfl
    | 1, _ => rfl
    | 2, _ => rfl
  have dr : ∀ j, j < (pns k).length + 3 → ((K.drop A).take (pk k).length)[j]? = some (K.getD (A + j) 0) := fun j hj => by
    rw [List.getElem?_take, if_pos (by omega), List.getElem?_drop, getD_at K (A + j) 0 (by omega)]
  constructor
  · intro e
    refine ⟨fun j hj => ?_, fun j hj => ?_⟩
    · have := dr j (by omega)
      rw [e, at1 j hj] at this
      exact (Option.some.inj this).symm
    · have := dr ((pns k).length + j) (by omega)
      rw [e, at2 j hj] at this
      rw [Nat.add_assoc]
      exact (Option.some.inj this).symm
  · rintro ⟨h1, h2⟩
    apply List.ext_getElem?
    intro j
    by_cases hj : j < (pns k).length + 3
    · rw [dr j hj]
      by_cases hj1 : j < (pns k).length
      · rw [at1 j hj1, h1 j hj1]
      · have := h2 (j - (pns k).length) (by omega)
        rw [show A + (pns k).length + (j - (pns k).length) = A + j by omega] at this
        have e2 := at2 (j - (pns k).length) (by omega)
        rw [show (pns k).length + (j - (pns k).length) = j by omega] at e2
        rw [this, e2]
    · rw [List.getElem?_eq_none (by rw [List.length_take]; omega), List.getElem?_eq_none (by omega)]
theorem str_cells {w : World} {g : Nat} {l : List (List UInt8 × Int)} (h : Lies w g 0 (strs l)) (j : Nat) (hj : j < l.length) : w.cell? ⟨g, j, none⟩ = some (.string (tx (l.getD j ([], 0)).1)) := by
  have := h j (.string (tx (l.getD j ([], 0)).1)) (by unfold strs; rw [List.getElem?_map, getD_at _ _ ([], 0) hj]; rfl)
  rwa [Nat.zero_add] at this
/-- The pins' names, one behind the other. -/
theorem own_lies {w : World} {base n g c : Nat} {e : TypeId} {vs : List Value} (h : w.ownsRow base e 1 (.slice (some ⟨g, 0, none⟩) n c) n vs) : Lies w g 0 vs := by
  intro j u hj
  rw [Nat.zero_add, h.cellAt j (by have := (List.getElem?_eq_some_iff.1 hj).1; have := h.1; omega), hj]
set_option maxHeartbeats 800000 in
set_option maxRecDepth 100000 in
theorem isBlock_yes (k : Nat) (hk : k < 10) (kb ko kn kc A : Nat) (K : List Int) (op b c : Int) (w : World) (hs : Lies w kb ko (i64s K)) (hkl : kn = K.length) (hc : kn ≤ kc) (k9 : kn ≤ 1000000) (h3 : A + ((pns k).length + 3) ≤ kn) :
    Calls Tryd.prog 71 #[.slice (some ⟨kb, ko, none⟩) kn kc, .agg #[.int .i64 op, .int .i64 (A : Int), .int .i64 b, .int .i64 c, .string (nm k)]] w fun e w' => e = .returned (.bool (decide ((K.drop A).take (pk k).length = pk k))) ∧ Below w.heap.size w w' := by
  obtain ⟨i0, hi, hz0, hz1, hz2⟩ := info_parts Tryd.infoStr
  have PQ := hid_as (pk_eq (K := K) (A := A) (k := k) (by rw [← hkl]; exact h3))
  obtain ⟨r, hr⟩ : ∃ r, r = decide ((K.drop A).take (pk k).length = pk k) := ⟨_, rfl⟩
  rw [← hr]
  have HR := hid_as hr
  have p1 := pI_le k
  have p2 := pO_le k
  have hN0 : (pns k).length = (pI k).length + (pO k).length := List.length_append
  have KO := hid_as (kdf_own k hk)
  have BY := hid_as (fun W : World => block_yes k hk W)
  have PN := hid_as (fun W : World => pins_c k hk W)
  have PI : Hid (∀ (q : List UInt8) (W : World), Calls Tryd.prog 81 #[.string (nm k), .string (tx q)] W fun e w' => e = .returned (.int .i64 (kdf q (pns k))) ∧ Below W.heap.size W w') := fun q W => by
    have h := pin_c k hk q W
    rw [show pI k ++ pO k = pns k from rfl] at h
    exact h
  have HP := hid_as (pI_pos k hk)
  have SA := hid_as (show strs (pI k) ++ strs (pO k) = strs (pns k) from (strs_app _ _).symm)
  have HOP := hid_as (pO_pos k hk)
  have HNP : Hid (0 < (pns k).length) := by have := HP.out; show 0 < (pns k).length; omega
  have ONE : Hid (∀ u ∈ strs (pO k), u.oneCell' = true) := fun u hu => by
    unfold strs at hu
    rw [List.mem_map] at hu
    obtain ⟨p, _, rfl⟩ := hu
    rfl
  generalize strs (pI k) = si at *
  generalize strs (pO k) = so at *
  generalize (pI k).length = n at *
  generalize (pO k).length = m at *
  generalize pns k = l at *
  obtain ⟨N, hN⟩ : ∃ N, N = l.length := ⟨_, rfl⟩
  rw [← hN] at hN0 h3 PQ KO HNP
  have AR : Hid (∀ W : World, Calls Tryd.prog 66 #[.slice (some ⟨kb, ko, none⟩) kn kc, .int .i64 (A : Int), .int .i64 ((N : Int) + 3)] W fun e w' => e = .returned (.bool true) ∧ w' = W) := fun W => by
    have q := areCells_c (some ⟨kb, ko, none⟩) kn kc (A : Int) ((N : Int) + 3) W (by omega) (by omega) (by omega)
    rw [decide_eq_true (show (0 : Int) ≤ (A : Int) by omega), decide_eq_true (show (A : Int) ≤ (kn : Int) - ((N : Int) + 3) by omega)] at q
    exact q
  obtain ⟨w1, hw1⟩ : ∃ w1, w.alloc (.cells #[.int .i64 op, .int .i64 (A : Int), .int .i64 b, .int .i64 c, .string (nm k)] 41) = w1 := ⟨_, rfl⟩
  obtain ⟨bs, hbs⟩ : ∃ bs, bs = w.heap.size := ⟨_, rfl⟩
  have K1 : Below w.heap.size w w1 := by rw [← hw1]; exact below_new1 _ _
  have r1 : w1.heap[bs]? = some (.cells (Ins.mk op A b c (nm k)).cs.toArray 41 (0, 0)) := by rw [← hw1, hbs]; exact heap_alloc_new w _
  have y1 : w1.cell? ⟨bs, 1, none⟩ = some (.int .i64 (A : Int)) := cell_row (k := 1) r1 rfl
  have y4 : w1.cell? ⟨bs, 4, none⟩ = some (.string (nm k)) := cell_row (k := 4) r1 rfl
  have LS : Hid (Lies w1 kb ko (i64s K)) := hs.below K1
  have KB := hid_as K1
  have KL := hid_as hkl
  have HN := hid_as hN
  clear hs r1 K1 hN hkl hr
  generalize nm k = s at *
  have SZ := hid_as (show n + m = N from hN0.symm)
  have m9 : n + m ≤ 8 := by omega
  have N9 : N ≤ 8 := by omega
  clear hN0
  have g3 : (A : Int) + (N : Int) + 3 ≤ (kc : Int) := by omega
  have g4 : A + N + 3 ≤ kc := by omega
  have g5 : A ≤ kc := by omega
  have g6 : A ≤ A + N + 3 := by omega
  have g7 : (A : Int) ≤ (A : Int) + (N : Int) + 3 := by omega
  have g8 : A + N + 3 - A = N + 3 := by omega
  go_enter Tryd.func71, Tryd.ntmps71
  go_upto_region 1 with fail
  rw [← hbs]
  clear hw1 hbs
  go_upto_region 3 with (go_at_call 79; refine (BY.out _).mono ?_; rintro e w2 ⟨rfl, b2⟩; have y1 := keep_cell b2 y1; have y4 := keep_cell b2 y4)
  have LS2 : Hid (Lies w2 kb ko (i64s K)) := LS.out.below b2
  have KB2 : Hid (Below w.heap.size w w2) := below_and KB.out b2
  have Y1 := hid_as y1
  have Y4 := hid_as y4
  clear b2 BY LS KB
  go_upto_region 4 with (go_at_call 80; refine (PN.out _).mono ?_; rintro e w3 ⟨v, u, rfl, ov, ou, b3⟩; have y1 := keep_cell b3 y1; have y4 := keep_cell b3 y4; obtain ⟨g1, c1, hv⟩ := own_at ov HP.out; obtain ⟨g2, c2, hu⟩ := own_at ou HOP.out; subst hv; subst hu)
  have B3 := hid_as b3
  have OV := hid_as ov
  have OU := hid_as ou
  have ON := hid_as (own_lies ou).news
  have OL : Hid (so.length = m * 1) := ou.1
  have Z3 := hid_as (Nat.le_refl w2.heap.size)
  clear b3 PN ov ou
  go_upto_region 5 with (at_builtin; go_must (refine wpList_append_own _ rfl _ _ 73 rfl w2.heap.size 9 i0 (.string ⟨#[]⟩) 1 16 Tryd.underlying73 hi hz0 hz1 hz2 rfl (by decide) _ n _ rfl OV.out ⟨g2, 0, none⟩ m c2 _ rfl OL.out ON.out ONE.out (by unfold maxLen; omega) (by omega) B3.out.size ?_); intro v' w4 hown hgrow _; rw [SA.out, SZ.out] at hown; obtain ⟨g', c', hv⟩ := own_at hown HNP.out; subst hv; have KB4 := hid_as (B3.out.grown hgrow B3.out.size (fun g hg' => (OV.out.lt g hg').1)); have OW := hid_as hown; clear hown hgrow; have y1 := keep_cell KB4.out Y1.out; have y4 := keep_cell KB4.out Y4.out)
  have LS4 : Hid (Lies w4 kb ko (i64s K)) := LS2.out.below KB4.out
  have SL : Hid (Lies w4 g' 0 (strs l)) := own_lies OW.out
  have KW4 : Hid (Below w.heap.size w w4) := below_and KB2.out KB4.out
  clear LS2 KB2 Y1 Y4 B3 OV OU ON OL Z3 KB4 OW ONE
  go_wp2_with (go_at_call 66; refine (AR.out _).mono ?_; rintro e w' ⟨rfl, hw⟩; subst w')
  rw [g8]
  go_loopw [46] (fun i wr => ∃ j : Nat, j ≤ N ∧ i = .int .i64 j ∧ Hid (∀ q, q < j → K.getD (A + q) 0 = (l.getD q ([], 0)).2) ∧ Below w4.heap.size w4 wr) (fun i _ => N - (intOf i).toNat)
  case atStart => exact ⟨0, by omega, rfl, fun q hq => absurd hq (Nat.not_lt_zero _), Below.refl _ _⟩
  case round =>
    obtain ⟨j, hj, rfl, HA, hB⟩ := hrel
    have BB := hid_as hB
    clear hB
    by_cases hjn : j < N
    · have hj2 : (j : Int) < (N : Int) := by omega
      have hj3 : (j : Int) < (N : Int) + 3 := by omega
      have hj4 : j < N + 3 := by omega
      have s0 := keep_cell BB.out (str_cells SL.out j (by rw [← HN.out]; exact hjn))
      have k0 : wr.cell? ⟨kb, ko + A + j, none⟩ = some (.int .i64 (K.getD (A + j) 0)) := by rw [Nat.add_assoc]; exact keep_cell BB.out (LS4.out (A + j) _ (i64s_at K (A + j) (by rw [← KL.out]; omega)))
      have z4 := keep_cell BB.out y4
      have KD := hid_as (KO.out j hjn)
      have QI := hid_as (fun W => PI.out (l.getD j ([], 0)).1 W)
      rw [KD.out] at QI
      generalize hx : (l.getD j ([], 0)).2 = x at *
      generalize (l.getD j ([], 0)).1 = q at *
      generalize hv : K.getD (A + j) 0 = v at *
      have HX := hid_as hx
      have HV := hid_as hv
      clear hx hv KD
      have CA := hid_as (fun W (h : Below wr.heap.size wr W) => (⟨keep_cell h k0, keep_cell h z4⟩ : W.cell? ⟨kb, ko + A + j, none⟩ = some (.int .i64 v) ∧ W.cell? ⟨bs, 4, none⟩ = some (.string s)))
      by_cases he : v = x
      · have hb : (v != x) = false := by simp [he]
        have HE := hid_as he
        clear he
        go_upto_region 11 with fail
        go_region_held3 (fun W => W.cell? ⟨kb, ko + A + j, none⟩ = some (.int .i64 v) ∧ W.cell? ⟨bs, 4, none⟩ = some (.string s)) (first | exact CA.out _ (Same.drewN _ _).below | exact CA.out _ (Same.drew _).below | exact CA.out _ (Below.refl _ _) | exact c3z) ((go_at_call 81; (with_reducible refine (QI.out _).mono ?_); rintro e w5 ⟨rfl, b5⟩; have b6 := (Same.drew wr).below.trans (b5.mono (Nat.le_refl _)); have c3z := CA.out _ b6))
        go_wp2
        go_roundw
        case rel =>
          refine ⟨j + 1, by omega, by go_num, hid_as (fun z hq => ?_), below_and BB.out b6⟩
          by_cases hqj : z < j
          · exact HA.out z hqj
          · obtain rfl : z = j := by omega
            rw [HV.out, HX.out, HE.out]
        case measure => simp [intOf]; omega
      · have hb : (v != x) = true := by rw [bne_iff_ne]; exact he
        have RF : Hid (r = false) := by
          rw [HR.out]
          refine decide_eq_false (fun e => he ?_)
          have := (PQ.out.1 e).1 j hjn
          rw [HV.out, HX.out] at this
          exact this
        clear he
        go_upto_region 11 with fail
        go_region_held3 (fun W => W.cell? ⟨kb, ko + A + j, none⟩ = some (.int .i64 v) ∧ W.cell? ⟨bs, 4, none⟩ = some (.string s)) (first | exact CA.out _ (Same.drewN _ _).below | exact CA.out _ (Same.drew _).below | exact CA.out _ (Below.refl _ _) | exact c3z) ((go_at_call 81; (with_reducible refine (QI.out _).mono ?_); rintro e w5 ⟨rfl, b5⟩; have b6 := (Same.drew wr).below.trans (b5.mono (Nat.le_refl _)); have c3z := CA.out _ b6))
        go_wp2
        go_ret
        exact ⟨ret_bool RF.out.symm, below_and KW4.out (below_and BB.out b6)⟩
    · have WB := hid_as BB.out
      obtain rfl : j = N := by omega
      have f1 : (j : Int) ≤ (j : Int) + 3 := by omega
      have f2 : (j : Int) ≤ (kc : Int) - (A : Int) := by omega
      have f3 : j + 3 - j = 3 := by omega
      go_upto_region 14 with fail
      go_wp2
      try rw [f3]
      go_loopw [66] (fun i w6 => ∃ t : Nat, t ≤ 3 ∧ i = .int .i64 t ∧ Hid (∀ z, z < t → K.getD (A + j + z) 0 = 4) ∧ w6 = wr) (fun i _ => 3 - (intOf i).toNat)
      case atStart => exact ⟨0, by omega, rfl, hid_as (fun z hz => absurd hz (Nat.not_lt_zero _)), rfl⟩
      case round =>
        obtain ⟨t, ht, rfl, HT, hw⟩ := hrel
        subst hw
        by_cases ht3 : t < 3
        · have ht4 : (t : Int) < 3 := by omega
          have kk : wr.cell? ⟨kb, ko + A + j + t, none⟩ = some (.int .i64 (K.getD (A + j + t) 0)) := by
            rw [Nat.add_assoc, Nat.add_assoc, ← Nat.add_assoc A]
            exact keep_cell WB.out (LS4.out (A + j + t) _ (i64s_at K (A + j + t) (by rw [← KL.out]; omega)))
          generalize hv : K.getD (A + j + t) 0 = v at *
          have HV := hid_as hv
          clear hv
          by_cases he : v = 4
          · have hb : (v != 4) = false := by simp [he]
            have HE := hid_as he
            clear he
            go_wp2
            go_roundw
            case rel =>
              refine ⟨t + 1, by omega, by go_num, hid_as (fun z hz => ?_), by first | trivial | rfl⟩
              by_cases hzt : z < t
              · exact HT.out z hzt
              · obtain rfl : z = t := by omega
                rw [HV.out, HE.out]
            case measure => simp [intOf]; omega
          · have hb : (v != 4) = true := by rw [bne_iff_ne]; exact he
            have RF : Hid (r = false) := by
              rw [HR.out]
              refine decide_eq_false (fun e => he ?_)
              have := (PQ.out.1 e).2 t ht3
              rw [HV.out] at this
              exact this
            clear he
            go_wp2
            go_ret
            exact ⟨ret_bool RF.out.symm, below_and KW4.out WB.out⟩
        · obtain rfl : t = 3 := by omega
          have RT : Hid (r = true) := by
            rw [HR.out]
            exact decide_eq_true (PQ.out.2 ⟨HA.out, HT.out⟩)
          go_wp2
          go_ret
          exact ⟨ret_bool RT.out.symm, below_and KW4.out WB.out⟩
end Go.Proofs.YtkknfolahfmghaaDoor
