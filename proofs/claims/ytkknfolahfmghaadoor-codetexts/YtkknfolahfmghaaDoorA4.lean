/- The walks of isBlock whole, of isRight (stage 20). -/
import Derived.Test.YtkknfolahfmghaaDoorA3
namespace Go.Proofs.YtkknfolahfmghaaDoor
open Go.RowKit
open Fb Cod
theorem tx_list (l : List UInt8) : (tx l).toList = l := by rw [ByteArray.toList_eq]; rfl
theorem name_cases (s : ByteArray) : (∃ k, k < 10 ∧ s = nm k) ∨ Nob s := by
  by_cases h : ∃ k, k < 10 ∧ s.toList = nml k
  · obtain ⟨k, hk, e⟩ := h
    refine Or.inl ⟨k, hk, ?_⟩
    rw [ByteArray.toList_eq] at e
    unfold nm tx
    rw [← e]
  · refine Or.inr fun k hk => ?_
    rw [beq_eq_false_iff_ne]
    exact fun e => h ⟨k, hk, e⟩
theorem any_nm (f : Nat → Bool) (k : Nat) (hk : k < 10) : ((List.range 10).any fun j => (nm k).toList == nml j && f j) = f k := by
  have e : (nm k).toList = nml k := tx_list _
  rw [e]
  match k, hk with
  | 0, _ => simp [List.range_succ, nml]
  | 1, _ => simp [List.range_succ, nml]
  | 2, _ => simp [List.range_succ, nml]
  | 3, _ => simp [List.range_succ, nml]
  | 4, _ => simp [List.range_succ, nml]
  | 5, _ => simp [List.range_succ, nml]
  | 6, _ => simp [List.range_succ, nml]
  | 7, _ => simp [List.range_succ, nml]
  | 8, _ => simp [List.range_succ, nml]
  | 9, _ => simp [List.range_succ, nml]
theorem blk_nob {K : List Int} {x : Ins} (h : Nob x.name) : blk K x = false := by
  unfold blk
  rw [List.any_eq_false]
  intro k hk
  rw [h k (by simpa using hk)]
  simp
theorem blk_nm {K : List Int} {x : Ins} {k : Nat} (hk : k < 10) (h : x.name = nm k) : blk K x = blkAt K x k := by
  unfold blk
  rw [h]
  exact any_nm (fun j => blkAt K x j) k hk
theorem pk_len (k : Nat) : (pk k).length = (pns k).length + 3 := by simp [pk, pns]; omega
set_option maxHeartbeats 800000 in
set_option maxRecDepth 100000 in
set_option linter.unusedVariables false in
theorem isBlock_far (k : Nat) (hk : k < 10) (va : Option Addr) (kn kc : Nat) (a op b c : Int) (w : World) (k9 : kn ≤ 1000000) (h3 : ¬ (0 ≤ a ∧ a ≤ (kn : Int) - (((pns k).length : Nat) + 3 : Nat))) :
    Calls Tryd.prog 71 #[.slice va kn kc, .agg #[.int .i64 op, .int .i64 a, .int .i64 b, .int .i64 c, .string (nm k)]] w fun e w' => e = .returned (.bool false) ∧ Below w.heap.size w w' := by
  obtain ⟨i0, hi, hz0, hz1, hz2⟩ := info_parts Tryd.infoStr
  have p1 := pI_le k
  have p2 := pO_le k
  have hN0 : (pns k).length = (pI k).length + (pO k).length := List.length_append
  have KO := hid_as (kdf_own k hk)
  have BY := hid_as (fun W : World => block_yes k hk W)
  have PN := hid_as (fun W : World => pins_c k hk W)
  have PI : Hid (∀ (q : List UInt8) (W : World), Calls Tryd.prog 81 #[.string (nm k), .string (tx q)] W fun e w' => e = .returned (.int .i64 (kdf q (pns k))) ∧ Below W.heap.size W w') := fun q W => by
    have h := pin_c k hk q W
    rw [show pI k ++ pO k = pns k from rfl] at h
    exact h
  have HP := hid_as (pI_pos k hk)
  have SA := hid_as (show strs (pI k) ++ strs (pO k) = strs (pns k) from (strs_app _ _).symm)
  have HOP := hid_as (pO_pos k hk)
  have HNP : Hid (0 < (pns k).length) := by have := HP.out; show 0 < (pns k).length; omega
  have ONE : Hid (∀ u ∈ strs (pO k), u.oneCell' = true) := fun u hu => by
    unfold strs at hu
    rw [List.mem_map] at hu
    obtain ⟨p, _, rfl⟩ := hu
    rfl
  generalize strs (pI k) = si at *
  generalize strs (pO k) = so at *
  generalize (pI k).length = n at *
  generalize (pO k).length = m at *
  generalize pns k = l at *
  obtain ⟨N, hN⟩ : ∃ N, N = l.length := ⟨_, rfl⟩
  rw [← hN] at hN0 h3 KO HNP
  have AR : Hid (∀ W : World, Calls Tryd.prog 66 #[.slice va kn kc, .int .i64 a, .int .i64 ((N : Int) + 3)] W fun e w' => e = .returned (.bool false) ∧ w' = W) := fun W => by
    have q := areCells_c va kn kc a ((N : Int) + 3) W (by omega) (by omega) (by omega)
    rw [show (decide (0 ≤ a) && decide (a ≤ (kn : Int) - ((N : Int) + 3))) = false by
      rw [Bool.eq_false_iff]
      intro e
      rw [Bool.and_eq_true, decide_eq_true_iff, decide_eq_true_iff] at e
      exact h3 ⟨e.1, by push_cast; omega⟩] at q
    exact q
  clear h3
  obtain ⟨w1, hw1⟩ : ∃ w1, w.alloc (.cells #[.int .i64 op, .int .i64 a, .int .i64 b, .int .i64 c, .string (nm k)] 41) = w1 := ⟨_, rfl⟩
  obtain ⟨bs, hbs⟩ : ∃ bs, bs = w.heap.size := ⟨_, rfl⟩
  have K1 : Below w.heap.size w w1 := by rw [← hw1]; exact below_new1 _ _
  have r1 : w1.heap[bs]? = some (.cells (Ins.mk op a b c (nm k)).cs.toArray 41 (0, 0)) := by rw [← hw1, hbs]; exact heap_alloc_new w _
  have y1 : w1.cell? ⟨bs, 1, none⟩ = some (.int .i64 a) := cell_row (k := 1) r1 rfl
  have y4 : w1.cell? ⟨bs, 4, none⟩ = some (.string (nm k)) := cell_row (k := 4) r1 rfl
  have KB := hid_as K1
  have HN := hid_as hN
  clear r1 K1 hN
  generalize nm k = s at *
  have SZ := hid_as (show n + m = N from hN0.symm)
  have m9 : n + m ≤ 8 := by omega
  have N9 : N ≤ 8 := by omega
  clear hN0
  go_enter Tryd.func71, Tryd.ntmps71
  go_upto_region 1 with fail
  rw [← hbs]
  clear hw1 hbs
  go_upto_region 3 with (go_at_call 79; refine (BY.out _).mono ?_; rintro e w2 ⟨rfl, b2⟩; have y1 := keep_cell b2 y1; have y4 := keep_cell b2 y4)
  have KB2 : Hid (Below w.heap.size w w2) := below_and KB.out b2
  have Y1 := hid_as y1
  have Y4 := hid_as y4
  clear b2 BY KB
  go_upto_region 4 with (go_at_call 80; refine (PN.out _).mono ?_; rintro e w3 ⟨v, u, rfl, ov, ou, b3⟩; have y1 := keep_cell b3 y1; have y4 := keep_cell b3 y4; obtain ⟨g1, c1, hv⟩ := own_at ov HP.out; obtain ⟨g2, c2, hu⟩ := own_at ou HOP.out; subst hv; subst hu)
  have B3 := hid_as b3
  have OV := hid_as ov
  have OU := hid_as ou
  have ON := hid_as (own_lies ou).news
  have OL : Hid (so.length = m * 1) := ou.1
  have Z3 := hid_as (Nat.le_refl w2.heap.size)
  clear b3 PN ov ou
  go_upto_region 5 with (at_builtin; go_must (refine wpList_append_own _ rfl _ _ 73 rfl w2.heap.size 9 i0 (.string ⟨#[]⟩) 1 16 Tryd.underlying73 hi hz0 hz1 hz2 rfl (by decide) _ n _ rfl OV.out ⟨g2, 0, none⟩ m c2 _ rfl OL.out ON.out ONE.out (by unfold maxLen; omega) (by omega) B3.out.size ?_); intro v' w4 hown hgrow _; rw [SA.out, SZ.out] at hown; obtain ⟨g', c', hv⟩ := own_at hown HNP.out; subst hv; have KB4 := hid_as (B3.out.grown hgrow B3.out.size (fun g hg' => (OV.out.lt g hg').1)); have OW := hid_as hown; clear hown hgrow; have y1 := keep_cell KB4.out Y1.out; have y4 := keep_cell KB4.out Y4.out)
  have SL : Hid (Lies w4 g' 0 (strs l)) := own_lies OW.out
  have KW4 : Hid (Below w.heap.size w w4) := below_and KB2.out KB4.out
  clear KB2 Y1 Y4 B3 OV OU ON OL Z3 KB4 OW ONE
  go_wp2_with (go_at_call 66; refine (AR.out _).mono ?_; rintro e w' ⟨rfl, hw⟩; subst w')
  go_ret
  exact ⟨rfl, KW4.out⟩
set_option maxHeartbeats 800000 in
theorem isBlock_nob (va : Option Addr) (kn kc : Nat) (a op b c : Int) (s : ByteArray) (h : Nob s) (w : World) :
    Calls Tryd.prog 71 #[.slice va kn kc, .agg #[.int .i64 op, .int .i64 a, .int .i64 b, .int .i64 c, .string s]] w fun e w' => e = .returned (.bool false) ∧ Below w.heap.size w w' := by
  have BN := hid_as (fun W : World => block_no s h W)
  clear h
  go_enter Tryd.func71, Tryd.ntmps71
  go_wp2_with (go_at_call 79; refine (BN.out _).mono ?_; rintro e w' ⟨rfl, hw⟩; subst w')
  go_ret
  exact ⟨rfl, below_new1 _ _⟩
theorem isBlock_c {w : World} {va : Option Addr} {kn kc : Nat} {K : List Int} (hs : Sl w (.slice va kn kc) (i64s K)) (hk : kn = K.length) (k9 : kn ≤ 1000000) (x : Ins) :
    Calls Tryd.prog 71 #[.slice va kn kc, .agg #[.int .i64 x.op, .int .i64 x.a, .int .i64 x.b, .int .i64 x.c, .string x.name]] w fun e w' => e = .returned (.bool (blk K x)) ∧ Below w.heap.size w w' := by
  rcases name_cases x.name with ⟨k, hk10, hn⟩ | hn
  · rw [blk_nm hk10 hn, hn]
    by_cases h : 0 ≤ x.a ∧ x.a ≤ (kn : Int) - (((pns k).length : Nat) + 3 : Nat)
    · rcases hs with ⟨h0, _⟩ | ⟨kb, ko, cap, e, hcap, hl⟩
      · have := congrArg List.length h0
        rw [i64s_len] at this
        have hK : K.length = 0 := this
        have h1 := h.1
        have h2 := h.2
        push_cast at h2
        omega
      · simp only [Value.slice.injEq] at e
        obtain ⟨rfl, e2, rfl⟩ := e
        rw [i64s_len] at hcap
        obtain ⟨op, a, b, c, nme⟩ := x
        simp only at h ⊢
        obtain ⟨A, rfl⟩ : ∃ A : Nat, a = (A : Int) := ⟨a.toNat, by omega⟩
        refine (isBlock_yes k hk10 kb ko kn kc A K op b c w hl hk (by omega) k9 (by omega)).mono ?_
        rintro e w' ⟨rfl, hb⟩
        refine ⟨ret_bool ?_, hb⟩
        unfold blkAt
        simp only [Int.toNat_natCast]
        rw [decide_eq_true (show (0 : Int) ≤ (A : Int) by omega), decide_eq_true (show (A : Int) ≤ (K.length : Int) - ((pk k).length : Int) by rw [pk_len, ← hk]; omega)]
        rfl
    · refine (isBlock_far k hk10 va kn kc x.a x.op x.b x.c w k9 h).mono ?_
      rintro e w' ⟨rfl, hb⟩
      refine ⟨ret_bool ?_, hb⟩
      unfold blkAt
      rw [pk_len, ← hk]
      by_cases h0 : 0 ≤ x.a
      · rw [decide_eq_false (show ¬ x.a ≤ (kn : Int) - (((pns k).length + 3 : Nat) : Int) from fun q => h ⟨h0, q⟩)]
        simp
      · rw [decide_eq_false h0]
        rfl
  · rw [blk_nob hn]
    exact isBlock_nob va kn kc x.a x.op x.b x.c x.name hn w
end Go.Proofs.YtkknfolahfmghaaDoor
