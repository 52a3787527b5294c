/- The walk of isArray (stage 20). -/
import Derived.Test.YtkknfolahfmghaaDoorA1
import Derived.Deep.CutRange
import Derived.Deep.CutBlock
namespace Go.Proofs.YtkknfolahfmghaaDoor
open Go.RowKit
open Fb Cod
theorem aris_parts (K : List Int) (x : Ins) : aris K x = true ↔ (1 ≤ x.b ∧ x.b ≤ 256) ∧ (0 ≤ x.a ∧ x.a ≤ (K.length : Int) - x.b) ∧ ((K.drop x.a.toNat).take x.b.toNat).all (fun k => k == K.getD x.a.toNat 0) = true ∧ (-2147483648 ≤ x.c ∧ x.c ≤ 2147483648 - x.b) := by
  unfold aris
  simp only [Bool.and_eq_true, decide_eq_true_iff]
  constructor
  · rintro ⟨⟨⟨⟨⟨⟨a, b⟩, c⟩, d⟩, e⟩, f⟩, g⟩
    exact ⟨⟨a, b⟩, ⟨c, d⟩, e, f, g⟩
  · rintro ⟨⟨a, b⟩, ⟨c, d⟩, e, f, g⟩
    exact ⟨⟨⟨⟨⟨⟨a, b⟩, c⟩, d⟩, e⟩, f⟩, g⟩
theorem not_aris {K : List Int} {x : Ins} (h : ¬ aris K x = true) : aris K x = false := by
  cases q : aris K x with
  | true => exact absurd q h
  | false => rfl
theorem all_next {K : List Int} {A N k : Nat} {v : Int} (h : ((K.drop A).take k).all (fun q => q == v) = true) (hk : k < N) (hA : A + N ≤ K.length) (e : (K.getD (A + k) 0 == v) = true) : ((K.drop A).take (k + 1)).all (fun q => q == v) = true := by
  rw [List.take_add_one, List.all_append, h, Bool.true_and]
  rw [List.getElem?_drop, List.getElem?_eq_getElem (show A + k < K.length by omega)]
  rw [List.getD_eq_getElem?_getD, List.getElem?_eq_getElem (show A + k < K.length by omega)] at e
  simpa using e
theorem all_not {K : List Int} {A N k : Nat} {v : Int} (hk : k < N) (hA : A + N ≤ K.length) (e : (K.getD (A + k) 0 == v) = false) : ((K.drop A).take N).all (fun q => q == v) = false := by
  rw [List.all_eq_false]
  refine ⟨K.getD (A + k) 0, ?_, by rw [e]; simp⟩
  rw [List.getD_eq_getElem?_getD, List.getElem?_eq_getElem (show A + k < K.length by omega)]
  refine List.mem_of_getElem? (i := k) ?_
  rw [List.getElem?_take, if_pos hk, List.getElem?_drop, List.getElem?_eq_getElem (show A + k < K.length by omega)]
  rfl
set_option maxHeartbeats 400000 in
set_option maxRecDepth 100000 in
theorem isArray_no (va : Option Addr) (kn kc : Nat) (K : List Int) (x : Ins) (w : World) (hk : kn = K.length) (k9 : kn ≤ 1000000) (h : ¬ ((1 ≤ x.b ∧ x.b ≤ 256) ∧ 0 ≤ x.a ∧ x.a ≤ (K.length : Int) - x.b)) :
    Calls Tryd.prog 67 #[.slice va kn kc, .agg #[.int .i64 x.op, .int .i64 x.a, .int .i64 x.b, .int .i64 x.c, .string x.name]] w fun e w' => e = .returned (.bool (aris K x)) ∧ Below w.heap.size w w' := by
  rw [not_aris (fun q => h ⟨((aris_parts K x).1 q).1, ((aris_parts K x).1 q).2.1⟩)]
  obtain ⟨op, a, b, c, nm⟩ := x
  simp only at h
  by_cases h1 : b < 1
  · clear h
    go_enter Tryd.func67, Tryd.ntmps67
    go_wp2
    go_ret
    exact ⟨rfl, below_new1 _ _⟩
  · by_cases h2 : 256 < b
    · clear h
      go_enter Tryd.func67, Tryd.ntmps67
      go_wp2
      go_ret
      exact ⟨rfl, below_new1 _ _⟩
    · have hf : (decide (0 ≤ a) && decide (a ≤ (kn : Int) - b)) = false := by
        rw [Bool.eq_false_iff]
        intro q
        rw [Bool.and_eq_true, decide_eq_true_iff, decide_eq_true_iff] at q
        exact h ⟨by omega, by omega⟩
      have AR : Hid (∀ W : World, Calls Tryd.prog 66 #[.slice va kn kc, .int .i64 a, .int .i64 b] W fun e w' => e = .returned (.bool false) ∧ w' = W) := fun W => by
        have q := areCells_c va kn kc a b W (by omega) (by omega) (by omega)
        rw [hf] at q
        exact q
      clear h hf hk
      go_enter Tryd.func67, Tryd.ntmps67
      go_wp2_with (go_at_call 66; refine (AR.out _).mono ?_; rintro e w' ⟨rfl, hw⟩; subst w')
      go_ret
      exact ⟨rfl, below_new1 _ _⟩
set_option maxHeartbeats 400000 in
set_option maxRecDepth 100000 in
theorem isArray_yes (kb ko kn kc A N : Nat) (K : List Int) (op c : Int) (nm : ByteArray) (w : World) (hs : Lies w kb ko (i64s K)) (hk : kn = K.length) (hc : kn ≤ kc) (k9 : kn ≤ 1000000) (h1 : 1 ≤ N) (h2 : N ≤ 256) (h3 : A + N ≤ kn) :
    Calls Tryd.prog 67 #[.slice (some ⟨kb, ko, none⟩) kn kc, .agg #[.int .i64 op, .int .i64 (A : Int), .int .i64 (N : Int), .int .i64 c, .string nm]] w fun e w' => e = .returned (.bool (((K.drop A).take N).all (fun k => k == K.getD A 0) && decide (-2147483648 ≤ c) && decide (c ≤ 2147483648 - (N : Int)))) ∧ Below w.heap.size w w' := by
  have AR := hid_as (fun W : World => areCells_c (some ⟨kb, ko, none⟩) kn kc (A : Int) (N : Int) W (by omega) (by omega) (by omega))
  have hf : (decide ((0 : Int) ≤ (A : Int)) && decide ((A : Int) ≤ (kn : Int) - (N : Int))) = true := by
    rw [decide_eq_true (show (0 : Int) ≤ (A : Int) by omega), decide_eq_true (show (A : Int) ≤ (kn : Int) - (N : Int) by omega)]; rfl
  rw [hf] at AR
  have RG := hid_as range4_c
  have HS := hid_as hs
  have HK := hid_as hk
  have g1 : ¬ (N : Int) < 1 := by omega
  have g2 : ¬ (256 : Int) < (N : Int) := by omega
  have g3 : (A : Int) + (N : Int) ≤ (kc : Int) := by omega
  have g4 : A + N ≤ kc := by omega
  have g5 : A ≤ kc := by omega
  have e9 : A + N - A = N := by omega
  obtain ⟨v, hv⟩ : ∃ v, v = K.getD A 0 := ⟨_, rfl⟩
  obtain ⟨w1, hw1⟩ : ∃ w1, w.alloc (.cells #[.int .i64 op, .int .i64 (A : Int), .int .i64 (N : Int), .int .i64 c, .string nm] 41) = w1 := ⟨_, rfl⟩
  obtain ⟨bs, hbs⟩ : ∃ bs, bs = w.heap.size := ⟨_, rfl⟩
  have K1 : Below w.heap.size w w1 := by rw [← hw1]; exact below_new1 _ _
  have r1 : w1.heap[bs]? = some (.cells (Ins.mk op A N c nm).cs.toArray 41 (0, 0)) := by rw [← hw1, hbs]; exact heap_alloc_new w _
  have y1 : w1.cell? ⟨bs, 1, none⟩ = some (.int .i64 (A : Int)) := cell_row (k := 1) r1 rfl
  have y2 : w1.cell? ⟨bs, 2, none⟩ = some (.int .i64 (N : Int)) := cell_row (k := 2) r1 rfl
  have y3 : w1.cell? ⟨bs, 3, none⟩ = some (.int .i64 c) := cell_row (k := 3) r1 rfl
  have LS : Hid (Lies w1 kb ko (i64s K)) := hs.below K1
  have ca : w1.cell? ⟨kb, ko + A, none⟩ = some (.int .i64 (K.getD A 0)) := LS.out A _ (i64s_at K A (by omega))
  rw [← hv] at ca ⊢
  have HV := hid_as hv
  have KB := hid_as K1
  clear hf hs hk hv r1 K1 HS
  go_enter Tryd.func67, Tryd.ntmps67
  go_upto_region 1 with fail
  rw [← hbs]
  clear hw1 hbs
  go_wp2_with (go_at_call 66; refine (AR.out _).mono ?_; rintro e w' ⟨rfl, hw⟩; subst w')
  go_loopw [36] (fun i wr => ∃ k : Nat, k ≤ N ∧ i = .int .i64 k ∧ ((K.drop A).take k).all (fun q => q == v) = true ∧ wr = w1) (fun i _ => N - (intOf i).toNat)
  case atStart => exact ⟨0, by omega, rfl, by simp, rfl⟩
  case round =>
    obtain ⟨k, hk, rfl, ha, hw⟩ := hrel
    subst wr
    have HA := hid_as ha
    clear ha
    by_cases hkn : k < N
    · have hk2 : (k : Int) < (N : Int) := by omega
      have hkl : A + k < K.length := by rw [← HK.out]; omega
      have ck : w1.cell? ⟨kb, ko + A + k, none⟩ = some (.int .i64 (K.getD (A + k) 0)) := by rw [Nat.add_assoc]; exact LS.out (A + k) _ (i64s_at K (A + k) hkl)
      obtain ⟨q, hq⟩ : ∃ q, q = K.getD (A + k) 0 := ⟨_, rfl⟩
      rw [← hq] at ck
      by_cases he : q = v
      · have hb : (q != v) = false := by simp [he]
        have HN := hid_as (all_next (N := N) HA.out hkn (by rw [← HK.out]; omega) (show (K.getD (A + k) 0 == v) = true by rw [← hq, he]; simp))
        have HE := hid_as he
        clear hq he
        go_wp2
        go_roundw
        case rel => exact ⟨k + 1, by omega, by go_num, HN.out, by first | trivial | rfl⟩
        case measure => simp [intOf]; omega
      · have hb : (q != v) = true := by rw [bne_iff_ne]; exact he
        have HF := hid_as (all_not (v := v) hkn (A := A) (K := K) (by rw [← HK.out]; omega) (show (K.getD (A + k) 0 == v) = false by rw [← hq]; rw [beq_eq_false_iff_ne]; exact he))
        clear hq he
        go_wp2
        go_ret
        refine ⟨ret_bool ?_, KB.out⟩
        rw [HF.out]
        rfl
    · obtain rfl : k = N := by omega
      have HG : Hid ((decide ((-2147483648 : Int) ≤ c) && decide (c ≤ 2147483648 - (k : Int))) = (decide ((-2147483648 : Int) ≤ c) && decide (c ≤ 2147483647 - ((k : Int) - 1)))) := by
        rw [show (2147483648 : Int) - (k : Int) = 2147483647 - ((k : Int) - 1) by omega]
        rfl
      by_cases hc1 : (-2147483648 : Int) ≤ c
      · go_wp2_with (go_at_call 78; refine (RG.out _).mono ?_; rintro e w' ⟨rfl, hw⟩; subst w')
        go_ret
        refine ⟨ret_bool ?_, KB.out⟩
        rw [HA.out, Bool.true_and, HG.out, decide_eq_true hc1]
        rfl
      · go_wp2_with (go_at_call 78; refine (RG.out _).mono ?_; rintro e w' ⟨rfl, hw⟩; subst w')
        go_ret
        refine ⟨ret_bool ?_, KB.out⟩
        rw [HA.out, Bool.true_and, HG.out, decide_eq_false (by omega)]
        rfl
theorem isArray_c {w : World} {va : Option Addr} {kn kc : Nat} {K : List Int} (hs : Sl w (.slice va kn kc) (i64s K)) (hk : kn = K.length) (k9 : kn ≤ 1000000) (x : Ins) :
    Calls Tryd.prog 67 #[.slice va kn kc, .agg #[.int .i64 x.op, .int .i64 x.a, .int .i64 x.b, .int .i64 x.c, .string x.name]] w fun e w' => e = .returned (.bool (aris K x)) ∧ Below w.heap.size w w' := by
  by_cases h : (1 ≤ x.b ∧ x.b ≤ 256) ∧ 0 ≤ x.a ∧ x.a ≤ (K.length : Int) - x.b
  · obtain ⟨⟨h1, h2⟩, h3, h4⟩ := h
    rcases hs with ⟨h0, _⟩ | ⟨kb, ko, cap, e, hcap, hl⟩
    · have := congrArg List.length h0
      rw [i64s_len] at this
      simp at this
      rw [this] at h4
      simp at h4
      omega
    · simp only [Value.slice.injEq] at e
      obtain ⟨rfl, e2, rfl⟩ := e
      rw [i64s_len] at hcap
      obtain ⟨op, a, b, c, nm⟩ := x
      simp only at h1 h2 h3 h4
      obtain ⟨A, rfl⟩ : ∃ A : Nat, a = (A : Int) := ⟨a.toNat, by omega⟩
      obtain ⟨N, rfl⟩ : ∃ N : Nat, b = (N : Int) := ⟨b.toNat, by omega⟩
      refine (isArray_yes kb ko kn kc A N K op c nm w hl hk (by omega) k9 (by omega) (by omega) (by omega)).mono ?_
      rintro e w' ⟨rfl, hb⟩
      refine ⟨ret_bool ?_, hb⟩
      unfold aris
      rw [decide_eq_true h1, decide_eq_true h2, decide_eq_true h3, decide_eq_true h4]
      simp only [Bool.true_and, Int.toNat_natCast]
  · exact isArray_no va kn kc K x w hk k9 h
end Go.Proofs.YtkknfolahfmghaaDoor
