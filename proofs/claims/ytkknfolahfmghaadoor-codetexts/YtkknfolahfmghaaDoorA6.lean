/- The walks of isWhole, checkAlone (stage 20). -/
import Derived.Test.YtkknfolahfmghaaDoorA5
namespace Go.Proofs.YtkknfolahfmghaaDoor
open Go.RowKit
open Fb Cod
/-- Code in memory: kinds, instructions. -/
structure Cd (w : World) (va : Option Addr) (kn kc : Nat) (la : Option Addr) (n lc : Nat) (K : List Int) (L : List Ins) : Prop where
  ks : Sl w (.slice va kn kc) (i64s K)
  kl : kn = K.length
  k9 : kn ≤ 1000000
  il : Il w la L
  nl : n = L.length
  n9 : n ≤ 1000000
theorem Cd.below {w u : World} {va : Option Addr} {kn kc : Nat} {la : Option Addr} {n lc : Nat} {K : List Int} {L : List Ins} (h : Cd w va kn kc la n lc K L) (k : Below w.heap.size w u) : Cd u va kn kc la n lc K L :=
  ⟨h.ks.below k, h.kl, h.k9, h.il.below k, h.nl, h.n9⟩
theorem all_take {K : List Int} {k : Nat} (h : (K.take k).all scal = true) (hk : k < K.length) (e : scal (K.getD k 0) = true) : (K.take (k + 1)).all scal = true := by
  rw [List.take_add_one, List.all_append, h, Bool.true_and, getD_at K k 0 hk]
  simpa using e
theorem all_scal_no {K : List Int} {k : Nat} (hk : k < K.length) (e : scal (K.getD k 0) = false) : K.all scal = false := by
  rw [List.all_eq_false]
  exact ⟨K.getD k 0, List.mem_of_getElem? (getD_at K k 0 hk), by rw [e]; simp⟩
set_option maxHeartbeats 800000 in
set_option maxRecDepth 100000 in
theorem isWhole_c {w : World} {va : Option Addr} {kn kc : Nat} {la : Option Addr} {n lc : Nat} {K : List Int} {L : List Ins} (h : Cd w va kn kc la n lc K L) :
    Calls Tryd.prog 56 #[.agg #[.slice va kn kc, .slice la n lc]] w fun e w' => e = .returned (.bool (whole K n)) ∧ Below w.heap.size w w' := by
  have KS := hid_as (h.ks.below (below_new1 w (.cells #[.slice va kn kc, .slice la n lc] 25)))
  have KB := hid_as (below_new1 w (.cells #[.slice va kn kc, .slice la n lc] 25))
  have KL := hid_as h.kl
  have k9 := h.k9
  have n9 := h.n9
  have SC := hid_as scalar_c
  clear h
  obtain ⟨w1, hw1⟩ : ∃ w1, w.alloc (.cells #[.slice va kn kc, .slice la n lc] 25) = w1 := ⟨_, rfl⟩
  obtain ⟨bs, hbs⟩ : ∃ bs, bs = w.heap.size := ⟨_, rfl⟩
  have r1 : w1.heap[bs]? = some (.cells [Value.slice va kn kc, .slice la n lc].toArray 25 (0, 0)) := by rw [← hw1, hbs]; exact heap_alloc_new w _
  have y0 : w1.cell? ⟨bs, 0, none⟩ = some (.slice va kn kc) := cell_row (k := 0) r1 rfl
  have y1 : w1.cell? ⟨bs, 1, none⟩ = some (.slice la n lc) := cell_row (k := 1) r1 rfl
  rw [hw1] at KS KB
  clear r1
  go_enter Tryd.func56, Tryd.ntmps56
  go_upto_region 1 with fail
  rw [← hbs]
  clear hw1 hbs
  go_wp2
  go_loopw [8] (fun i wr => ∃ k : Nat, k ≤ kn ∧ i = .int .i64 k ∧ Hid ((K.take k).all scal = true) ∧ wr = w1) (fun i _ => kn - (intOf i).toNat)
  case atStart => exact ⟨0, by omega, rfl, hid_as (by simp), rfl⟩
  case round =>
    obtain ⟨k, hk, rfl, HA, hw⟩ := hrel
    subst wr
    by_cases hkn : k < kn
    · have hk2 : (k : Int) < (kn : Int) := by omega
      have hkl : k < K.length := by rw [← KL.out]; exact hkn
      obtain ⟨kb, ko, rfl, ck⟩ := sl64_at KS.out hkl
      generalize hv : K.getD k 0 = v at *
      have HV := hid_as hv
      clear hv
      cases hs : scal v with
      | true =>
        have HN := hid_as (all_take HA.out hkl (by rw [HV.out]; exact hs))
        have SV := hid_as (fun W => SC.out v W)
        rw [hs] at SV
        clear hs
        go_wp2_with (go_at_call 65; refine (SV.out _).mono ?_; rintro e w' ⟨rfl, hw⟩; subst w')
        go_roundw
        case rel => exact ⟨k + 1, by omega, by go_num, HN, by first | trivial | rfl⟩
        case measure => simp [intOf]; omega
      | false =>
        have RF : Hid (whole K n = false) := by
          show whole K n = false
          unfold whole
          rw [all_scal_no hkl (by rw [HV.out]; exact hs)]
          rfl
        have SV := hid_as (fun W => SC.out v W)
        rw [hs] at SV
        clear hs
        go_wp2_with (go_at_call 65; refine (SV.out _).mono ?_; rintro e w' ⟨rfl, hw⟩; subst w')
        go_ret
        exact ⟨ret_bool RF.out.symm, KB.out⟩
    · obtain rfl : k = kn := by omega
      have AL : Hid (K.all scal = true) := by
        have := HA.out
        rwa [List.take_of_length_le (by rw [← KL.out]; exact Nat.le_refl _)] at this
      by_cases h1 : k ≤ 4096
      · have h1' : (k : Int) ≤ 4096 := by omega
        by_cases h2 : 0 < n
        · have h2' : (0 : Int) < (n : Int) := by omega
          by_cases h3 : n ≤ 32768
          · have h3' : (n : Int) ≤ 32768 := by omega
            have RF : Hid (whole K n = true) := by
              unfold whole
              rw [AL.out, ← KL.out, decide_eq_true h1, decide_eq_true h2, decide_eq_true h3]
              rfl
            go_wp2
            go_ret
            exact ⟨ret_bool RF.out.symm, KB.out⟩
          · have h3' : ¬ (n : Int) ≤ 32768 := by omega
            have RF : Hid (whole K n = false) := by
              show whole K n = false
              unfold whole
              rw [decide_eq_false h3]
              simp
            go_wp2
            go_ret
            exact ⟨ret_bool RF.out.symm, KB.out⟩
        · have h2' : ¬ (0 : Int) < (n : Int) := by omega
          have RF : Hid (whole K n = false) := by
            show whole K n = false
            unfold whole
            rw [decide_eq_false h2]
            simp
          go_wp2
          go_ret
          exact ⟨ret_bool RF.out.symm, KB.out⟩
      · have h1' : ¬ (k : Int) ≤ 4096 := by omega
        have RF : Hid (whole K n = false) := by
          show whole K n = false
          unfold whole
          rw [← KL.out, decide_eq_false h1]
          simp
        go_wp2
        go_ret
        exact ⟨ret_bool RF.out.symm, KB.out⟩
/-- What tells where code is wrong. -/
def Err (w : World) (r : Option Nat) (e : Value) (w' : World) : Prop :=
  match r with
  | none => e = .nilIface
  | some k => ∃ g, e = .iface 52 (.pointer (some ⟨g, 0, none⟩)) ∧ w.heap.size ≤ g ∧ w'.cell? ⟨g, 0, none⟩ = some (.int .i64 (k : Int)) ∧ w'.cell? ⟨g, 1, none⟩ = some (.int .i64 200)
theorem err_new (w W : World) (k : Nat) (h : w.heap.size ≤ W.heap.size) : Err w (some k) (.iface 52 (.pointer (some ⟨W.heap.size, 0, none⟩))) (W.alloc (.cells #[.int .i64 (k : Int), .int .i64 200] 57)) :=
  ⟨_, rfl, h, cell_row (l := [.int .i64 (k : Int), .int .i64 200]) (k := 0) (heap_alloc_new W _) rfl, cell_row (l := [.int .i64 (k : Int), .int .i64 200]) (k := 1) (heap_alloc_new W _) rfl⟩
theorem ins_cells {w : World} {la : Option Addr} {L : List Ins} {i : Nat} (h : Il w la L) (hi : i < L.length) : ∃ x b o, L[i]? = some x ∧ la = some ⟨b, o, none⟩ ∧ w.cell? ⟨b, o + i * 5, none⟩ = some (.int .i64 x.op) ∧ w.cell? ⟨b, o + i * 5 + 1, none⟩ = some (.int .i64 x.a) ∧ w.cell? ⟨b, o + i * 5 + 2, none⟩ = some (.int .i64 x.b) ∧ w.cell? ⟨b, o + i * 5 + 3, none⟩ = some (.int .i64 x.c) ∧ w.cell? ⟨b, o + i * 5 + 4, none⟩ = some (.string x.name) := by
  obtain ⟨b, o, r⟩ := h.at_ (List.getElem?_eq_getElem hi)
  exact ⟨_, b, o, List.getElem?_eq_getElem hi, r⟩
theorem find_no {α : Type} {p : α → Bool} {L : List α} (h : ∀ i x, i < L.length → L[i]? = some x → p x = false) : L.findIdx? p = none := by
  rw [List.findIdx?_eq_none_iff]
  intro x hx
  obtain ⟨i, hi, rfl⟩ := List.getElem_of_mem hx
  exact h i _ hi (List.getElem?_eq_getElem hi)
theorem find_at {α : Type} {p : α → Bool} {L : List α} {k : Nat} {x : α} (hk : L[k]? = some x) (hp : p x = true) (h : ∀ i y, i < k → L[i]? = some y → p y = false) : L.findIdx? p = some k := by
  have hl := (List.getElem?_eq_some_iff.1 hk).1
  rw [List.findIdx?_eq_some_iff_getElem]
  refine ⟨hl, ?_, fun j hj => ?_⟩
  · rw [(List.getElem?_eq_some_iff.1 hk).2]; exact hp
  · have := h j _ hj (List.getElem?_eq_getElem (show j < L.length by omega))
    rw [this]; simp
set_option maxHeartbeats 1600000 in
set_option maxRecDepth 100000 in
theorem checkAlone_c {w : World} {va : Option Addr} {kn kc : Nat} {la : Option Addr} {n lc : Nat} {K : List Int} {L : List Ins} (h : Cd w va kn kc la n lc K L) :
    Calls Tryd.prog 43 #[.agg #[.slice va kn kc, .slice la n lc]] w fun e w' => (∃ v, e = .returned v ∧ Err w (alone K L) v w') ∧ Below w.heap.size w w' := by
  obtain ⟨w1, hw1⟩ : ∃ w1, w.alloc (.cells #[.slice va kn kc, .slice la n lc] 25) = w1 := ⟨_, rfl⟩
  obtain ⟨bs, hbs⟩ : ∃ bs, bs = w.heap.size := ⟨_, rfl⟩
  have K1 : Below w.heap.size w w1 := by rw [← hw1]; exact below_new1 _ _
  have r1 : w1.heap[bs]? = some (.cells [Value.slice va kn kc, .slice la n lc].toArray 25 (0, 0)) := by rw [← hw1, hbs]; exact heap_alloc_new w _
  have y0 : w1.cell? ⟨bs, 0, none⟩ = some (.slice va kn kc) := cell_row (k := 0) r1 rfl
  have y1 : w1.cell? ⟨bs, 1, none⟩ = some (.slice la n lc) := cell_row (k := 1) r1 rfl
  have C1 := hid_as (h.below K1)
  have WH := hid_as (isWhole_c C1.out)
  have NL := hid_as h.nl
  have n9 := h.n9
  have KB := hid_as K1
  clear h K1 r1
  cases hW : whole K n with
  | false =>
    rw [hW] at WH
    have AL : Hid (alone K L = some 0) := by
      show alone K L = some 0
      unfold alone
      rw [← NL.out, hW]
      rfl
    clear hW
    rw [AL.out]
    have WR := hid_as (wrong_c 0)
    go_enter Tryd.func43, Tryd.ntmps43
    go_upto_region 1 with fail
    rw [← hbs]
    clear hw1 hbs
    go_wp2_with (first | (go_at_call 56; refine WH.out.mono ?_; rintro e w2 ⟨rfl, b2⟩) | (go_at_call 46; refine (WR.out _).mono ?_; rintro e w' ⟨rfl, hw⟩; subst w'))
    go_ret
    have B := below_and KB.out b2
    exact ⟨⟨_, rfl, err_new w _ 0 B.size⟩, below_new B _⟩
  | true =>
    rw [hW] at WH
    have AL : Hid (alone K L = L.findIdx? (fun x => !rgt K n x)) := by
      show alone K L = L.findIdx? (fun x => !rgt K n x)
      unfold alone
      rw [← NL.out, hW]
      rfl
    clear hW
    rw [AL.out]
    go_enter Tryd.func43, Tryd.ntmps43
    go_upto_region 1 with fail
    rw [← hbs]
    clear hw1 hbs
    go_upto_region 3 with (go_at_call 56; refine WH.out.mono ?_; rintro e w2 ⟨rfl, b2⟩; have y0 := keep_cell b2 y0; have y1 := keep_cell b2 y1)
    have C2 := hid_as (C1.out.below b2)
    have B2 := hid_as (below_and KB.out b2)
    clear b2 WH C1 KB
    go_wp2
    go_loopw [12] (fun i wr => ∃ k : Nat, k ≤ n ∧ i = .int .i64 k ∧ Hid (∀ i x, i < k → L[i]? = some x → (!rgt K n x) = false) ∧ Below w2.heap.size w2 wr) (fun i _ => n - (intOf i).toNat)
    case atStart => exact ⟨0, by omega, rfl, hid_as (fun i x hi => absurd hi (Nat.not_lt_zero _)), Below.refl _ _⟩
    case round =>
      obtain ⟨k, hk, rfl, HA, hB⟩ := hrel
      have BB := hid_as hB
      clear hB
      by_cases hkn : k < n
      · have hk2 : (k : Int) < (n : Int) := by omega
        have CR := hid_as (C2.out.below BB.out)
        obtain ⟨x, b, o, hx, rfl, x0, x1, x2, x3, x4⟩ := ins_cells CR.out.il (show k < L.length by rw [← NL.out]; exact hkn)
        have z0 := keep_cell BB.out y0
        have z1 := keep_cell BB.out y1
        have HX := hid_as hx
        clear hx
        have IR := hid_as (fun (W : World) (hb : Below wr.heap.size wr W) => isRight_c (la := some ⟨b, o, none⟩) (lc := lc) (n := n) ((CR.out.ks).below hb) CR.out.kl CR.out.k9 x)
        cases hr : rgt K n x with
        | true =>
          rw [hr] at IR
          have HN : Hid (∀ i y, i < k + 1 → L[i]? = some y → (!rgt K n y) = false) := fun i y hi hy => by
            by_cases hik : i < k
            · exact HA.out i y hik hy
            · obtain rfl : i = k := by omega
              rw [HX.out] at hy
              rw [← Option.some.inj hy, hr]
              rfl
          clear hr
          obtain ⟨op, a, bb, c, nm⟩ := x
          simp only at x0 x1 x2 x3 x4 IR
          have z0 := keep_cell (below_new1 wr (.cells #[.int .i64 op, .int .i64 a, .int .i64 bb, .int .i64 c, .string nm] 41)) z0
          have z1 := keep_cell (below_new1 wr (.cells #[.int .i64 op, .int .i64 a, .int .i64 bb, .int .i64 c, .string nm] 41)) z1
          go_wp2_with (go_at_call 57; refine (IR.out _ (below_new1 _ _)).mono ?_; rintro e w3 ⟨rfl, b3⟩)
          go_roundw
          case rel => exact ⟨k + 1, by omega, by go_num, HN, below_and BB.out (below_and (below_new1 _ _) b3)⟩
          case measure => simp [intOf]; omega
        | false =>
          rw [hr] at IR
          have FN : Hid (L.findIdx? (fun x => !rgt K n x) = some k) := find_at HX.out (by rw [hr]; rfl) HA.out
          have WR := hid_as (wrong_c k)
          clear hr
          obtain ⟨op, a, bb, c, nm⟩ := x
          simp only at x0 x1 x2 x3 x4 IR
          have z0 := keep_cell (below_new1 wr (.cells #[.int .i64 op, .int .i64 a, .int .i64 bb, .int .i64 c, .string nm] 41)) z0
          have z1 := keep_cell (below_new1 wr (.cells #[.int .i64 op, .int .i64 a, .int .i64 bb, .int .i64 c, .string nm] 41)) z1
          go_wp2_with (first | (go_at_call 57; refine (IR.out _ (below_new1 _ _)).mono ?_; rintro e w3 ⟨rfl, b3⟩) | (go_at_call 46; refine (WR.out _).mono ?_; rintro e w' ⟨rfl, hw⟩; subst w'))
          go_ret
          rw [FN.out]
          have B := below_and B2.out (below_and BB.out (below_and (below_new1 _ _) b3))
          exact ⟨⟨_, rfl, err_new w _ k B.size⟩, below_new B _⟩
      · obtain rfl : k = n := by omega
        have FN : Hid (L.findIdx? (fun x => !rgt K k x) = none) := find_no (fun i x hi hx => HA.out i x (by rw [NL.out]; exact hi) hx)
        go_wp2
        go_ret
        rw [FN.out]
        exact ⟨⟨_, rfl, rfl⟩, below_and B2.out BB.out⟩
end Go.Proofs.YtkknfolahfmghaaDoor
