/- The walk of isRight (stage 20). -/
import Derived.Test.YtkknfolahfmghaaDoorA4
namespace Go.Proofs.YtkknfolahfmghaaDoor
open Go.RowKit
open Fb Cod
set_option linter.unusedVariables false
theorem two_new1 (w : World) (o p : Obj) : Below w.heap.size w ((w.alloc o).alloc p) := below_and (below_new1 _ _) (below_new1 _ _)
set_option maxHeartbeats 800000 in
set_option maxRecDepth 100000 in
theorem right_1 {w : World} {va la : Option Addr} {kn kc n lc : Nat} {K : List Int} (hs : Sl w (.slice va kn kc) (i64s K)) (hk : kn = K.length) (k9 : kn ≤ 1000000) (a b c : Int) (nm : ByteArray) :
    Calls Tryd.prog 57 #[.agg #[.slice va kn kc, .slice la n lc], .agg #[.int .i64 1, .int .i64 a, .int .i64 b, .int .i64 c, .string nm]] w fun e w' => e = .returned (.bool (scal a)) ∧ Below w.heap.size w w' := by
  have SC := hid_as scalar_c
  clear hs hk
  go_enter Tryd.func57, Tryd.ntmps57
  go_wp2_with (go_at_call 65; refine (SC.out _ _).mono ?_; rintro e w' ⟨rfl, hw⟩; subst w')
  go_ret
  exact ⟨rfl, two_new1 _ _ _⟩
set_option maxHeartbeats 800000 in
set_option maxRecDepth 100000 in
theorem right_8 {w : World} {va la : Option Addr} {kn kc n lc : Nat} {K : List Int} (hs : Sl w (.slice va kn kc) (i64s K)) (hk : kn = K.length) (k9 : kn ≤ 1000000) (a b c : Int) (nm : ByteArray) :
    Calls Tryd.prog 57 #[.agg #[.slice va kn kc, .slice la n lc], .agg #[.int .i64 8, .int .i64 a, .int .i64 b, .int .i64 c, .string nm]] w fun e w' => e = .returned (.bool (scal a)) ∧ Below w.heap.size w w' := by
  have SC := hid_as scalar_c
  clear hs hk
  go_enter Tryd.func57, Tryd.ntmps57
  go_wp2_with (go_at_call 65; refine (SC.out _ _).mono ?_; rintro e w' ⟨rfl, hw⟩; subst w')
  go_ret
  exact ⟨rfl, two_new1 _ _ _⟩
set_option maxHeartbeats 800000 in
set_option maxRecDepth 100000 in
theorem right_2 {w : World} {va la : Option Addr} {kn kc n lc : Nat} {K : List Int} (hs : Sl w (.slice va kn kc) (i64s K)) (hk : kn = K.length) (k9 : kn ≤ 1000000) (a b c : Int) (nm : ByteArray) :
    Calls Tryd.prog 57 #[.agg #[.slice va kn kc, .slice la n lc], .agg #[.int .i64 2, .int .i64 a, .int .i64 b, .int .i64 c, .string nm]] w fun e w' => e = .returned (.bool (decide (0 ≤ a) && decide (a ≤ (kn : Int) - 1))) ∧ Below w.heap.size w w' := by
  have AR := hid_as (fun W : World => areCells_c va kn kc a 1 W (by omega) (by omega) (by omega))
  clear hs hk
  go_enter Tryd.func57, Tryd.ntmps57
  go_wp2_with (go_at_call 66; refine (AR.out _).mono ?_; rintro e w' ⟨rfl, hw⟩; subst w')
  go_ret
  exact ⟨rfl, two_new1 _ _ _⟩
set_option maxHeartbeats 800000 in
set_option maxRecDepth 100000 in
theorem right_3 {w : World} {va la : Option Addr} {kn kc n lc : Nat} {K : List Int} (hs : Sl w (.slice va kn kc) (i64s K)) (hk : kn = K.length) (k9 : kn ≤ 1000000) (a b c : Int) (nm : ByteArray) :
    Calls Tryd.prog 57 #[.agg #[.slice va kn kc, .slice la n lc], .agg #[.int .i64 3, .int .i64 a, .int .i64 b, .int .i64 c, .string nm]] w fun e w' => e = .returned (.bool (decide (0 ≤ a) && decide (a ≤ (kn : Int) - 1))) ∧ Below w.heap.size w w' := by
  have AR := hid_as (fun W : World => areCells_c va kn kc a 1 W (by omega) (by omega) (by omega))
  clear hs hk
  go_enter Tryd.func57, Tryd.ntmps57
  go_wp2_with (go_at_call 66; refine (AR.out _).mono ?_; rintro e w' ⟨rfl, hw⟩; subst w')
  go_ret
  exact ⟨rfl, two_new1 _ _ _⟩
set_option maxHeartbeats 800000 in
set_option maxRecDepth 100000 in
theorem right_4 {w : World} {va la : Option Addr} {kn kc n lc : Nat} {K : List Int} (hs : Sl w (.slice va kn kc) (i64s K)) (hk : kn = K.length) (k9 : kn ≤ 1000000) (a b c : Int) (nm : ByteArray) :
    Calls Tryd.prog 57 #[.agg #[.slice va kn kc, .slice la n lc], .agg #[.int .i64 4, .int .i64 a, .int .i64 b, .int .i64 c, .string nm]] w fun e w' => e = .returned (.bool (aris K ⟨4, a, b, c, nm⟩)) ∧ Below w.heap.size w w' := by
  have AC := hid_as (fun (W : World) (h : Below w.heap.size w W) => isArray_c (hs.below h) hk k9 ⟨4, a, b, c, nm⟩)
  clear hs hk
  go_enter Tryd.func57, Tryd.ntmps57
  go_wp2_with (go_at_call 67; refine (AC.out _ (two_new1 _ _ _)).mono ?_; rintro e w3 ⟨rfl, b3⟩)
  go_ret
  exact ⟨rfl, below_and (two_new1 _ _ _) b3⟩
set_option maxHeartbeats 800000 in
set_option maxRecDepth 100000 in
theorem right_5 {w : World} {va la : Option Addr} {kn kc n lc : Nat} {K : List Int} (hs : Sl w (.slice va kn kc) (i64s K)) (hk : kn = K.length) (k9 : kn ≤ 1000000) (a b c : Int) (nm : ByteArray) :
    Calls Tryd.prog 57 #[.agg #[.slice va kn kc, .slice la n lc], .agg #[.int .i64 5, .int .i64 a, .int .i64 b, .int .i64 c, .string nm]] w fun e w' => e = .returned (.bool (aris K ⟨5, a, b, c, nm⟩)) ∧ Below w.heap.size w w' := by
  have AC := hid_as (fun (W : World) (h : Below w.heap.size w W) => isArray_c (hs.below h) hk k9 ⟨5, a, b, c, nm⟩)
  clear hs hk
  go_enter Tryd.func57, Tryd.ntmps57
  go_wp2_with (go_at_call 67; refine (AC.out _ (two_new1 _ _ _)).mono ?_; rintro e w3 ⟨rfl, b3⟩)
  go_ret
  exact ⟨rfl, below_and (two_new1 _ _ _) b3⟩
set_option maxHeartbeats 800000 in
set_option maxRecDepth 100000 in
theorem right_6 {w : World} {va la : Option Addr} {kn kc n lc : Nat} {K : List Int} (hs : Sl w (.slice va kn kc) (i64s K)) (hk : kn = K.length) (k9 : kn ≤ 1000000) (a b c : Int) (nm : ByteArray) :
    Calls Tryd.prog 57 #[.agg #[.slice va kn kc, .slice la n lc], .agg #[.int .i64 6, .int .i64 a, .int .i64 b, .int .i64 c, .string nm]] w fun e w' => e = .returned (.bool (aris K ⟨6, a, b, c, nm⟩)) ∧ Below w.heap.size w w' := by
  have AC := hid_as (fun (W : World) (h : Below w.heap.size w W) => isArray_c (hs.below h) hk k9 ⟨6, a, b, c, nm⟩)
  clear hs hk
  go_enter Tryd.func57, Tryd.ntmps57
  go_wp2_with (go_at_call 67; refine (AC.out _ (two_new1 _ _ _)).mono ?_; rintro e w3 ⟨rfl, b3⟩)
  go_ret
  exact ⟨rfl, below_and (two_new1 _ _ _) b3⟩
set_option maxHeartbeats 800000 in
set_option maxRecDepth 100000 in
theorem right_22 {w : World} {va la : Option Addr} {kn kc n lc : Nat} {K : List Int} (hs : Sl w (.slice va kn kc) (i64s K)) (hk : kn = K.length) (k9 : kn ≤ 1000000) (a b c : Int) (nm : ByteArray) :
    Calls Tryd.prog 57 #[.agg #[.slice va kn kc, .slice la n lc], .agg #[.int .i64 22, .int .i64 a, .int .i64 b, .int .i64 c, .string nm]] w fun e w' => e = .returned (.bool (blk K ⟨22, a, b, c, nm⟩)) ∧ Below w.heap.size w w' := by
  have AC := hid_as (fun (W : World) (h : Below w.heap.size w W) => isBlock_c (hs.below h) hk k9 ⟨22, a, b, c, nm⟩)
  clear hs hk
  go_enter Tryd.func57, Tryd.ntmps57
  go_wp2_with (go_at_call 71; refine (AC.out _ (two_new1 _ _ _)).mono ?_; rintro e w3 ⟨rfl, b3⟩)
  go_ret
  exact ⟨rfl, below_and (two_new1 _ _ _) b3⟩
set_option maxHeartbeats 800000 in
set_option maxRecDepth 100000 in
theorem right_7 {w : World} {va la : Option Addr} {kn kc n lc : Nat} {K : List Int} (hs : Sl w (.slice va kn kc) (i64s K)) (hk : kn = K.length) (k9 : kn ≤ 1000000) (a b c : Int) (nm : ByteArray) :
    Calls Tryd.prog 57 #[.agg #[.slice va kn kc, .slice la n lc], .agg #[.int .i64 7, .int .i64 a, .int .i64 b, .int .i64 c, .string nm]] w fun e w' => e = .returned (.bool (sgn a)) ∧ Below w.heap.size w w' := by
  have SG := hid_as signed_c
  clear hs hk
  go_enter Tryd.func57, Tryd.ntmps57
  go_wp2_with (go_at_call 68; refine (SG.out _ _).mono ?_; rintro e w' ⟨rfl, hw⟩; subst w')
  go_ret
  exact ⟨rfl, two_new1 _ _ _⟩
set_option maxHeartbeats 800000 in
set_option maxRecDepth 100000 in
theorem right_12 {w : World} {va la : Option Addr} {kn kc n lc : Nat} {K : List Int} (hs : Sl w (.slice va kn kc) (i64s K)) (hk : kn = K.length) (k9 : kn ≤ 1000000) (a b c : Int) (nm : ByteArray) :
    Calls Tryd.prog 57 #[.agg #[.slice va kn kc, .slice la n lc], .agg #[.int .i64 12, .int .i64 a, .int .i64 b, .int .i64 c, .string nm]] w fun e w' => e = .returned (.bool (sgn a)) ∧ Below w.heap.size w w' := by
  have SG := hid_as signed_c
  clear hs hk
  go_enter Tryd.func57, Tryd.ntmps57
  go_wp2_with (go_at_call 68; refine (SG.out _ _).mono ?_; rintro e w' ⟨rfl, hw⟩; subst w')
  go_ret
  exact ⟨rfl, two_new1 _ _ _⟩
set_option maxHeartbeats 800000 in
set_option maxRecDepth 100000 in
theorem right_9 {w : World} {va la : Option Addr} {kn kc n lc : Nat} {K : List Int} (hs : Sl w (.slice va kn kc) (i64s K)) (hk : kn = K.length) (k9 : kn ≤ 1000000) (a b c : Int) (nm : ByteArray) :
    Calls Tryd.prog 57 #[.agg #[.slice va kn kc, .slice la n lc], .agg #[.int .i64 9, .int .i64 a, .int .i64 b, .int .i64 c, .string nm]] w fun e w' => e = .returned (.bool (scal a && decide (5 ≤ b) && decide (b ≤ 18))) ∧ Below w.heap.size w w' := by
  have SC := hid_as (scalar_c a)
  clear hs hk
  cases hq : scal a with
  | false =>
    rw [hq] at SC
    clear hq
    go_enter Tryd.func57, Tryd.ntmps57
    go_wp2_with (go_at_call 65; refine (SC.out _).mono ?_; rintro e w' ⟨rfl, hw⟩; subst w')
    go_ret
    exact ⟨rfl, two_new1 _ _ _⟩
  | true =>
    rw [hq] at SC
    clear hq
    by_cases h1 : 5 ≤ b
    · by_cases h2 : b ≤ 18
      · have H : Hid ((true && decide (5 ≤ b) && decide (b ≤ 18)) = true) := by rw [decide_eq_true h1, decide_eq_true h2]; rfl
        go_enter Tryd.func57, Tryd.ntmps57
        go_wp2_with (go_at_call 65; refine (SC.out _).mono ?_; rintro e w' ⟨rfl, hw⟩; subst w')
        go_ret
        exact ⟨ret_bool H.out.symm, two_new1 _ _ _⟩
      · have H : Hid ((true && decide (5 ≤ b) && decide (b ≤ 18)) = false) := by rw [decide_eq_true h1, decide_eq_false h2]; rfl
        have H1 : Hid (decide (b ≤ 18) = false) := decide_eq_false h2
        go_enter Tryd.func57, Tryd.ntmps57
        go_wp2_with (go_at_call 65; refine (SC.out _).mono ?_; rintro e w' ⟨rfl, hw⟩; subst w')
        go_ret
        exact ⟨ret_bool (H1.out.trans H.out.symm), two_new1 _ _ _⟩
    · have H : Hid ((true && decide (5 ≤ b) && decide (b ≤ 18)) = false) := by rw [decide_eq_false h1]; rfl
      go_enter Tryd.func57, Tryd.ntmps57
      go_wp2_with (go_at_call 65; refine (SC.out _).mono ?_; rintro e w' ⟨rfl, hw⟩; subst w')
      go_ret
      exact ⟨ret_bool H.out.symm, two_new1 _ _ _⟩
set_option maxHeartbeats 800000 in
set_option maxRecDepth 100000 in
theorem right_10 {w : World} {va la : Option Addr} {kn kc n lc : Nat} {K : List Int} (hs : Sl w (.slice va kn kc) (i64s K)) (hk : kn = K.length) (k9 : kn ≤ 1000000) (a b c : Int) (nm : ByteArray) :
    Calls Tryd.prog 57 #[.agg #[.slice va kn kc, .slice la n lc], .agg #[.int .i64 10, .int .i64 a, .int .i64 b, .int .i64 c, .string nm]] w fun e w' => e = .returned (.bool (scal a && scal b)) ∧ Below w.heap.size w w' := by
  have SC := hid_as (scalar_c a)
  have SD := hid_as (scalar_c b)
  clear hs hk
  cases hq : scal a with
  | false =>
    rw [hq] at SC
    clear hq
    go_enter Tryd.func57, Tryd.ntmps57
    go_wp2_with (go_at_call 65; refine (SC.out _).mono ?_; rintro e w' ⟨rfl, hw⟩; subst w')
    go_ret
    exact ⟨rfl, two_new1 _ _ _⟩
  | true =>
    rw [hq] at SC
    clear hq
    cases hr : scal b with
    | false =>
      rw [hr] at SD
      clear hr
      go_enter Tryd.func57, Tryd.ntmps57
      go_wp2_with (first | (go_at_call 65; refine (SC.out _).mono ?_; rintro e w' ⟨rfl, hw⟩; subst w') | (go_at_call 65; refine (SD.out _).mono ?_; rintro e w' ⟨rfl, hw⟩; subst w'))
      go_ret
      exact ⟨rfl, two_new1 _ _ _⟩
    | true =>
      rw [hr] at SD
      clear hr
      go_enter Tryd.func57, Tryd.ntmps57
      go_wp2_with (first | (go_at_call 65; refine (SC.out _).mono ?_; rintro e w' ⟨rfl, hw⟩; subst w') | (go_at_call 65; refine (SD.out _).mono ?_; rintro e w' ⟨rfl, hw⟩; subst w'))
      go_ret
      exact ⟨rfl, two_new1 _ _ _⟩
set_option maxHeartbeats 800000 in
set_option maxRecDepth 100000 in
theorem right_11 {w : World} {va la : Option Addr} {kn kc n lc : Nat} {K : List Int} (hs : Sl w (.slice va kn kc) (i64s K)) (hk : kn = K.length) (k9 : kn ≤ 1000000) (a b c : Int) (nm : ByteArray) :
    Calls Tryd.prog 57 #[.agg #[.slice va kn kc, .slice la n lc], .agg #[.int .i64 11, .int .i64 a, .int .i64 b, .int .i64 c, .string nm]] w fun e w' => e = .returned (.bool (bitk a && shn nm)) ∧ Below w.heap.size w w' := by
  have SC := hid_as (bits_c 69 (Or.inl rfl) a)
  have SD := hid_as (isShift_c nm)
  clear hs hk
  cases hq : bitk a with
  | false =>
    rw [hq] at SC
    clear hq
    go_enter Tryd.func57, Tryd.ntmps57
    go_wp2_with (go_at_call 69; refine (SC.out _).mono ?_; rintro e w' ⟨rfl, hw⟩; subst w')
    go_ret
    exact ⟨rfl, two_new1 _ _ _⟩
  | true =>
    rw [hq] at SC
    clear hq
    cases hr : shn nm with
    | false =>
      rw [hr] at SD
      clear hr
      go_enter Tryd.func57, Tryd.ntmps57
      go_wp2_with (first | (go_at_call 69; refine (SC.out _).mono ?_; rintro e w' ⟨rfl, hw⟩; subst w') | (go_at_call 70; refine (SD.out _).mono ?_; rintro e w' ⟨rfl, hw⟩; subst w'))
      go_ret
      exact ⟨rfl, two_new1 _ _ _⟩
    | true =>
      rw [hr] at SD
      clear hr
      go_enter Tryd.func57, Tryd.ntmps57
      go_wp2_with (first | (go_at_call 69; refine (SC.out _).mono ?_; rintro e w' ⟨rfl, hw⟩; subst w') | (go_at_call 70; refine (SD.out _).mono ?_; rintro e w' ⟨rfl, hw⟩; subst w'))
      go_ret
      exact ⟨rfl, two_new1 _ _ _⟩
set_option maxHeartbeats 800000 in
set_option maxRecDepth 100000 in
theorem right_18 {w : World} {va la : Option Addr} {kn kc n lc : Nat} {K : List Int} (hs : Sl w (.slice va kn kc) (i64s K)) (hk : kn = K.length) (k9 : kn ≤ 1000000) (a b c : Int) (nm : ByteArray) :
    Calls Tryd.prog 57 #[.agg #[.slice va kn kc, .slice la n lc], .agg #[.int .i64 18, .int .i64 a, .int .i64 b, .int .i64 c, .string nm]] w fun e w' => e = .returned (.bool (decide (0 ≤ a) && decide (a < (n : Int)))) ∧ Below w.heap.size w w' := by
  clear hs hk
  by_cases h1 : 0 ≤ a
  · by_cases h2 : a < (n : Int)
    · have H : Hid ((decide (0 ≤ a) && decide (a < (n : Int))) = true) := by rw [decide_eq_true h1, decide_eq_true h2]; rfl
      go_enter Tryd.func57, Tryd.ntmps57
      go_wp2
      go_ret
      exact ⟨ret_bool H.out.symm, two_new1 _ _ _⟩
    · have H : Hid (decide (a < (n : Int)) = false) := decide_eq_false h2
      go_enter Tryd.func57, Tryd.ntmps57
      go_wp2
      go_ret
      exact ⟨ret_bool H.out.symm, two_new1 _ _ _⟩
  · have H : Hid ((decide (0 ≤ a) && decide (a < (n : Int))) = false) := by rw [decide_eq_false h1]; rfl
    go_enter Tryd.func57, Tryd.ntmps57
    go_wp2
    go_ret
    exact ⟨ret_bool H.out.symm, two_new1 _ _ _⟩
set_option maxHeartbeats 800000 in
set_option maxRecDepth 100000 in
theorem right_19 {w : World} {va la : Option Addr} {kn kc n lc : Nat} {K : List Int} (hs : Sl w (.slice va kn kc) (i64s K)) (hk : kn = K.length) (k9 : kn ≤ 1000000) (a b c : Int) (nm : ByteArray) :
    Calls Tryd.prog 57 #[.agg #[.slice va kn kc, .slice la n lc], .agg #[.int .i64 19, .int .i64 a, .int .i64 b, .int .i64 c, .string nm]] w fun e w' => e = .returned (.bool (decide (0 ≤ a) && decide (a < (n : Int)))) ∧ Below w.heap.size w w' := by
  clear hs hk
  by_cases h1 : 0 ≤ a
  · by_cases h2 : a < (n : Int)
    · have H : Hid ((decide (0 ≤ a) && decide (a < (n : Int))) = true) := by rw [decide_eq_true h1, decide_eq_true h2]; rfl
      go_enter Tryd.func57, Tryd.ntmps57
      go_wp2
      go_ret
      exact ⟨ret_bool H.out.symm, two_new1 _ _ _⟩
    · have H : Hid (decide (a < (n : Int)) = false) := decide_eq_false h2
      go_enter Tryd.func57, Tryd.ntmps57
      go_wp2
      go_ret
      exact ⟨ret_bool H.out.symm, two_new1 _ _ _⟩
  · have H : Hid ((decide (0 ≤ a) && decide (a < (n : Int))) = false) := by rw [decide_eq_false h1]; rfl
    go_enter Tryd.func57, Tryd.ntmps57
    go_wp2
    go_ret
    exact ⟨ret_bool H.out.symm, two_new1 _ _ _⟩
set_option maxHeartbeats 800000 in
set_option maxRecDepth 100000 in
theorem right_20 {w : World} {va la : Option Addr} {kn kc n lc : Nat} {K : List Int} (hs : Sl w (.slice va kn kc) (i64s K)) (hk : kn = K.length) (k9 : kn ≤ 1000000) (a b c : Int) (nm : ByteArray) :
    Calls Tryd.prog 57 #[.agg #[.slice va kn kc, .slice la n lc], .agg #[.int .i64 20, .int .i64 a, .int .i64 b, .int .i64 c, .string nm]] w fun e w' => e = .returned (.bool (decide (0 ≤ a) && decide (a < (n : Int)))) ∧ Below w.heap.size w w' := by
  clear hs hk
  by_cases h1 : 0 ≤ a
  · by_cases h2 : a < (n : Int)
    · have H : Hid ((decide (0 ≤ a) && decide (a < (n : Int))) = true) := by rw [decide_eq_true h1, decide_eq_true h2]; rfl
      go_enter Tryd.func57, Tryd.ntmps57
      go_wp2
      go_ret
      exact ⟨ret_bool H.out.symm, two_new1 _ _ _⟩
    · have H : Hid (decide (a < (n : Int)) = false) := decide_eq_false h2
      go_enter Tryd.func57, Tryd.ntmps57
      go_wp2
      go_ret
      exact ⟨ret_bool H.out.symm, two_new1 _ _ _⟩
  · have H : Hid ((decide (0 ≤ a) && decide (a < (n : Int))) = false) := by rw [decide_eq_false h1]; rfl
    go_enter Tryd.func57, Tryd.ntmps57
    go_wp2
    go_ret
    exact ⟨ret_bool H.out.symm, two_new1 _ _ _⟩
set_option maxHeartbeats 800000 in
set_option maxRecDepth 100000 in
theorem right_24 {w : World} {va la : Option Addr} {kn kc n lc : Nat} {K : List Int} (hs : Sl w (.slice va kn kc) (i64s K)) (hk : kn = K.length) (k9 : kn ≤ 1000000) (a b c : Int) (nm : ByteArray) :
    Calls Tryd.prog 57 #[.agg #[.slice va kn kc, .slice la n lc], .agg #[.int .i64 24, .int .i64 a, .int .i64 b, .int .i64 c, .string nm]] w fun e w' => e = .returned (.bool (decide (0 ≤ a) && decide (a < 256))) ∧ Below w.heap.size w w' := by
  clear hs hk
  by_cases h1 : 0 ≤ a
  · by_cases h2 : a < 256
    · have H : Hid ((decide (0 ≤ a) && decide (a < 256)) = true) := by rw [decide_eq_true h1, decide_eq_true h2]; rfl
      go_enter Tryd.func57, Tryd.ntmps57
      go_wp2
      go_ret
      exact ⟨ret_bool H.out.symm, two_new1 _ _ _⟩
    · have H : Hid (decide (a < 256) = false) := decide_eq_false h2
      go_enter Tryd.func57, Tryd.ntmps57
      go_wp2
      go_ret
      exact ⟨ret_bool H.out.symm, two_new1 _ _ _⟩
  · have H : Hid ((decide (0 ≤ a) && decide (a < 256)) = false) := by rw [decide_eq_false h1]; rfl
    go_enter Tryd.func57, Tryd.ntmps57
    go_wp2
    go_ret
    exact ⟨ret_bool H.out.symm, two_new1 _ _ _⟩
set_option maxHeartbeats 800000 in
set_option maxRecDepth 100000 in
theorem right_13 {w : World} {va la : Option Addr} {kn kc n lc : Nat} {K : List Int} (hs : Sl w (.slice va kn kc) (i64s K)) (hk : kn = K.length) (k9 : kn ≤ 1000000) (a b c : Int) (nm : ByteArray) :
    Calls Tryd.prog 57 #[.agg #[.slice va kn kc, .slice la n lc], .agg #[.int .i64 13, .int .i64 a, .int .i64 b, .int .i64 c, .string nm]] w fun e w' => e = .returned (.bool true) ∧ Below w.heap.size w w' := by
  have OC := hid_as (isOp_c 13)
  rw [show (decide ((1 : Int) ≤ 13) && decide ((13 : Int) ≤ 24)) = true from by decide] at OC
  clear hs hk
  go_enter Tryd.func57, Tryd.ntmps57
  go_wp2_with (go_at_call 49; refine (OC.out _).mono ?_; rintro e w' ⟨rfl, hw⟩; subst w')
  go_ret
  exact ⟨rfl, two_new1 _ _ _⟩
set_option maxHeartbeats 800000 in
set_option maxRecDepth 100000 in
theorem right_14 {w : World} {va la : Option Addr} {kn kc n lc : Nat} {K : List Int} (hs : Sl w (.slice va kn kc) (i64s K)) (hk : kn = K.length) (k9 : kn ≤ 1000000) (a b c : Int) (nm : ByteArray) :
    Calls Tryd.prog 57 #[.agg #[.slice va kn kc, .slice la n lc], .agg #[.int .i64 14, .int .i64 a, .int .i64 b, .int .i64 c, .string nm]] w fun e w' => e = .returned (.bool true) ∧ Below w.heap.size w w' := by
  have OC := hid_as (isOp_c 14)
  rw [show (decide ((1 : Int) ≤ 14) && decide ((14 : Int) ≤ 24)) = true from by decide] at OC
  clear hs hk
  go_enter Tryd.func57, Tryd.ntmps57
  go_wp2_with (go_at_call 49; refine (OC.out _).mono ?_; rintro e w' ⟨rfl, hw⟩; subst w')
  go_ret
  exact ⟨rfl, two_new1 _ _ _⟩
set_option maxHeartbeats 800000 in
set_option maxRecDepth 100000 in
theorem right_15 {w : World} {va la : Option Addr} {kn kc n lc : Nat} {K : List Int} (hs : Sl w (.slice va kn kc) (i64s K)) (hk : kn = K.length) (k9 : kn ≤ 1000000) (a b c : Int) (nm : ByteArray) :
    Calls Tryd.prog 57 #[.agg #[.slice va kn kc, .slice la n lc], .agg #[.int .i64 15, .int .i64 a, .int .i64 b, .int .i64 c, .string nm]] w fun e w' => e = .returned (.bool true) ∧ Below w.heap.size w w' := by
  have OC := hid_as (isOp_c 15)
  rw [show (decide ((1 : Int) ≤ 15) && decide ((15 : Int) ≤ 24)) = true from by decide] at OC
  clear hs hk
  go_enter Tryd.func57, Tryd.ntmps57
  go_wp2_with (go_at_call 49; refine (OC.out _).mono ?_; rintro e w' ⟨rfl, hw⟩; subst w')
  go_ret
  exact ⟨rfl, two_new1 _ _ _⟩
set_option maxHeartbeats 800000 in
set_option maxRecDepth 100000 in
theorem right_16 {w : World} {va la : Option Addr} {kn kc n lc : Nat} {K : List Int} (hs : Sl w (.slice va kn kc) (i64s K)) (hk : kn = K.length) (k9 : kn ≤ 1000000) (a b c : Int) (nm : ByteArray) :
    Calls Tryd.prog 57 #[.agg #[.slice va kn kc, .slice la n lc], .agg #[.int .i64 16, .int .i64 a, .int .i64 b, .int .i64 c, .string nm]] w fun e w' => e = .returned (.bool true) ∧ Below w.heap.size w w' := by
  have OC := hid_as (isOp_c 16)
  rw [show (decide ((1 : Int) ≤ 16) && decide ((16 : Int) ≤ 24)) = true from by decide] at OC
  clear hs hk
  go_enter Tryd.func57, Tryd.ntmps57
  go_wp2_with (go_at_call 49; refine (OC.out _).mono ?_; rintro e w' ⟨rfl, hw⟩; subst w')
  go_ret
  exact ⟨rfl, two_new1 _ _ _⟩
set_option maxHeartbeats 800000 in
set_option maxRecDepth 100000 in
theorem right_17 {w : World} {va la : Option Addr} {kn kc n lc : Nat} {K : List Int} (hs : Sl w (.slice va kn kc) (i64s K)) (hk : kn = K.length) (k9 : kn ≤ 1000000) (a b c : Int) (nm : ByteArray) :
    Calls Tryd.prog 57 #[.agg #[.slice va kn kc, .slice la n lc], .agg #[.int .i64 17, .int .i64 a, .int .i64 b, .int .i64 c, .string nm]] w fun e w' => e = .returned (.bool true) ∧ Below w.heap.size w w' := by
  have OC := hid_as (isOp_c 17)
  rw [show (decide ((1 : Int) ≤ 17) && decide ((17 : Int) ≤ 24)) = true from by decide] at OC
  clear hs hk
  go_enter Tryd.func57, Tryd.ntmps57
  go_wp2_with (go_at_call 49; refine (OC.out _).mono ?_; rintro e w' ⟨rfl, hw⟩; subst w')
  go_ret
  exact ⟨rfl, two_new1 _ _ _⟩
set_option maxHeartbeats 800000 in
set_option maxRecDepth 100000 in
theorem right_21 {w : World} {va la : Option Addr} {kn kc n lc : Nat} {K : List Int} (hs : Sl w (.slice va kn kc) (i64s K)) (hk : kn = K.length) (k9 : kn ≤ 1000000) (a b c : Int) (nm : ByteArray) :
    Calls Tryd.prog 57 #[.agg #[.slice va kn kc, .slice la n lc], .agg #[.int .i64 21, .int .i64 a, .int .i64 b, .int .i64 c, .string nm]] w fun e w' => e = .returned (.bool true) ∧ Below w.heap.size w w' := by
  have OC := hid_as (isOp_c 21)
  rw [show (decide ((1 : Int) ≤ 21) && decide ((21 : Int) ≤ 24)) = true from by decide] at OC
  clear hs hk
  go_enter Tryd.func57, Tryd.ntmps57
  go_wp2_with (go_at_call 49; refine (OC.out _).mono ?_; rintro e w' ⟨rfl, hw⟩; subst w')
  go_ret
  exact ⟨rfl, two_new1 _ _ _⟩
set_option maxHeartbeats 800000 in
set_option maxRecDepth 100000 in
theorem right_23 {w : World} {va la : Option Addr} {kn kc n lc : Nat} {K : List Int} (hs : Sl w (.slice va kn kc) (i64s K)) (hk : kn = K.length) (k9 : kn ≤ 1000000) (a b c : Int) (nm : ByteArray) :
    Calls Tryd.prog 57 #[.agg #[.slice va kn kc, .slice la n lc], .agg #[.int .i64 23, .int .i64 a, .int .i64 b, .int .i64 c, .string nm]] w fun e w' => e = .returned (.bool true) ∧ Below w.heap.size w w' := by
  have OC := hid_as (isOp_c 23)
  rw [show (decide ((1 : Int) ≤ 23) && decide ((23 : Int) ≤ 24)) = true from by decide] at OC
  clear hs hk
  go_enter Tryd.func57, Tryd.ntmps57
  go_wp2_with (go_at_call 49; refine (OC.out _).mono ?_; rintro e w' ⟨rfl, hw⟩; subst w')
  go_ret
  exact ⟨rfl, two_new1 _ _ _⟩
set_option maxHeartbeats 800000 in
set_option maxRecDepth 100000 in
theorem right_out {w : World} {va la : Option Addr} {kn kc n lc : Nat} {K : List Int} (hs : Sl w (.slice va kn kc) (i64s K)) (hk : kn = K.length) (k9 : kn ≤ 1000000) (a b c : Int) (nm : ByteArray) (op : Int) (ho : ¬ (1 ≤ op ∧ op ≤ 24)) :
    Calls Tryd.prog 57 #[.agg #[.slice va kn kc, .slice la n lc], .agg #[.int .i64 op, .int .i64 a, .int .i64 b, .int .i64 c, .string nm]] w fun e w' => e = .returned (.bool false) ∧ Below w.heap.size w w' := by
  have OC := hid_as (isOp_c op)
  rw [show (decide ((1 : Int) ≤ op) && decide (op ≤ 24)) = false by rw [Bool.eq_false_iff]; intro q; rw [Bool.and_eq_true, decide_eq_true_iff, decide_eq_true_iff] at q; exact ho q] at OC
  have e1 := ne_b (show op ≠ 1 by omega)
  have e8 := ne_b (show op ≠ 8 by omega)
  have e2 := ne_b (show op ≠ 2 by omega)
  have e3 := ne_b (show op ≠ 3 by omega)
  have e4 := ne_b (show op ≠ 4 by omega)
  have e5 := ne_b (show op ≠ 5 by omega)
  have e6 := ne_b (show op ≠ 6 by omega)
  have e7 := ne_b (show op ≠ 7 by omega)
  have e12 := ne_b (show op ≠ 12 by omega)
  have e9 := ne_b (show op ≠ 9 by omega)
  have e10 := ne_b (show op ≠ 10 by omega)
  have e11 := ne_b (show op ≠ 11 by omega)
  have e18 := ne_b (show op ≠ 18 by omega)
  have e19 := ne_b (show op ≠ 19 by omega)
  have e20 := ne_b (show op ≠ 20 by omega)
  have e22 := ne_b (show op ≠ 22 by omega)
  have e24 := ne_b (show op ≠ 24 by omega)
  clear ho hs hk
  go_enter Tryd.func57, Tryd.ntmps57
  go_wp2_with (go_at_call 49; refine (OC.out _).mono ?_; rintro e w' ⟨rfl, hw⟩; subst w')
  go_ret
  exact ⟨rfl, two_new1 _ _ _⟩
theorem isRight_c {w : World} {va la : Option Addr} {kn kc n lc : Nat} {K : List Int} (hs : Sl w (.slice va kn kc) (i64s K)) (hk : kn = K.length) (k9 : kn ≤ 1000000) (x : Ins) :
    Calls Tryd.prog 57 #[.agg #[.slice va kn kc, .slice la n lc], .agg #[.int .i64 x.op, .int .i64 x.a, .int .i64 x.b, .int .i64 x.c, .string x.name]] w fun e w' => e = .returned (.bool (rgt K n x)) ∧ Below w.heap.size w w' := by
  obtain ⟨op, a, b, c, nm⟩ := x
  simp only
  by_cases ho : 1 ≤ op ∧ op ≤ 24
  · have h : op = 1 ∨ op = 2 ∨ op = 3 ∨ op = 4 ∨ op = 5 ∨ op = 6 ∨ op = 7 ∨ op = 8 ∨ op = 9 ∨ op = 10 ∨ op = 11 ∨ op = 12 ∨ op = 13 ∨ op = 14 ∨ op = 15 ∨ op = 16 ∨ op = 17 ∨ op = 18 ∨ op = 19 ∨ op = 20 ∨ op = 21 ∨ op = 22 ∨ op = 23 ∨ op = 24 := by omega
    rcases h with rfl | rfl | rfl | rfl | rfl | rfl | rfl | rfl | rfl | rfl | rfl | rfl | rfl | rfl | rfl | rfl | rfl | rfl | rfl | rfl | rfl | rfl | rfl | rfl
    · exact right_1 hs hk k9 a b c nm
    · have e : rgt K n ⟨2, a, b, c, nm⟩ = (decide (0 ≤ a) && decide (a ≤ (kn : Int) - 1)) := by rw [hk]; rfl
      rw [e]
      exact right_2 hs hk k9 a b c nm
    · have e : rgt K n ⟨3, a, b, c, nm⟩ = (decide (0 ≤ a) && decide (a ≤ (kn : Int) - 1)) := by rw [hk]; rfl
      rw [e]
      exact right_3 hs hk k9 a b c nm
    · exact right_4 hs hk k9 a b c nm
    · exact right_5 hs hk k9 a b c nm
    · exact right_6 hs hk k9 a b c nm
    · exact right_7 hs hk k9 a b c nm
    · exact right_8 hs hk k9 a b c nm
    · exact right_9 hs hk k9 a b c nm
    · exact right_10 hs hk k9 a b c nm
    · exact right_11 hs hk k9 a b c nm
    · exact right_12 hs hk k9 a b c nm
    · exact right_13 hs hk k9 a b c nm
    · exact right_14 hs hk k9 a b c nm
    · exact right_15 hs hk k9 a b c nm
    · exact right_16 hs hk k9 a b c nm
    · exact right_17 hs hk k9 a b c nm
    · exact right_18 hs hk k9 a b c nm
    · exact right_19 hs hk k9 a b c nm
    · exact right_20 hs hk k9 a b c nm
    · exact right_21 hs hk k9 a b c nm
    · exact right_22 hs hk k9 a b c nm
    · exact right_23 hs hk k9 a b c nm
    · exact right_24 hs hk k9 a b c nm
  · have e : rgt K n ⟨op, a, b, c, nm⟩ = false := by
      cases hq : rgt K n ⟨op, a, b, c, nm⟩ with
      | false => rfl
      | true => exact absurd ⟨(rgt_ok hq).lo, (rgt_ok hq).hi⟩ ho
    rw [e]
    exact right_out hs hk k9 a b c nm op ho
end Go.Proofs.YtkknfolahfmghaaDoor
