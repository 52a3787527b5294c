/- The walks: does a request, a reply fit? -/
import Derived.Test.YtehbbkdiekgpbaaWk9
import Derived.Test.YtehbbkdiekgpbaaWk9b
namespace Go.Proofs.Ytehbbkdiekgpbaa
open Go.RowKit
open Pdu
theorem rlim_lt (fn i : Nat) : (rlim fn).getD i 0 < 65536 := by
  have h : Words (rlim fn) := by
    unfold rlim
    repeat' split
    all_goals (unfold Words; decide)
  exact h.at i
theorem plim_lt (fn i : Nat) : (plim fn).getD i 0 < 65536 := by
  have h : Words (plim fn) := by
    unfold plim
    repeat' split
    all_goals (unfold Words; decide)
  exact h.at i
def rqV (fn addr n addr2 : Nat) (bv rv : Value) : Value := .agg #[.int .u8 fn, .int .u16 addr, .int .u16 n, .int .u16 addr2, bv, rv]
def rpV (fn exc addr n : Nat) (bv rv : Value) : Value := .agg #[.int .u8 fn, .int .u8 exc, .int .u16 addr, .int .u16 n, bv, rv]
set_option maxHeartbeats 1600000 in
theorem fits_w (fn addr n addr2 nb nr bc rc a0 a1 a2 a3 a4 a5 a6 a7 a8 a9 : Nat) (bo ro : Option Addr) (kn : Bool) (l6 : a6 < 65536) (l7 : a7 < 65536) (l8 : a8 < 65536) (l9 : a9 < 65536) (hr : ∀ w, Calls Try.prog 48 #[.int .u8 fn] w fun e w' => e = .returned (.tuple #[.agg #[.int .u16 a0, .int .u16 a1, .int .u16 a2, .int .u16 a3, .int .u16 a4, .int .u16 a5, .int .u16 a6, .int .u16 a7, .int .u16 a8, .int .u16 a9], .bool kn]) ∧ w' = w.alloc (.cells #[.int .u16 a0, .int .u16 a1, .int .u16 a2, .int .u16 a3, .int .u16 a4, .int .u16 a5, .int .u16 a6, .int .u16 a7, .int .u16 a8, .int .u16 a9] 76)) (w : World) :
    Calls Try.prog 31 #[rqV fn addr n addr2 (.slice bo nb bc) (.slice ro nr rc)] w fun e w' => e = .returned (.bool (kn && inside addr2 a2 a3 && inside n a4 a5 && inside nb a6 a7 && inside nr a8 a9)) ∧ Below w.heap.size w w' := by
  unfold rqV
  cases kn
  · go_enter Try.func31, Try.ntmps31
    go_wp2_with (first | (go_at_call 48; refine (hr _).mono ?_; rintro e w' ⟨rfl, hw⟩; subst w') | (go_at_call 49; refine (within16_c _ _ _ _).mono ?_; rintro e w' ⟨rfl, hw⟩; subst w') | (go_at_call 50; refine (withini_c _ _ _ (by assumption) (by assumption) _).mono ?_; rintro e w' ⟨rfl, hw⟩; subst w'))
    go_ret
    exact ⟨rfl, (below_new (below_new (below_new (Below.refl _ w) _) _) _)⟩
  · cases h1 : inside addr2 a2 a3
    · go_enter Try.func31, Try.ntmps31
      go_wp2_with (first | (go_at_call 48; refine (hr _).mono ?_; rintro e w' ⟨rfl, hw⟩; subst w') | (go_at_call 49; refine (within16_c _ _ _ _).mono ?_; rintro e w' ⟨rfl, hw⟩; subst w') | (go_at_call 50; refine (withini_c _ _ _ (by assumption) (by assumption) _).mono ?_; rintro e w' ⟨rfl, hw⟩; subst w'))
      go_ret
      exact ⟨rfl, (below_new (below_new (below_new (below_new (Below.refl _ w) _) _) _) _)⟩
    · cases h2 : inside n a4 a5
      · go_enter Try.func31, Try.ntmps31
        go_wp2_with (first | (go_at_call 48; refine (hr _).mono ?_; rintro e w' ⟨rfl, hw⟩; subst w') | (go_at_call 49; refine (within16_c _ _ _ _).mono ?_; rintro e w' ⟨rfl, hw⟩; subst w') | (go_at_call 50; refine (withini_c _ _ _ (by assumption) (by assumption) _).mono ?_; rintro e w' ⟨rfl, hw⟩; subst w'))
        go_ret
        exact ⟨rfl, (below_new (below_new (below_new (below_new (below_new (Below.refl _ w) _) _) _) _) _)⟩
      · cases h3 : inside nb a6 a7
        · go_enter Try.func31, Try.ntmps31
          go_wp2_with (first | (go_at_call 48; refine (hr _).mono ?_; rintro e w' ⟨rfl, hw⟩; subst w') | (go_at_call 49; refine (within16_c _ _ _ _).mono ?_; rintro e w' ⟨rfl, hw⟩; subst w') | (go_at_call 50; refine (withini_c _ _ _ (by assumption) (by assumption) _).mono ?_; rintro e w' ⟨rfl, hw⟩; subst w'))
          go_ret
          exact ⟨rfl, (below_new (below_new (below_new (below_new (below_new (below_new (Below.refl _ w) _) _) _) _) _) _)⟩
        · cases h4 : inside nr a8 a9
          · go_enter Try.func31, Try.ntmps31
            go_wp2_with (first | (go_at_call 48; refine (hr _).mono ?_; rintro e w' ⟨rfl, hw⟩; subst w') | (go_at_call 49; refine (within16_c _ _ _ _).mono ?_; rintro e w' ⟨rfl, hw⟩; subst w') | (go_at_call 50; refine (withini_c _ _ _ (by assumption) (by assumption) _).mono ?_; rintro e w' ⟨rfl, hw⟩; subst w'))
            go_ret
            exact ⟨rfl, (below_new (below_new (below_new (below_new (below_new (below_new (below_new (Below.refl _ w) _) _) _) _) _) _) _)⟩
          · go_enter Try.func31, Try.ntmps31
            go_wp2_with (first | (go_at_call 48; refine (hr _).mono ?_; rintro e w' ⟨rfl, hw⟩; subst w') | (go_at_call 49; refine (within16_c _ _ _ _).mono ?_; rintro e w' ⟨rfl, hw⟩; subst w') | (go_at_call 50; refine (withini_c _ _ _ (by assumption) (by assumption) _).mono ?_; rintro e w' ⟨rfl, hw⟩; subst w'))
            go_ret
            exact ⟨rfl, (below_new (below_new (below_new (below_new (below_new (below_new (below_new (Below.refl _ w) _) _) _) _) _) _) _)⟩
theorem fitsq_c (fn addr n addr2 nb nr bc rc : Nat) (bo ro : Option Addr) (w : World) :
    Calls Try.prog 31 #[rqV fn addr n addr2 (.slice bo nb bc) (.slice ro nr rc)] w fun e w' => e = .returned (.bool (known fn && inside addr2 ((rlim fn).getD 2 0) ((rlim fn).getD 3 0) && inside n ((rlim fn).getD 4 0) ((rlim fn).getD 5 0) && inside nb ((rlim fn).getD 6 0) ((rlim fn).getD 7 0) && inside nr ((rlim fn).getD 8 0) ((rlim fn).getD 9 0))) ∧ Below w.heap.size w w' :=
  fits_w fn addr n addr2 nb nr bc rc _ _ _ _ _ _ _ _ _ _ bo ro _ (rlim_lt fn 6) (rlim_lt fn 7) (rlim_lt fn 8) (rlim_lt fn 9) (fun w => rlim_c fn w) w
set_option maxHeartbeats 1600000 in
theorem rfits_w (fn addr n nb nr bc rc a0 a1 a2 a3 a4 a5 a6 a7 a8 a9 : Nat) (bo ro : Option Addr) (kn : Bool) (l6 : a6 < 65536) (l7 : a7 < 65536) (l8 : a8 < 65536) (l9 : a9 < 65536) (hr : ∀ w, Calls Try.prog 55 #[.int .u8 fn] w fun e w' => e = .returned (.tuple #[.agg #[.int .u16 a0, .int .u16 a1, .int .u16 a2, .int .u16 a3, .int .u16 a4, .int .u16 a5, .int .u16 a6, .int .u16 a7, .int .u16 a8, .int .u16 a9], .bool kn]) ∧ w' = (w.alloc (.cells #[.int .u16 a0, .int .u16 a1, .int .u16 a2, .int .u16 a3, .int .u16 a4, .int .u16 a5, .int .u16 a6, .int .u16 a7, .int .u16 a8, .int .u16 a9] 76)).alloc (.cells #[.int .u16 0, .int .u16 65535] 74)) (w : World) :
    Calls Try.prog 43 #[rpV fn 0 addr n (.slice bo nb bc) (.slice ro nr rc)] w fun e w' => e = .returned (.bool (kn && inside addr a0 a1 && inside n a4 a5 && inside nb a6 a7 && inside nr a8 a9)) ∧ Below w.heap.size w w' := by
  unfold rpV
  cases kn
  · go_enter Try.func43, Try.ntmps43
    go_wp2_with (first | (go_at_call 55; refine (hr _).mono ?_; rintro e w' ⟨rfl, hw⟩; subst w') | (go_at_call 49; refine (within16_c _ _ _ _).mono ?_; rintro e w' ⟨rfl, hw⟩; subst w') | (go_at_call 50; refine (withini_c _ _ _ (by assumption) (by assumption) _).mono ?_; rintro e w' ⟨rfl, hw⟩; subst w'))
    go_ret
    exact ⟨rfl, (below_new (below_new (below_new (below_new (Below.refl _ w) _) _) _) _)⟩
  · cases h1 : inside addr a0 a1
    · go_enter Try.func43, Try.ntmps43
      go_wp2_with (first | (go_at_call 55; refine (hr _).mono ?_; rintro e w' ⟨rfl, hw⟩; subst w') | (go_at_call 49; refine (within16_c _ _ _ _).mono ?_; rintro e w' ⟨rfl, hw⟩; subst w') | (go_at_call 50; refine (withini_c _ _ _ (by assumption) (by assumption) _).mono ?_; rintro e w' ⟨rfl, hw⟩; subst w'))
      go_ret
      exact ⟨rfl, (below_new (below_new (below_new (below_new (below_new (Below.refl _ w) _) _) _) _) _)⟩
    · cases h2 : inside n a4 a5
      · go_enter Try.func43, Try.ntmps43
        go_wp2_with (first | (go_at_call 55; refine (hr _).mono ?_; rintro e w' ⟨rfl, hw⟩; subst w') | (go_at_call 49; refine (within16_c _ _ _ _).mono ?_; rintro e w' ⟨rfl, hw⟩; subst w') | (go_at_call 50; refine (withini_c _ _ _ (by assumption) (by assumption) _).mono ?_; rintro e w' ⟨rfl, hw⟩; subst w'))
        go_ret
        exact ⟨rfl, (below_new (below_new (below_new (below_new (below_new (below_new (Below.refl _ w) _) _) _) _) _) _)⟩
      · cases h3 : inside nb a6 a7
        · go_enter Try.func43, Try.ntmps43
          go_wp2_with (first | (go_at_call 55; refine (hr _).mono ?_; rintro e w' ⟨rfl, hw⟩; subst w') | (go_at_call 49; refine (within16_c _ _ _ _).mono ?_; rintro e w' ⟨rfl, hw⟩; subst w') | (go_at_call 50; refine (withini_c _ _ _ (by assumption) (by assumption) _).mono ?_; rintro e w' ⟨rfl, hw⟩; subst w'))
          go_ret
          exact ⟨rfl, (below_new (below_new (below_new (below_new (below_new (below_new (below_new (Below.refl _ w) _) _) _) _) _) _) _)⟩
        · cases h4 : inside nr a8 a9
          · go_enter Try.func43, Try.ntmps43
            go_wp2_with (first | (go_at_call 55; refine (hr _).mono ?_; rintro e w' ⟨rfl, hw⟩; subst w') | (go_at_call 49; refine (within16_c _ _ _ _).mono ?_; rintro e w' ⟨rfl, hw⟩; subst w') | (go_at_call 50; refine (withini_c _ _ _ (by assumption) (by assumption) _).mono ?_; rintro e w' ⟨rfl, hw⟩; subst w'))
            go_ret
            exact ⟨rfl, (below_new (below_new (below_new (below_new (below_new (below_new (below_new (below_new (Below.refl _ w) _) _) _) _) _) _) _) _)⟩
          · go_enter Try.func43, Try.ntmps43
            go_wp2_with (first | (go_at_call 55; refine (hr _).mono ?_; rintro e w' ⟨rfl, hw⟩; subst w') | (go_at_call 49; refine (within16_c _ _ _ _).mono ?_; rintro e w' ⟨rfl, hw⟩; subst w') | (go_at_call 50; refine (withini_c _ _ _ (by assumption) (by assumption) _).mono ?_; rintro e w' ⟨rfl, hw⟩; subst w'))
            go_ret
            exact ⟨rfl, (below_new (below_new (below_new (below_new (below_new (below_new (below_new (below_new (Below.refl _ w) _) _) _) _) _) _) _) _)⟩
theorem fitsp_c (fn addr n nb nr bc rc : Nat) (bo ro : Option Addr) (w : World) :
    Calls Try.prog 43 #[rpV fn 0 addr n (.slice bo nb bc) (.slice ro nr rc)] w fun e w' => e = .returned (.bool (known fn && inside addr ((plim fn).getD 0 0) ((plim fn).getD 1 0) && inside n ((plim fn).getD 4 0) ((plim fn).getD 5 0) && inside nb ((plim fn).getD 6 0) ((plim fn).getD 7 0) && inside nr ((plim fn).getD 8 0) ((plim fn).getD 9 0))) ∧ Below w.heap.size w w' :=
  rfits_w fn addr n nb nr bc rc _ _ _ _ _ _ _ _ _ _ bo ro _ (plim_lt fn 6) (plim_lt fn 7) (plim_lt fn 8) (plim_lt fn 9) (fun w => plim_c fn w) w
end Go.Proofs.Ytehbbkdiekgpbaa
