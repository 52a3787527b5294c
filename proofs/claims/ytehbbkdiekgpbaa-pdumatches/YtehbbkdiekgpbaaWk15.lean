/- The walk: a reply that is an exception. -/
import Derived.Test.YtehbbkdiekgpbaaJ2
namespace Go.Proofs.Ytehbbkdiekgpbaa
open Go.RowKit
open Pdu
def low (fn : Nat) : Bool := decide (fn < 128)
set_option maxRecDepth 100000 in
set_option maxHeartbeats 3200000 in
theorem xfits_w (fn exc addr n nb nr bc rc a0 a1 a2 a3 a4 a5 a6 a7 a8 a9 : Nat) (bo ro : Option Addr) (kn : Bool) (he : exc ≠ 0) (hr : ∀ w, Calls Try.prog 55 #[.int .u8 fn] w fun e w' => e = .returned (.tuple #[.agg #[.int .u16 a0, .int .u16 a1, .int .u16 a2, .int .u16 a3, .int .u16 a4, .int .u16 a5, .int .u16 a6, .int .u16 a7, .int .u16 a8, .int .u16 a9], .bool kn]) ∧ w' = (w.alloc (.cells #[.int .u16 a0, .int .u16 a1, .int .u16 a2, .int .u16 a3, .int .u16 a4, .int .u16 a5, .int .u16 a6, .int .u16 a7, .int .u16 a8, .int .u16 a9] 76)).alloc (.cells #[.int .u16 0, .int .u16 65535] 74)) (w : World) :
    Calls Try.prog 43 #[rpV fn exc addr n (.slice bo nb bc) (.slice ro nr rc)] w fun e w' => e = .returned (.bool (low fn && inside addr 0 0 && inside n 0 0 && inside nb 0 0 && inside nr 0 0)) ∧ Below w.heap.size w w' := by
  have he' : ((exc : Int) == 0) = false := by rw [beq_eq_false_iff_ne]; omega
  have z0 : (0 : Nat) < 65536 := by decide
  have hlow : decide ((fn : Int) < 128) = low fn := by unfold low; rw [decide_eq_decide]; omega
  unfold rpV
  cases hl : low fn
  · go_enter Try.func43, Try.ntmps43
    go_wp2_with (first | (go_at_call 55; refine (hr _).mono ?_; rintro e w' ⟨rfl, hw⟩; subst w') | (go_at_call 49; refine (within16_c _ 0 0 _).mono ?_; rintro e w' ⟨rfl, hw⟩; subst w') | (go_at_call 50; refine (withini_c _ 0 0 z0 z0 _).mono ?_; rintro e w' ⟨rfl, hw⟩; subst w'))
    go_region
    all_goals
      go_wp2_with (first | (go_at_call 55; refine (hr _).mono ?_; rintro e w' ⟨rfl, hw⟩; subst w') | (go_at_call 49; refine (within16_c _ 0 0 _).mono ?_; rintro e w' ⟨rfl, hw⟩; subst w') | (go_at_call 50; refine (withini_c _ 0 0 z0 z0 _).mono ?_; rintro e w' ⟨rfl, hw⟩; subst w'))
      go_ret
      exact ⟨rfl, (Below.drew (below_new (below_new (below_new (below_new (Below.refl _ w) _) _) _) _))⟩
  · cases h1 : inside addr 0 0
    · go_enter Try.func43, Try.ntmps43
      go_wp2_with (first | (go_at_call 55; refine (hr _).mono ?_; rintro e w' ⟨rfl, hw⟩; subst w') | (go_at_call 49; refine (within16_c _ 0 0 _).mono ?_; rintro e w' ⟨rfl, hw⟩; subst w') | (go_at_call 50; refine (withini_c _ 0 0 z0 z0 _).mono ?_; rintro e w' ⟨rfl, hw⟩; subst w'))
      go_region
      all_goals
        go_wp2_with (first | (go_at_call 55; refine (hr _).mono ?_; rintro e w' ⟨rfl, hw⟩; subst w') | (go_at_call 49; refine (within16_c _ 0 0 _).mono ?_; rintro e w' ⟨rfl, hw⟩; subst w') | (go_at_call 50; refine (withini_c _ 0 0 z0 z0 _).mono ?_; rintro e w' ⟨rfl, hw⟩; subst w'))
        go_ret
        exact ⟨rfl, (below_new (Below.drew (below_new (below_new (below_new (below_new (Below.refl _ w) _) _) _) _)) _)⟩
    · cases h2 : inside n 0 0
      · go_enter Try.func43, Try.ntmps43
        go_wp2_with (first | (go_at_call 55; refine (hr _).mono ?_; rintro e w' ⟨rfl, hw⟩; subst w') | (go_at_call 49; refine (within16_c _ 0 0 _).mono ?_; rintro e w' ⟨rfl, hw⟩; subst w') | (go_at_call 50; refine (withini_c _ 0 0 z0 z0 _).mono ?_; rintro e w' ⟨rfl, hw⟩; subst w'))
        go_region
        all_goals
          go_wp2_with (first | (go_at_call 55; refine (hr _).mono ?_; rintro e w' ⟨rfl, hw⟩; subst w') | (go_at_call 49; refine (within16_c _ 0 0 _).mono ?_; rintro e w' ⟨rfl, hw⟩; subst w') | (go_at_call 50; refine (withini_c _ 0 0 z0 z0 _).mono ?_; rintro e w' ⟨rfl, hw⟩; subst w'))
          go_ret
          exact ⟨rfl, (below_new (below_new (Below.drew (below_new (below_new (below_new (below_new (Below.refl _ w) _) _) _) _)) _) _)⟩
      · cases h3 : inside nb 0 0
        · go_enter Try.func43, Try.ntmps43
          go_wp2_with (first | (go_at_call 55; refine (hr _).mono ?_; rintro e w' ⟨rfl, hw⟩; subst w') | (go_at_call 49; refine (within16_c _ 0 0 _).mono ?_; rintro e w' ⟨rfl, hw⟩; subst w') | (go_at_call 50; refine (withini_c _ 0 0 z0 z0 _).mono ?_; rintro e w' ⟨rfl, hw⟩; subst w'))
          go_region
          all_goals
            go_wp2_with (first | (go_at_call 55; refine (hr _).mono ?_; rintro e w' ⟨rfl, hw⟩; subst w') | (go_at_call 49; refine (within16_c _ 0 0 _).mono ?_; rintro e w' ⟨rfl, hw⟩; subst w') | (go_at_call 50; refine (withini_c _ 0 0 z0 z0 _).mono ?_; rintro e w' ⟨rfl, hw⟩; subst w'))
            go_ret
            exact ⟨rfl, (below_new (below_new (below_new (Below.drew (below_new (below_new (below_new (below_new (Below.refl _ w) _) _) _) _)) _) _) _)⟩
        · cases h4 : inside nr 0 0
          · go_enter Try.func43, Try.ntmps43
            go_wp2_with (first | (go_at_call 55; refine (hr _).mono ?_; rintro e w' ⟨rfl, hw⟩; subst w') | (go_at_call 49; refine (within16_c _ 0 0 _).mono ?_; rintro e w' ⟨rfl, hw⟩; subst w') | (go_at_call 50; refine (withini_c _ 0 0 z0 z0 _).mono ?_; rintro e w' ⟨rfl, hw⟩; subst w'))
            go_region
            all_goals
              go_wp2_with (first | (go_at_call 55; refine (hr _).mono ?_; rintro e w' ⟨rfl, hw⟩; subst w') | (go_at_call 49; refine (within16_c _ 0 0 _).mono ?_; rintro e w' ⟨rfl, hw⟩; subst w') | (go_at_call 50; refine (withini_c _ 0 0 z0 z0 _).mono ?_; rintro e w' ⟨rfl, hw⟩; subst w'))
              go_ret
              exact ⟨rfl, (below_new (below_new (below_new (below_new (Below.drew (below_new (below_new (below_new (below_new (Below.refl _ w) _) _) _) _)) _) _) _) _)⟩
          · go_enter Try.func43, Try.ntmps43
            go_wp2_with (first | (go_at_call 55; refine (hr _).mono ?_; rintro e w' ⟨rfl, hw⟩; subst w') | (go_at_call 49; refine (within16_c _ 0 0 _).mono ?_; rintro e w' ⟨rfl, hw⟩; subst w') | (go_at_call 50; refine (withini_c _ 0 0 z0 z0 _).mono ?_; rintro e w' ⟨rfl, hw⟩; subst w'))
            go_region
            all_goals
              go_wp2_with (first | (go_at_call 55; refine (hr _).mono ?_; rintro e w' ⟨rfl, hw⟩; subst w') | (go_at_call 49; refine (within16_c _ 0 0 _).mono ?_; rintro e w' ⟨rfl, hw⟩; subst w') | (go_at_call 50; refine (withini_c _ 0 0 z0 z0 _).mono ?_; rintro e w' ⟨rfl, hw⟩; subst w'))
              go_ret
              exact ⟨rfl, (below_new (below_new (below_new (below_new (Below.drew (below_new (below_new (below_new (below_new (Below.refl _ w) _) _) _) _)) _) _) _) _)⟩
end Go.Proofs.Ytehbbkdiekgpbaa
