/- The steps of edges and latches (stage 17). -/
import Derived.Test.YtbpnaenineinmaaF7
namespace Go.Proofs.Ytbpnaenineinmaa
open Go.RowKit
open Fb
theorem on0 {w : World} {g a b : Nat} {c : Ca} (h : Cl w g a b c) (hj : 0 < c.i.length) : Calls Try.prog 53 #[.pointer (some ⟨g, 0, none⟩), .int .i64 0] w fun e w' => e = .returned (.bool (tr (c.i.getD 0 0))) ∧ w' = w := on_c h 0 hj
theorem on1 {w : World} {g a b : Nat} {c : Ca} (h : Cl w g a b c) (hj : 1 < c.i.length) : Calls Try.prog 53 #[.pointer (some ⟨g, 0, none⟩), .int .i64 1] w fun e w' => e = .returned (.bool (tr (c.i.getD 1 0))) ∧ w' = w := on_c h 1 hj
theorem on2 {w : World} {g a b : Nat} {c : Ca} (h : Cl w g a b c) (hj : 2 < c.i.length) : Calls Try.prog 53 #[.pointer (some ⟨g, 0, none⟩), .int .i64 2] w fun e w' => e = .returned (.bool (tr (c.i.getD 2 0))) ∧ w' = w := on_c h 2 hj
theorem on3 {w : World} {g a b : Nat} {c : Ca} (h : Cl w g a b c) (hj : 3 < c.i.length) : Calls Try.prog 53 #[.pointer (some ⟨g, 0, none⟩), .int .i64 3] w fun e w' => e = .returned (.bool (tr (c.i.getD 3 0))) ∧ w' = w := on_c h 3 hj
theorem rises0 {w : World} {g a b : Nat} {c : Ca} (h : Cl w g a b c) (hj : 0 < c.i.length) : Calls Try.prog 51 #[.pointer (some ⟨g, 0, none⟩), .int .i64 0] w fun e w' => e = .returned (.bool (one (c.i.getD 0 0) c.k0)) ∧ w' = w := rises_c h 0 hj (by decide)
theorem rises1 {w : World} {g a b : Nat} {c : Ca} (h : Cl w g a b c) (hj : 1 < c.i.length) : Calls Try.prog 51 #[.pointer (some ⟨g, 0, none⟩), .int .i64 1] w fun e w' => e = .returned (.bool (one (c.i.getD 1 0) c.k1)) ∧ w' = w := rises_c h 1 hj (by decide)
theorem falls0 {w : World} {g a b : Nat} {c : Ca} (h : Cl w g a b c) (hj : 0 < c.i.length) : Calls Try.prog 56 #[.pointer (some ⟨g, 0, none⟩), .int .i64 0] w fun e w' => e = .returned (.bool (one c.k0 (c.i.getD 0 0))) ∧ w' = w := falls_c h 0 hj (by decide)
theorem hold0 {w : World} {g a b : Nat} {c : Ca} (h : Cl w g a b c) (hj : 0 < c.i.length) : Calls Try.prog 52 #[.pointer (some ⟨g, 0, none⟩), .int .i64 0] w (Lft w g a b { c with k0 := c.i.getD 0 0 }) := hold_c h 0 hj (by decide)
theorem hold1 {w : World} {g a b : Nat} {c : Ca} (h : Cl w g a b c) (hj : 1 < c.i.length) : Calls Try.prog 52 #[.pointer (some ⟨g, 0, none⟩), .int .i64 1] w (Lft w g a b { c with k1 := c.i.getD 1 0 }) := hold_c h 1 hj (by decide)
set_option maxHeartbeats 800000 in
theorem rising_c {w : World} {g a b : Nat} {c : Ca} (h : Cl w g a b c) (hi : c.i.length = 1) (ho : c.o.length = 1) :
    Calls Try.prog 50 #[.agg #[], .pointer (some ⟨g, 0, none⟩)] w (Lft w g a b { c with o := [b01 (one (c.i.getD 0 0) c.k0)], k0 := c.i.getD 0 0 }) := by
  have hE : c.o.set 0 (b01 (one (c.i.getD 0 0) c.k0)) = [b01 (one (c.i.getD 0 0) c.k0)] := by
    match c.o, ho with
    | [x], _ => rfl
  have KB : Hid (Below w.heap.size w (w.alloc (.cells #[] 66))) := below_new (Below.refl _ _) _
  have LW := hid_as (h.below KB.out)
  have NW : Hid (On g b w (w.alloc (.cells #[] 66))) := Only.ofBelow KB.out
  go_enter Try.func50, Try.ntmps50
  go_upto_region 1 with fail
  generalize w.alloc (.cells #[] 66) = W at *
  have c1 := LW.out.c1
  have o0 := LW.out.co 0 (by omega)
  have f0 := LW.out.fb 0
  have gb := LW.out.gb
  rw [ho] at c1
  have RI := hid_as (fun U (k : Same W U) => rises0 (LW.out.same k) (by omega))
  generalize one (c.i.getD 0 0) c.k0 = q at *
  have BI := hid_as (fun U => bit_c q U)
  have R := hid_as (fun U (k : Same W U) => (Lft.of (LW.out.same k) (NW.out.same k)).puto 0 (b01 q))
  simp only [hE] at R
  generalize b01 q = y at *
  clear hE KB
  go_region_held3 (fun U => U.cell? ⟨g, 1, none⟩ = some (.slice (some ⟨b, 0, none⟩) 1 1)) (first | exact c1 | exact set_far c1 gb) (first | (go_at_call 51; (with_reducible refine (RI.out _ ?_).mono ?_); (first | exact Same.drew _ | exact Same.refl _); rintro e w' ⟨rfl, hw⟩; subst w') | (go_at_call 30; (with_reducible refine (BI.out _).mono ?_); rintro e w' ⟨rfl, hw⟩; subst w'))
  have R1 := hid_as ((R.out _ (Same.refl _)).same (Same.drew _))
  clear R RI BI
  generalize (W.setCell ⟨b, 0, none⟩ (.int .i64 y)).drew = W1 at *
  have HO := hid_as (hold0 R1.out.2.1 (by show 0 < c.i.length; omega))
  go_wp2_with fail
  refine HO.out.mono ?_
  intro e w' hL
  have hL2 := hid_as (R1.out.next hL)
  obtain ⟨rfl, _⟩ := hL
  go_wp2
  go_end0
  exact hL2.out
set_option maxHeartbeats 800000 in
theorem falling_c {w : World} {g a b : Nat} {c : Ca} (h : Cl w g a b c) (hi : c.i.length = 1) (ho : c.o.length = 1) :
    Calls Try.prog 55 #[.agg #[], .pointer (some ⟨g, 0, none⟩)] w (Lft w g a b { c with o := [b01 (one c.k0 (c.i.getD 0 0))], k0 := c.i.getD 0 0 }) := by
  have hE : c.o.set 0 (b01 (one c.k0 (c.i.getD 0 0))) = [b01 (one c.k0 (c.i.getD 0 0))] := by
    match c.o, ho with
    | [x], _ => rfl
  have KB : Hid (Below w.heap.size w (w.alloc (.cells #[] 67))) := below_new (Below.refl _ _) _
  have LW := hid_as (h.below KB.out)
  have NW : Hid (On g b w (w.alloc (.cells #[] 67))) := Only.ofBelow KB.out
  go_enter Try.func55, Try.ntmps55
  go_upto_region 1 with fail
  generalize w.alloc (.cells #[] 67) = W at *
  have c1 := LW.out.c1
  have o0 := LW.out.co 0 (by omega)
  have f0 := LW.out.fb 0
  have gb := LW.out.gb
  rw [ho] at c1
  have RI := hid_as (fun U (k : Same W U) => falls0 (LW.out.same k) (by omega))
  generalize one c.k0 (c.i.getD 0 0) = q at *
  have BI := hid_as (fun U => bit_c q U)
  have R := hid_as (fun U (k : Same W U) => (Lft.of (LW.out.same k) (NW.out.same k)).puto 0 (b01 q))
  simp only [hE] at R
  generalize b01 q = y at *
  clear hE KB
  go_region_held3 (fun U => U.cell? ⟨g, 1, none⟩ = some (.slice (some ⟨b, 0, none⟩) 1 1)) (first | exact c1 | exact set_far c1 gb) (first | (go_at_call 56; (with_reducible refine (RI.out _ ?_).mono ?_); (first | exact Same.drew _ | exact Same.refl _); rintro e w' ⟨rfl, hw⟩; subst w') | (go_at_call 30; (with_reducible refine (BI.out _).mono ?_); rintro e w' ⟨rfl, hw⟩; subst w'))
  have R1 := hid_as ((R.out _ (Same.refl _)).same (Same.drew _))
  clear R RI BI
  generalize (W.setCell ⟨b, 0, none⟩ (.int .i64 y)).drew = W1 at *
  have HO := hid_as (hold0 R1.out.2.1 (by show 0 < c.i.length; omega))
  go_wp2_with fail
  refine HO.out.mono ?_
  intro e w' hL
  have hL2 := hid_as (R1.out.next hL)
  obtain ⟨rfl, _⟩ := hL
  go_wp2
  go_end0
  exact hL2.out
end Go.Proofs.Ytbpnaenineinmaa
