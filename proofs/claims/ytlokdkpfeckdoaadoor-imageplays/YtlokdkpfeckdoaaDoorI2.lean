/- The walks of a place's calls: get, put; Get, Put, Work, Set; the reference's (stage 11). -/
import Derived.Test.YtlokdkpfeckdoaaDoorI1
namespace Go.Proofs.YtlokdkpfeckdoaaDoor
open Go.RowKit
open Adr
set_option maxHeartbeats 800000 in
theorem get_no (a n : Int) (p : Value) (w : World) (hA : AreasAt w) (h : hasI a n = false) : Calls Tryd.prog 33 #[p, .int .i64 a, .int .i64 n] w fun e w' => e = .returned (.tuple #[.int .u16 0, .int .i64 110]) ∧ w' = w := by
  go_enter Tryd.func33, Tryd.ntmps33
  go_wp2_with (go_at_call 37; refine (has_c _ _ _ hA).mono ?_; rintro e w' ⟨rfl, hw⟩; subst w'; rw [h])
  go_ret2
  exact ⟨rfl, rfl⟩
set_option maxHeartbeats 800000 in
theorem get_yes (k i g o x : Nat) (w : World) (hA : AreasAt w) (h : hasI k i = true) (hk : k < 7) (hi : i < 128) (hc : w.cell? ⟨g, o + k * 128 + i, none⟩ = some (.int .u16 (x : Int))) : Calls Tryd.prog 33 #[.pointer (some ⟨g, o, none⟩), .int .i64 (k : Int), .int .i64 (i : Int)] w fun e w' => e = .returned (.tuple #[.int .u16 (x : Int), .int .i64 0]) ∧ w' = w := by
  have hk' : (k : Int) < 7 := by omega
  have hi' : (i : Int) < 128 := by omega
  go_enter Tryd.func33, Tryd.ntmps33
  go_wp2_with (go_at_call 37; refine (has_c _ _ _ hA).mono ?_; rintro e w' ⟨rfl, hw⟩; subst w'; rw [h])
  go_ret2
  exact ⟨rfl, rfl⟩

set_option maxHeartbeats 800000 in
theorem put_no (a n : Int) (v : Nat) (p : Value) (w : World) (hA : AreasAt w) (h : hasI a n = false) : Calls Tryd.prog 27 #[p, .int .i64 a, .int .i64 n, .int .u16 (v : Int)] w fun e w' => e = .returned (.int .i64 110) ∧ w' = w := by
  go_enter Tryd.func27, Tryd.ntmps27
  go_wp2_with (go_at_call 37; refine (has_c _ _ _ hA).mono ?_; rintro e w' ⟨rfl, hw⟩; subst w'; rw [h])
  go_ret
  exact ⟨rfl, rfl⟩
set_option maxRecDepth 100000 in
set_option maxHeartbeats 800000 in
theorem put_word (k i g o v x : Nat) (w : World) (hA : AreasAt w) (h : hasI k i = true) (hk : k < 7) (hi : i < 128) (hb : btI k = false) (hc : w.cell? ⟨g, o + k * 128 + i, none⟩ = some (.int .u16 (x : Int))) (hz : w.frozen? ⟨g, o + k * 128 + i, none⟩ = false) :
    Calls Tryd.prog 27 #[.pointer (some ⟨g, o, none⟩), .int .i64 (k : Int), .int .i64 (i : Int), .int .u16 (v : Int)] w fun e w' => e = .returned (.int .i64 0) ∧ w' = w.setCell ⟨g, o + k * 128 + i, none⟩ (.int .u16 (v : Int)) := by
  have hk' : (k : Int) < 7 := by omega
  have hi' : (i : Int) < 128 := by omega
  go_enter Tryd.func27, Tryd.ntmps27
  go_wp2_with (first | (go_at_call 37; refine (has_c _ _ _ hA).mono ?_; rintro e w' ⟨rfl, hw⟩; subst w'; rw [h]) | (go_at_call 38; refine (bit_c _ _ hA).mono ?_; rintro e w' ⟨rfl, hw⟩; subst w'; rw [hb]))
  go_ret
  exact ⟨rfl, rfl⟩
set_option maxRecDepth 100000 in
set_option maxHeartbeats 800000 in
theorem put_zero (k i g o x : Nat) (w : World) (hA : AreasAt w) (h : hasI k i = true) (hk : k < 7) (hi : i < 128) (hb : btI k = true) (hc : w.cell? ⟨g, o + k * 128 + i, none⟩ = some (.int .u16 (x : Int))) (hz : w.frozen? ⟨g, o + k * 128 + i, none⟩ = false) :
    Calls Tryd.prog 27 #[.pointer (some ⟨g, o, none⟩), .int .i64 (k : Int), .int .i64 (i : Int), .int .u16 0] w fun e w' => e = .returned (.int .i64 0) ∧ w' = w.setCell ⟨g, o + k * 128 + i, none⟩ (.int .u16 (0)) := by
  have hk' : (k : Int) < 7 := by omega
  have hi' : (i : Int) < 128 := by omega
  go_enter Tryd.func27, Tryd.ntmps27
  go_wp2_with (first | (go_at_call 37; refine (has_c _ _ _ hA).mono ?_; rintro e w' ⟨rfl, hw⟩; subst w'; rw [h]) | (go_at_call 38; refine (bit_c _ _ hA).mono ?_; rintro e w' ⟨rfl, hw⟩; subst w'; rw [hb]))
  go_ret
  exact ⟨rfl, rfl⟩
set_option maxRecDepth 100000 in
set_option maxHeartbeats 800000 in
theorem put_one (k i g o v x : Nat) (w : World) (hA : AreasAt w) (h : hasI k i = true) (hk : k < 7) (hi : i < 128) (hb : btI k = true) (hv : (1 : Int) ≤ v) (hc : w.cell? ⟨g, o + k * 128 + i, none⟩ = some (.int .u16 (x : Int))) (hz : w.frozen? ⟨g, o + k * 128 + i, none⟩ = false) :
    Calls Tryd.prog 27 #[.pointer (some ⟨g, o, none⟩), .int .i64 (k : Int), .int .i64 (i : Int), .int .u16 (v : Int)] w fun e w' => e = .returned (.int .i64 0) ∧ w' = w.setCell ⟨g, o + k * 128 + i, none⟩ (.int .u16 (1)) := by
  have hk' : (k : Int) < 7 := by omega
  have hi' : (i : Int) < 128 := by omega
  obtain ⟨u, rfl⟩ : ∃ u : Nat, v = u + 1 := ⟨v - 1, by omega⟩
  clear hv
  go_enter Tryd.func27, Tryd.ntmps27
  go_wp2_with (first | (go_at_call 37; refine (has_c _ _ _ hA).mono ?_; rintro e w' ⟨rfl, hw⟩; subst w'; rw [h]) | (go_at_call 38; refine (bit_c _ _ hA).mono ?_; rintro e w' ⟨rfl, hw⟩; subst w'; rw [hb]))
  · go_ret
    exact ⟨rfl, rfl⟩
  · obtain rfl : u = 0 := by omega
    go_ret
    exact ⟨rfl, rfl⟩
/-- put, of any numbers. -/
theorem putb_c (a n : Int) (v g o : Nat) (f : Nat → Nat) (w : World) (hA : AreasAt w) (hB : Buf w g o f) (hz : ∀ j, w.frozen? ⟨g, j, none⟩ = false) :
    Calls Tryd.prog 27 #[.pointer (some ⟨g, o, none⟩), .int .i64 a, .int .i64 n, .int .u16 (v : Int)] w fun e w' => e = .returned (.int .i64 (ge a n)) ∧ ((hasI a n = false ∧ w' = w) ∨ (hasI a n = true ∧ w' = w.setCell ⟨g, o + pl a n, none⟩ (.int .u16 (bv a v : Int)))) := by
  by_cases h : hasI a n = true
  · obtain ⟨h0, h1, h2, h3, h4⟩ := hasI_yes h
    have hp := pl_lt h
    have e0 : ge a n = 0 := by unfold ge; rw [if_pos h]
    rw [e0]
    obtain ⟨k, rfl⟩ : ∃ k : Nat, a = k := ⟨a.toNat, by omega⟩
    obtain ⟨i, rfl⟩ : ∃ i : Nat, n = i := ⟨n.toNat, by omega⟩
    have hc := hB _ hp
    have ep : o + pl k i = o + k * 128 + i := by unfold pl; simp only [Int.toNat_natCast]; omega
    rw [ep] at hc ⊢
    by_cases hb : btI k = true
    · rw [bv_bit v hb]
      by_cases hv : v = 0
      · subst hv
        refine (put_zero k i g o _ w hA h (by omega) (by omega) hb hc (hz _)).mono ?_
        rintro e w' ⟨rfl, rfl⟩
        exact ⟨rfl, Or.inr ⟨h, rfl⟩⟩
      · rw [show min v 1 = 1 by omega]
        refine (put_one k i g o v _ w hA h (by omega) (by omega) hb (by omega) hc (hz _)).mono ?_
        rintro e w' ⟨rfl, rfl⟩
        exact ⟨rfl, Or.inr ⟨h, rfl⟩⟩
    · have hb' : btI k = false := by simpa using hb
      rw [bv_word v hb']
      refine (put_word k i g o v _ w hA h (by omega) (by omega) hb' hc (hz _)).mono ?_
      rintro e w' ⟨rfl, rfl⟩
      exact ⟨rfl, Or.inr ⟨h, rfl⟩⟩
  · have h' : hasI a n = false := by simpa using h
    have e0 : ge a n = 110 := by unfold ge; rw [if_neg h]
    rw [e0]
    refine (put_no a n v _ w hA h').mono ?_
    rintro e w' ⟨rfl, rfl⟩
    exact ⟨rfl, Or.inl ⟨h', rfl⟩⟩
/-- get, of any numbers. -/
theorem getb_c (a n : Int) (g o : Nat) (f : Nat → Nat) (w : World) (hA : AreasAt w) (hB : Buf w g o f) :
    Calls Tryd.prog 33 #[.pointer (some ⟨g, o, none⟩), .int .i64 a, .int .i64 n] w fun e w' => e = .returned (.tuple #[.int .u16 (gv f a n : Int), .int .i64 (ge a n)]) ∧ w' = w := by
  unfold ge gv
  by_cases h : hasI a n = true
  · obtain ⟨h0, h1, h2, h3, h4⟩ := hasI_yes h
    have hp := pl_lt h
    rw [if_pos h, if_pos h]
    obtain ⟨k, rfl⟩ : ∃ k : Nat, a = k := ⟨a.toNat, by omega⟩
    obtain ⟨i, rfl⟩ : ∃ i : Nat, n = i := ⟨n.toNat, by omega⟩
    have hc := hB _ hp
    have ep : o + pl k i = o + k * 128 + i := by unfold pl; simp only [Int.toNat_natCast]; omega
    rw [ep] at hc
    exact get_yes k i g o _ w hA h (by omega) (by omega) hc
  · rw [if_neg h, if_neg h]
    exact get_no a n _ w hA (by simpa using h)
set_option maxHeartbeats 800000 in
theorem get_c (a n : Int) {w : World} {g : Nat} {s : IS} (hA : AreasAt w) (t : Im w g s) : Calls Tryd.prog 19 #[.pointer (some ⟨g, 0, none⟩), .int .i64 a, .int .i64 n] w fun e w' => e = .returned (.tuple #[.int .u16 (gv s.o a n : Int), .int .i64 (ge a n)]) ∧ w' = w := by
  have X := hid_as (getb_c a n g 0 s.o w hA t.out)
  clear t hA
  go_enter Tryd.func19, Tryd.ntmps19
  go_wp2_with (go_at_call 33; refine X.out.mono ?_; rintro e w' ⟨rfl, hw⟩; subst w')
  go_ret2
  exact ⟨rfl, rfl⟩
set_option maxHeartbeats 800000 in
theorem work_c (a n : Int) {w : World} {g : Nat} {s : IS} (hA : AreasAt w) (t : Im w g s) : Calls Tryd.prog 25 #[.pointer (some ⟨g, 0, none⟩), .int .i64 a, .int .i64 n] w fun e w' => e = .returned (.tuple #[.int .u16 (gv s.k a n : Int), .int .i64 (ge a n)]) ∧ w' = w := by
  have X := hid_as (getb_c a n g 896 s.k w hA t.wrk)
  clear t hA
  go_enter Tryd.func25, Tryd.ntmps25
  go_wp2_with (go_at_call 33; refine X.out.mono ?_; rintro e w' ⟨rfl, hw⟩; subst w')
  go_ret2
  exact ⟨rfl, rfl⟩
theorem Im.puts {w w' : World} {g : Nat} {s : IS} (a n : Int) (v : Nat) (t : Im w g s) (h : (hasI a n = false ∧ w' = w) ∨ (hasI a n = true ∧ w' = w.setCell ⟨g, 0 + pl a n, none⟩ (.int .u16 (bv a v : Int)))) : Im w' g (s.put a n v) ∧ Turn g w w' := by
  unfold IS.put
  rcases h with ⟨h, rfl⟩ | ⟨h, rfl⟩
  · rw [if_neg (by rw [h]; decide)]
    exact ⟨t, Turn.refl _ _⟩
  · rw [if_pos h]
    rw [Nat.zero_add]
    exact ⟨t.setO _ _ (pl_lt h), (Turn.refl _ _).set _ _⟩
set_option maxHeartbeats 800000 in
theorem put_c (a n : Int) (v : Nat) {w : World} {g : Nat} {s : IS} (hA : AreasAt w) (t : Im w g s) : Calls Tryd.prog 8 #[.pointer (some ⟨g, 0, none⟩), .int .i64 a, .int .i64 n, .int .u16 (v : Int)] w fun e w' => e = .returned (.int .i64 (ge a n)) ∧ Im w' g (s.put a n v) ∧ Turn g w w' := by
  have X := hid_as (putb_c a n v g 0 s.o w hA t.out t.free)
  have T := hid_as t
  clear t hA
  go_enter Tryd.func8, Tryd.ntmps8
  go_wp2_with fail
  refine X.out.mono ?_
  rintro e w' ⟨rfl, h⟩
  have H := hid_as (Im.puts a n v T.out h)
  clear h X T
  go_wp2
  go_ret
  exact ⟨rfl, H.out⟩
theorem Im.sets {w w' : World} {g : Nat} {s : IS} (a n : Int) (v : Nat) (t : Im w g s) (h : (hasI a n = false ∧ w' = w) ∨ (hasI a n = true ∧ w' = w.setCell ⟨g, 896 + pl a n, none⟩ (.int .u16 (bv a v : Int)))) : Im w' g (s.set a n v) ∧ Turn g w w' := by
  unfold IS.set
  rcases h with ⟨h, rfl⟩ | ⟨h, rfl⟩
  · rw [if_neg (by rw [h]; decide)]
    exact ⟨t, Turn.refl _ _⟩
  · rw [if_pos h]
    exact ⟨t.setK _ _ (pl_lt h), (Turn.refl _ _).set _ _⟩
set_option maxHeartbeats 800000 in
theorem set_c (a n : Int) (v : Nat) {w : World} {g : Nat} {s : IS} (hA : AreasAt w) (t : Im w g s) : Calls Tryd.prog 10 #[.pointer (some ⟨g, 0, none⟩), .int .i64 a, .int .i64 n, .int .u16 (v : Int)] w fun e w' => e = .returned (.int .i64 (ge a n)) ∧ Im w' g (s.set a n v) ∧ Turn g w w' := by
  have X := hid_as (putb_c a n v g 896 s.k w hA t.wrk t.free)
  have T := hid_as t
  clear t hA
  go_enter Tryd.func10, Tryd.ntmps10
  go_wp2_with fail
  refine X.out.mono ?_
  rintro e w' ⟨rfl, h⟩
  have H := hid_as (Im.sets a n v T.out h)
  clear h X T
  go_wp2
  go_ret
  exact ⟨rfl, H.out⟩
end Go.Proofs.YtlokdkpfeckdoaaDoor
