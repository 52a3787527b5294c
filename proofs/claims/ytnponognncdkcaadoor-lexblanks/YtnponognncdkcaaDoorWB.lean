/- Words (stage 12). -/
import Derived.Test.YtnponognncdkcaaDoorWA
namespace Go.Proofs.YtnponognncdkcaaDoor
open Go.RowKit
open Adr Lx
/-- What is known of a word ahead: its length, the word, what stands behind. -/
theorem kindNamed_take (s : ByteArray) (z : Nat) (W : World) (hW : Tabs W) : Calls Tryd.prog 23 #[.string (s.extract 0 z)] W fun e w' => e = .returned (.int .i64 (kf (s.data.toList.take z))) ∧ w' = W := by
  have h := kindNamed_c (s.extract 0 z) W hW
  rw [tx_take, tx_list] at h
  rw [tx_take]
  exact h
theorem Word_take (s : ByteArray) (z : Nat) (W : World) (hW : Tabs W) : Calls Tryd.prog 11 #[.string (s.extract 0 z)] W fun e w' => e = .returned (.bool (wrd (s.data.toList.take z))) ∧ w' = W := by
  have h := Word_c (s.extract 0 z) W hW
  rw [tx_take, tx_list] at h
  rw [tx_take]
  exact h
theorem take_eq (s : ByteArray) (z : Nat) (l : List UInt8) : ((s.extract 0 z).toList == l) = (s.data.toList.take z == l) := by rw [Lib.toList_data, tx_take, tx_list]
set_option maxHeartbeats 2000000 in
theorem word_time (s : ByteArray) (hs : s.size ≤ 65536) (w : World) (hT : Tabs w) (z : Nat) (hz : z ≤ s.size) (Zc : Hid (∀ W, Calls Tryd.prog 42 #[.string s, .func (.func 43) #[] #[]] W fun e w' => e = .returned (.int .i64 z) ∧ w' = W)) (hlt : z + 1 ≤ s.size) (hh : hp (s.data.toList.drop z) [35] = true) (hq : kf (s.data.toList.take z) = 11) : Calls Tryd.prog 29 #[.string s] w fun e w' => e = .returned (rv (tmR s.data.toList (z + 1))) ∧ Below w.heap.size w w' := by
  have _u := And.intro hs hz
  clear _u
  have hN := hid_as (below_new1 w (.cells #[.int .i64 0, .int .i64 0, .int .i64 0, .string ⟨#[]⟩, .int .i64 0] 31))
  have hR := hid_as (room_new w)
  have hTn := hid_as (hT.below hN.out)
  have c1 : (0 : Int) ≤ z := by omega
  have c2 : (z : Int) ≤ s.size := by omega
  have H : Hid (∀ W, Calls Tryd.prog 19 #[.string (s.extract z s.size), .string ⟨#[35]⟩] W fun e w' => e = .returned (.bool true) ∧ w' = W) := fun W => has_rest s z ⟨#[35]⟩ true hh W
  have K := hid_as (kindNamed_take s z)
  generalize kf (s.data.toList.take z) = q at *
  subst hq
  have LT : Hid (∀ W, Tabs W → Calls Tryd.prog 44 #[.string s, .int .i64 ((z : Int) + 1)] W fun e w' => e = .returned (rv (tmR s.data.toList (z + 1))) ∧ Below W.heap.size W w') := fun W hW => readTime_c s (z + 1) hlt hs W hW
  generalize tmR s.data.toList (z + 1) = r at *
  obtain ⟨⟨ta, tb, tc, td⟩, tz, te⟩ := r
  replace LT : Hid (∀ W, Tabs W → Calls Tryd.prog 44 #[.string s, .int .i64 ((z : Int) + 1)] W fun e w' => e = .returned (.tuple #[.agg #[.int .i64 (ta : Nat), .int .i64 (tb : Nat), .int .i64 tc, .string (tx td), .int .i64 0], .int .i64 (tz : Nat), .int .i64 (te : Nat)]) ∧ Below W.heap.size W w') := LT
  go_enter Tryd.func29, Tryd.ntmps29
  go_wp2_with (first
    | (go_at_call 42; (with_reducible refine (Zc.out _).mono ?_); rintro e w' ⟨rfl, hw⟩; subst w')
    | (go_at_call 19; (with_reducible refine (H.out _).mono ?_); rintro e w' ⟨rfl, hw⟩; subst w')
    | (go_at_call 23; (with_reducible refine (K.out _ hTn.out).mono ?_); rintro e w' ⟨rfl, hw⟩; subst w')
    | (go_at_call 44; (with_reducible refine (LT.out _ hTn.out).mono ?_); rintro e w4 ⟨rfl, b4⟩; have hR4 := hid_as (hR.out.below b4); have hB4 := hid_as (below_and hN.out b4); obtain ⟨r0, r1, r2, r3, r4, rf, rl⟩ := hR4.out))
  exact bodyPost_ret (v := rv ⟨⟨ta, tb, tc, td⟩, tz, te⟩) (by simp [results, Tryd.results29, go_sem, rv, tv, r0, r1, r2, r3, r4]) rfl ⟨rfl, five_set hB4.out (Nat.le_refl _) _ _ _ _ _⟩
set_option maxHeartbeats 2000000 in
theorem word_T (s : ByteArray) (hs : s.size ≤ 65536) (w : World) (hT : Tabs w) (z : Nat) (hz : z ≤ s.size) (Zc : Hid (∀ W, Calls Tryd.prog 42 #[.string s, .func (.func 43) #[] #[]] W fun e w' => e = .returned (.int .i64 z) ∧ w' = W)) (hlt : z + 1 ≤ s.size) (hh : hp (s.data.toList.drop z) [35] = true) (hq : ¬ kf (s.data.toList.take z) = 11) (ht : ((s.extract 0 z).toList == [84]) = true) : Calls Tryd.prog 29 #[.string s] w fun e w' => e = .returned (rv (tmR s.data.toList (z + 1))) ∧ Below w.heap.size w w' := by
  have _u := And.intro hs hz
  clear _u
  have hN := hid_as (below_new1 w (.cells #[.int .i64 0, .int .i64 0, .int .i64 0, .string ⟨#[]⟩, .int .i64 0] 31))
  have hR := hid_as (room_new w)
  have hTn := hid_as (hT.below hN.out)
  have c1 : (0 : Int) ≤ z := by omega
  have c2 : (z : Int) ≤ s.size := by omega
  have H : Hid (∀ W, Calls Tryd.prog 19 #[.string (s.extract z s.size), .string ⟨#[35]⟩] W fun e w' => e = .returned (.bool true) ∧ w' = W) := fun W => has_rest s z ⟨#[35]⟩ true hh W
  have K := hid_as (kindNamed_take s z)
  generalize kf (s.data.toList.take z) = q at *
  have hq' : ¬ (q : Int) = 11 := by omega
  have LT : Hid (∀ W, Tabs W → Calls Tryd.prog 44 #[.string s, .int .i64 ((z : Int) + 1)] W fun e w' => e = .returned (rv (tmR s.data.toList (z + 1))) ∧ Below W.heap.size W w') := fun W hW => readTime_c s (z + 1) hlt hs W hW
  generalize tmR s.data.toList (z + 1) = r at *
  obtain ⟨⟨ta, tb, tc, td⟩, tz, te⟩ := r
  replace LT : Hid (∀ W, Tabs W → Calls Tryd.prog 44 #[.string s, .int .i64 ((z : Int) + 1)] W fun e w' => e = .returned (.tuple #[.agg #[.int .i64 (ta : Nat), .int .i64 (tb : Nat), .int .i64 tc, .string (tx td), .int .i64 0], .int .i64 (tz : Nat), .int .i64 (te : Nat)]) ∧ Below W.heap.size W w') := LT
  go_enter Tryd.func29, Tryd.ntmps29
  go_wp2_with (first
    | (go_at_call 42; (with_reducible refine (Zc.out _).mono ?_); rintro e w' ⟨rfl, hw⟩; subst w')
    | (go_at_call 19; (with_reducible refine (H.out _).mono ?_); rintro e w' ⟨rfl, hw⟩; subst w')
    | (go_at_call 23; (with_reducible refine (K.out _ hTn.out).mono ?_); rintro e w' ⟨rfl, hw⟩; subst w')
    | (go_at_call 44; (with_reducible refine (LT.out _ hTn.out).mono ?_); rintro e w4 ⟨rfl, b4⟩; have hR4 := hid_as (hR.out.below b4); have hB4 := hid_as (below_and hN.out b4); obtain ⟨r0, r1, r2, r3, r4, rf, rl⟩ := hR4.out))
  exact bodyPost_ret (v := rv ⟨⟨ta, tb, tc, td⟩, tz, te⟩) (by simp [results, Tryd.results29, go_sem, rv, tv, r0, r1, r2, r3, r4]) rfl ⟨rfl, five_set hB4.out (Nat.le_refl _) _ _ _ _ _⟩
set_option maxHeartbeats 2000000 in
theorem word_typed (s : ByteArray) (hs : s.size ≤ 65536) (w : World) (hT : Tabs w) (z : Nat) (hz : z ≤ s.size) (Zc : Hid (∀ W, Calls Tryd.prog 42 #[.string s, .func (.func 43) #[] #[]] W fun e w' => e = .returned (.int .i64 z) ∧ w' = W)) (hlt : z + 1 ≤ s.size) (hh : hp (s.data.toList.drop z) [35] = true) (hq : ¬ kf (s.data.toList.take z) = 11) (h0 : ¬ kf (s.data.toList.take z) = 0) (ht : ((s.extract 0 z).toList == [84]) = false) : Calls Tryd.prog 29 #[.string s] w fun e w' => e = .returned (rv (tyR s.data.toList (z + 1) (kf (s.data.toList.take z)))) ∧ Below w.heap.size w w' := by
  have _u := And.intro hs hz
  clear _u
  have hN := hid_as (below_new1 w (.cells #[.int .i64 0, .int .i64 0, .int .i64 0, .string ⟨#[]⟩, .int .i64 0] 31))
  have hR := hid_as (room_new w)
  have hTn := hid_as (hT.below hN.out)
  have c1 : (0 : Int) ≤ z := by omega
  have c2 : (z : Int) ≤ s.size := by omega
  have H : Hid (∀ W, Calls Tryd.prog 19 #[.string (s.extract z s.size), .string ⟨#[35]⟩] W fun e w' => e = .returned (.bool true) ∧ w' = W) := fun W => has_rest s z ⟨#[35]⟩ true hh W
  have hlt12 := kf_lt (s.data.toList.take z)
  have K := hid_as (kindNamed_take s z)
  generalize kf (s.data.toList.take z) = q at *
  have hq' : ¬ (q : Int) = 11 := by omega
  have h0' : ¬ (q : Int) = 0 := by omega
  have LT : Hid (∀ W, Tabs W → Calls Tryd.prog 45 #[.string s, .int .i64 ((z : Int) + 1), .int .i64 q] W fun e w' => e = .returned (rv (tyR s.data.toList (z + 1) q)) ∧ Below W.heap.size W w') := fun W hW => readTyped_c s (z + 1) q hlt hs hlt12 W hW
  generalize tyR s.data.toList (z + 1) q = r at *
  obtain ⟨⟨ta, tb, tc, td⟩, tz, te⟩ := r
  replace LT : Hid (∀ W, Tabs W → Calls Tryd.prog 45 #[.string s, .int .i64 ((z : Int) + 1), .int .i64 q] W fun e w' => e = .returned (.tuple #[.agg #[.int .i64 (ta : Nat), .int .i64 (tb : Nat), .int .i64 tc, .string (tx td), .int .i64 0], .int .i64 (tz : Nat), .int .i64 (te : Nat)]) ∧ Below W.heap.size W w') := LT
  go_enter Tryd.func29, Tryd.ntmps29
  go_wp2_with (first
    | (go_at_call 42; (with_reducible refine (Zc.out _).mono ?_); rintro e w' ⟨rfl, hw⟩; subst w')
    | (go_at_call 19; (with_reducible refine (H.out _).mono ?_); rintro e w' ⟨rfl, hw⟩; subst w')
    | (go_at_call 23; (with_reducible refine (K.out _ hTn.out).mono ?_); rintro e w' ⟨rfl, hw⟩; subst w')
    | (go_at_call 45; (with_reducible refine (LT.out _ hTn.out).mono ?_); rintro e w4 ⟨rfl, b4⟩; have hR4 := hid_as (hR.out.below b4); have hB4 := hid_as (below_and hN.out b4); obtain ⟨r0, r1, r2, r3, r4, rf, rl⟩ := hR4.out))
  exact bodyPost_ret (v := rv ⟨⟨ta, tb, tc, td⟩, tz, te⟩) (by simp [results, Tryd.results29, go_sem, rv, tv, r0, r1, r2, r3, r4]) rfl ⟨rfl, five_set hB4.out (Nat.le_refl _) _ _ _ _ _⟩
set_option maxHeartbeats 2000000 in
theorem plain_true_a (s : ByteArray) (hs : s.size ≤ 65536) (w : World) (hT : Tabs w) (z : Nat) (hz : z ≤ s.size) (Zc : Hid (∀ W, Calls Tryd.prog 42 #[.string s, .func (.func 43) #[] #[]] W fun e w' => e = .returned (.int .i64 z) ∧ w' = W)) (hh : hp (s.data.toList.drop z) [35] = true) (h0 : kf (s.data.toList.take z) = 0) (ht : ((s.extract 0 z).toList == [84]) = false) (hv : ((s.extract 0 z).toList == [84, 82, 85, 69]) = true) : Calls Tryd.prog 29 #[.string s] w fun e w' => e = .returned (rv (⟨tru 1, z, 0⟩)) ∧ Below w.heap.size w w' := by
  have _u := And.intro hs hz
  clear _u
  have hN := hid_as (below_new1 w (.cells #[.int .i64 0, .int .i64 0, .int .i64 0, .string ⟨#[]⟩, .int .i64 0] 31))
  have hR := hid_as (room_new w)
  have hTn := hid_as (hT.below hN.out)
  have c1 : (0 : Int) ≤ z := by omega
  have c2 : (z : Int) ≤ s.size := by omega
  have H : Hid (∀ W, Calls Tryd.prog 19 #[.string (s.extract z s.size), .string ⟨#[35]⟩] W fun e w' => e = .returned (.bool true) ∧ w' = W) := fun W => has_rest s z ⟨#[35]⟩ true hh W
  have K : Hid (∀ W, Tabs W → Calls Tryd.prog 23 #[.string (s.extract 0 z)] W fun e w' => e = .returned (.int .i64 0) ∧ w' = W) := fun W hW => by have h := kindNamed_take s z W hW; rw [h0] at h; exact h
  have TC : Hid (∀ W, Calls Tryd.prog 46 #[.int .i64 1] W fun e w' => e = .returned (.agg #[.int .i64 3, .int .i64 1, .int .i64 1, .string ⟨#[]⟩, .int .i64 0]) ∧ Below W.heap.size W w') := fun W => truth_c 1 W
  go_enter Tryd.func29, Tryd.ntmps29
  go_wp2_with (first
    | (go_at_call 42; (with_reducible refine (Zc.out _).mono ?_); rintro e w' ⟨rfl, hw⟩; subst w')
    | (go_at_call 19; (with_reducible refine (H.out _).mono ?_); rintro e w' ⟨rfl, hw⟩; subst w')
    | (go_at_call 23; (with_reducible refine (K.out _ hTn.out).mono ?_); rintro e w' ⟨rfl, hw⟩; subst w')
    | (go_at_call 46; (with_reducible refine (TC.out _).mono ?_); rintro e w4 ⟨rfl, b4⟩; have hR4 := hid_as (hR.out.below b4); have hB4 := hid_as (below_and hN.out b4); obtain ⟨r0, r1, r2, r3, r4, rf, rl⟩ := hR4.out))
  exact bodyPost_ret (v := rv ⟨tru 1, z, 0⟩) (by simp [results, Tryd.results29, go_sem, rv, tv, tru, tx, r0, r1, r2, r3, r4]) rfl ⟨rfl, five_set hB4.out (Nat.le_refl _) _ _ _ _ _⟩
set_option maxHeartbeats 2000000 in
theorem plain_false_a (s : ByteArray) (hs : s.size ≤ 65536) (w : World) (hT : Tabs w) (z : Nat) (hz : z ≤ s.size) (Zc : Hid (∀ W, Calls Tryd.prog 42 #[.string s, .func (.func 43) #[] #[]] W fun e w' => e = .returned (.int .i64 z) ∧ w' = W)) (hh : hp (s.data.toList.drop z) [35] = true) (h0 : kf (s.data.toList.take z) = 0) (ht : ((s.extract 0 z).toList == [84]) = false) (hn : ((s.extract 0 z).toList == [84, 82, 85, 69]) = false) (hv : ((s.extract 0 z).toList == [70, 65, 76, 83, 69]) = true) : Calls Tryd.prog 29 #[.string s] w fun e w' => e = .returned (rv (⟨tru 0, z, 0⟩)) ∧ Below w.heap.size w w' := by
  have _u := And.intro hs hz
  clear _u
  have hN := hid_as (below_new1 w (.cells #[.int .i64 0, .int .i64 0, .int .i64 0, .string ⟨#[]⟩, .int .i64 0] 31))
  have hR := hid_as (room_new w)
  have hTn := hid_as (hT.below hN.out)
  have c1 : (0 : Int) ≤ z := by omega
  have c2 : (z : Int) ≤ s.size := by omega
  have H : Hid (∀ W, Calls Tryd.prog 19 #[.string (s.extract z s.size), .string ⟨#[35]⟩] W fun e w' => e = .returned (.bool true) ∧ w' = W) := fun W => has_rest s z ⟨#[35]⟩ true hh W
  have K : Hid (∀ W, Tabs W → Calls Tryd.prog 23 #[.string (s.extract 0 z)] W fun e w' => e = .returned (.int .i64 0) ∧ w' = W) := fun W hW => by have h := kindNamed_take s z W hW; rw [h0] at h; exact h
  have TC : Hid (∀ W, Calls Tryd.prog 46 #[.int .i64 0] W fun e w' => e = .returned (.agg #[.int .i64 3, .int .i64 1, .int .i64 0, .string ⟨#[]⟩, .int .i64 0]) ∧ Below W.heap.size W w') := fun W => truth_c 0 W
  go_enter Tryd.func29, Tryd.ntmps29
  go_wp2_with (first
    | (go_at_call 42; (with_reducible refine (Zc.out _).mono ?_); rintro e w' ⟨rfl, hw⟩; subst w')
    | (go_at_call 19; (with_reducible refine (H.out _).mono ?_); rintro e w' ⟨rfl, hw⟩; subst w')
    | (go_at_call 23; (with_reducible refine (K.out _ hTn.out).mono ?_); rintro e w' ⟨rfl, hw⟩; subst w')
    | (go_at_call 46; (with_reducible refine (TC.out _).mono ?_); rintro e w4 ⟨rfl, b4⟩; have hR4 := hid_as (hR.out.below b4); have hB4 := hid_as (below_and hN.out b4); obtain ⟨r0, r1, r2, r3, r4, rf, rl⟩ := hR4.out))
  exact bodyPost_ret (v := rv ⟨tru 0, z, 0⟩) (by simp [results, Tryd.results29, go_sem, rv, tv, tru, tx, r0, r1, r2, r3, r4]) rfl ⟨rfl, five_set hB4.out (Nat.le_refl _) _ _ _ _ _⟩
set_option maxHeartbeats 2000000 in
theorem plain_word_a (s : ByteArray) (hs : s.size ≤ 65536) (w : World) (hT : Tabs w) (z : Nat) (hz : z ≤ s.size) (Zc : Hid (∀ W, Calls Tryd.prog 42 #[.string s, .func (.func 43) #[] #[]] W fun e w' => e = .returned (.int .i64 z) ∧ w' = W)) (hh : hp (s.data.toList.drop z) [35] = true) (h0 : kf (s.data.toList.take z) = 0) (ht : ((s.extract 0 z).toList == [84]) = false) (hn : ((s.extract 0 z).toList == [84, 82, 85, 69]) = false) (hf : ((s.extract 0 z).toList == [70, 65, 76, 83, 69]) = false) (hw : wrd (s.data.toList.take z) = true) : Calls Tryd.prog 29 #[.string s] w fun e w' => e = .returned (rv (⟨⟨1, 0, 0, s.data.toList.take z⟩, z, 0⟩)) ∧ Below w.heap.size w w' := by
  have _u := And.intro hs hz
  clear _u
  have hN := hid_as (below_new1 w (.cells #[.int .i64 0, .int .i64 0, .int .i64 0, .string ⟨#[]⟩, .int .i64 0] 31))
  have hR := hid_as (room_new w)
  have hTn := hid_as (hT.below hN.out)
  have c1 : (0 : Int) ≤ z := by omega
  have c2 : (z : Int) ≤ s.size := by omega
  have hX := hid_as (tx_take s z)
  have H : Hid (∀ W, Calls Tryd.prog 19 #[.string (s.extract z s.size), .string ⟨#[35]⟩] W fun e w' => e = .returned (.bool true) ∧ w' = W) := fun W => has_rest s z ⟨#[35]⟩ true hh W
  have K : Hid (∀ W, Tabs W → Calls Tryd.prog 23 #[.string (s.extract 0 z)] W fun e w' => e = .returned (.int .i64 0) ∧ w' = W) := fun W hW => by have h := kindNamed_take s z W hW; rw [h0] at h; exact h
  have WD := hid_as (Word_take s z)
  rw [hw] at WD
  go_enter Tryd.func29, Tryd.ntmps29
  go_wp2_with (first
    | (go_at_call 42; (with_reducible refine (Zc.out _).mono ?_); rintro e w' ⟨rfl, hw⟩; subst w')
    | (go_at_call 19; (with_reducible refine (H.out _).mono ?_); rintro e w' ⟨rfl, hw⟩; subst w')
    | (go_at_call 23; (with_reducible refine (K.out _ hTn.out).mono ?_); rintro e w' ⟨rfl, hw⟩; subst w')
    | (go_at_call 11; (with_reducible refine (WD.out _ hTn.out).mono ?_); rintro e w' ⟨rfl, hw⟩; subst w'))
  exact bodyPost_ret (v := .tuple #[.agg #[.int .i64 1, .int .i64 0, .int .i64 0, .string (s.extract 0 z), .int .i64 0], .int .i64 z, .int .i64 0]) (by simp [results, Tryd.results29, go_sem]) rfl ⟨by simp [rv, tv, hX.out], below_new1 _ _⟩
set_option maxHeartbeats 2000000 in
theorem plain_big_a (s : ByteArray) (hs : s.size ≤ 65536) (w : World) (hT : Tabs w) (z : Nat) (hz : z ≤ s.size) (Zc : Hid (∀ W, Calls Tryd.prog 42 #[.string s, .func (.func 43) #[] #[]] W fun e w' => e = .returned (.int .i64 z) ∧ w' = W)) (hh : hp (s.data.toList.drop z) [35] = true) (h0 : kf (s.data.toList.take z) = 0) (ht : ((s.extract 0 z).toList == [84]) = false) (hn : ((s.extract 0 z).toList == [84, 82, 85, 69]) = false) (hf : ((s.extract 0 z).toList == [70, 65, 76, 83, 69]) = false) (hw : wrd (s.data.toList.take z) = false) (hb : 32 < z) : Calls Tryd.prog 29 #[.string s] w fun e w' => e = .returned (rv (er 121)) ∧ Below w.heap.size w w' := by
  have _u := And.intro hs hz
  clear _u
  have hN := hid_as (below_new1 w (.cells #[.int .i64 0, .int .i64 0, .int .i64 0, .string ⟨#[]⟩, .int .i64 0] 31))
  have hR := hid_as (room_new w)
  have hTn := hid_as (hT.below hN.out)
  have c1 : (0 : Int) ≤ z := by omega
  have c2 : (z : Int) ≤ s.size := by omega
  have H : Hid (∀ W, Calls Tryd.prog 19 #[.string (s.extract z s.size), .string ⟨#[35]⟩] W fun e w' => e = .returned (.bool true) ∧ w' = W) := fun W => has_rest s z ⟨#[35]⟩ true hh W
  have K : Hid (∀ W, Tabs W → Calls Tryd.prog 23 #[.string (s.extract 0 z)] W fun e w' => e = .returned (.int .i64 0) ∧ w' = W) := fun W hW => by have h := kindNamed_take s z W hW; rw [h0] at h; exact h
  have WD := hid_as (Word_take s z)
  rw [hw] at WD
  have hb' : (32 : Int) < z := by omega
  go_enter Tryd.func29, Tryd.ntmps29
  go_wp2_with (first
    | (go_at_call 42; (with_reducible refine (Zc.out _).mono ?_); rintro e w' ⟨rfl, hw⟩; subst w')
    | (go_at_call 19; (with_reducible refine (H.out _).mono ?_); rintro e w' ⟨rfl, hw⟩; subst w')
    | (go_at_call 23; (with_reducible refine (K.out _ hTn.out).mono ?_); rintro e w' ⟨rfl, hw⟩; subst w')
    | (go_at_call 11; (with_reducible refine (WD.out _ hTn.out).mono ?_); rintro e w' ⟨rfl, hw⟩; subst w'))
  exact bodyPost_ret (v := rv (er 121)) (by simp [results, Tryd.results29, go_sem, rv, er, nul, tv, tx]) rfl ⟨rfl, below_new1 _ _⟩
set_option maxHeartbeats 2000000 in
theorem plain_name_a (s : ByteArray) (hs : s.size ≤ 65536) (w : World) (hT : Tabs w) (z : Nat) (hz : z ≤ s.size) (Zc : Hid (∀ W, Calls Tryd.prog 42 #[.string s, .func (.func 43) #[] #[]] W fun e w' => e = .returned (.int .i64 z) ∧ w' = W)) (hh : hp (s.data.toList.drop z) [35] = true) (h0 : kf (s.data.toList.take z) = 0) (ht : ((s.extract 0 z).toList == [84]) = false) (hn : ((s.extract 0 z).toList == [84, 82, 85, 69]) = false) (hf : ((s.extract 0 z).toList == [70, 65, 76, 83, 69]) = false) (hw : wrd (s.data.toList.take z) = false) (hb : ¬ 32 < z) : Calls Tryd.prog 29 #[.string s] w fun e w' => e = .returned (rv (⟨⟨2, 0, 0, s.data.toList.take z⟩, z, 0⟩)) ∧ Below w.heap.size w w' := by
  have _u := And.intro hs hz
  clear _u
  have hN := hid_as (below_new1 w (.cells #[.int .i64 0, .int .i64 0, .int .i64 0, .string ⟨#[]⟩, .int .i64 0] 31))
  have hR := hid_as (room_new w)
  have hTn := hid_as (hT.below hN.out)
  have c1 : (0 : Int) ≤ z := by omega
  have c2 : (z : Int) ≤ s.size := by omega
  have hX := hid_as (tx_take s z)
  have H : Hid (∀ W, Calls Tryd.prog 19 #[.string (s.extract z s.size), .string ⟨#[35]⟩] W fun e w' => e = .returned (.bool true) ∧ w' = W) := fun W => has_rest s z ⟨#[35]⟩ true hh W
  have K : Hid (∀ W, Tabs W → Calls Tryd.prog 23 #[.string (s.extract 0 z)] W fun e w' => e = .returned (.int .i64 0) ∧ w' = W) := fun W hW => by have h := kindNamed_take s z W hW; rw [h0] at h; exact h
  have WD := hid_as (Word_take s z)
  rw [hw] at WD
  have hb' : ¬ (32 : Int) < z := by omega
  go_enter Tryd.func29, Tryd.ntmps29
  go_wp2_with (first
    | (go_at_call 42; (with_reducible refine (Zc.out _).mono ?_); rintro e w' ⟨rfl, hw⟩; subst w')
    | (go_at_call 19; (with_reducible refine (H.out _).mono ?_); rintro e w' ⟨rfl, hw⟩; subst w')
    | (go_at_call 23; (with_reducible refine (K.out _ hTn.out).mono ?_); rintro e w' ⟨rfl, hw⟩; subst w')
    | (go_at_call 11; (with_reducible refine (WD.out _ hTn.out).mono ?_); rintro e w' ⟨rfl, hw⟩; subst w'))
  exact bodyPost_ret (v := .tuple #[.agg #[.int .i64 2, .int .i64 0, .int .i64 0, .string (s.extract 0 z), .int .i64 0], .int .i64 z, .int .i64 0]) (by simp [results, Tryd.results29, go_sem]) rfl ⟨by simp [rv, tv, hX.out], below_new1 _ _⟩
theorem plain_a (s : ByteArray) (hs : s.size ≤ 65536) (w : World) (hT : Tabs w) (z : Nat) (hz : z ≤ s.size) (Zc : Hid (∀ W, Calls Tryd.prog 42 #[.string s, .func (.func 43) #[] #[]] W fun e w' => e = .returned (.int .i64 z) ∧ w' = W)) (hh : hp (s.data.toList.drop z) [35] = true) (h0 : kf (s.data.toList.take z) = 0) (ht : ((s.extract 0 z).toList == [84]) = false) : Calls Tryd.prog 29 #[.string s] w fun e w' => e = .returned (rv (plainW (s.data.toList.take z))) ∧ Below w.heap.size w w' := by
  have hlz : (s.data.toList.take z).length = z := by rw [List.length_take, ← Lib.size_eq]; omega
  unfold plainW
  rw [hlz]
  cases hv : ((s.extract 0 z).toList == [84, 82, 85, 69]) with
  | true =>
    rw [← take_eq s z, hv, if_pos rfl]
    exact plain_true_a s hs w hT z hz Zc hh h0 ht hv
  | false =>
    cases hf : ((s.extract 0 z).toList == [70, 65, 76, 83, 69]) with
    | true =>
      rw [← take_eq s z, ← take_eq s z, hv, hf, if_neg Bool.false_ne_true, if_pos rfl]
      exact plain_false_a s hs w hT z hz Zc hh h0 ht hv hf
    | false =>
      rw [← take_eq s z, ← take_eq s z, hv, hf, if_neg Bool.false_ne_true, if_neg Bool.false_ne_true]
      cases hw : wrd (s.data.toList.take z) with
      | true => rw [if_pos rfl]; exact plain_word_a s hs w hT z hz Zc hh h0 ht hv hf hw
      | false =>
        rw [if_neg Bool.false_ne_true]
        by_cases hb : 32 < z
        · rw [if_pos hb]; exact plain_big_a s hs w hT z hz Zc hh h0 ht hv hf hw hb
        · rw [if_neg hb]; exact plain_name_a s hs w hT z hz Zc hh h0 ht hv hf hw hb
set_option maxHeartbeats 2000000 in
theorem plain_true_b (s : ByteArray) (hs : s.size ≤ 65536) (w : World) (hT : Tabs w) (z : Nat) (hz : z ≤ s.size) (Zc : Hid (∀ W, Calls Tryd.prog 42 #[.string s, .func (.func 43) #[] #[]] W fun e w' => e = .returned (.int .i64 z) ∧ w' = W)) (hh : hp (s.data.toList.drop z) [35] = false) (hv : ((s.extract 0 z).toList == [84, 82, 85, 69]) = true) : Calls Tryd.prog 29 #[.string s] w fun e w' => e = .returned (rv (⟨tru 1, z, 0⟩)) ∧ Below w.heap.size w w' := by
  have _u := And.intro hs hz
  clear _u
  have hN := hid_as (below_new1 w (.cells #[.int .i64 0, .int .i64 0, .int .i64 0, .string ⟨#[]⟩, .int .i64 0] 31))
  have hR := hid_as (room_new w)
  have hTn := hid_as (hT.below hN.out)
  have c1 : (0 : Int) ≤ z := by omega
  have c2 : (z : Int) ≤ s.size := by omega
  have H : Hid (∀ W, Calls Tryd.prog 19 #[.string (s.extract z s.size), .string ⟨#[35]⟩] W fun e w' => e = .returned (.bool false) ∧ w' = W) := fun W => has_rest s z ⟨#[35]⟩ false hh W
  have TC : Hid (∀ W, Calls Tryd.prog 46 #[.int .i64 1] W fun e w' => e = .returned (.agg #[.int .i64 3, .int .i64 1, .int .i64 1, .string ⟨#[]⟩, .int .i64 0]) ∧ Below W.heap.size W w') := fun W => truth_c 1 W
  go_enter Tryd.func29, Tryd.ntmps29
  go_wp2_with (first
    | (go_at_call 42; (with_reducible refine (Zc.out _).mono ?_); rintro e w' ⟨rfl, hw⟩; subst w')
    | (go_at_call 19; (with_reducible refine (H.out _).mono ?_); rintro e w' ⟨rfl, hw⟩; subst w')
    | (go_at_call 46; (with_reducible refine (TC.out _).mono ?_); rintro e w4 ⟨rfl, b4⟩; have hR4 := hid_as (hR.out.below b4); have hB4 := hid_as (below_and hN.out b4); obtain ⟨r0, r1, r2, r3, r4, rf, rl⟩ := hR4.out))
  exact bodyPost_ret (v := rv ⟨tru 1, z, 0⟩) (by simp [results, Tryd.results29, go_sem, rv, tv, tru, tx, r0, r1, r2, r3, r4]) rfl ⟨rfl, five_set hB4.out (Nat.le_refl _) _ _ _ _ _⟩
set_option maxHeartbeats 2000000 in
theorem plain_false_b (s : ByteArray) (hs : s.size ≤ 65536) (w : World) (hT : Tabs w) (z : Nat) (hz : z ≤ s.size) (Zc : Hid (∀ W, Calls Tryd.prog 42 #[.string s, .func (.func 43) #[] #[]] W fun e w' => e = .returned (.int .i64 z) ∧ w' = W)) (hh : hp (s.data.toList.drop z) [35] = false) (hn : ((s.extract 0 z).toList == [84, 82, 85, 69]) = false) (hv : ((s.extract 0 z).toList == [70, 65, 76, 83, 69]) = true) : Calls Tryd.prog 29 #[.string s] w fun e w' => e = .returned (rv (⟨tru 0, z, 0⟩)) ∧ Below w.heap.size w w' := by
  have _u := And.intro hs hz
  clear _u
  have hN := hid_as (below_new1 w (.cells #[.int .i64 0, .int .i64 0, .int .i64 0, .string ⟨#[]⟩, .int .i64 0] 31))
  have hR := hid_as (room_new w)
  have hTn := hid_as (hT.below hN.out)
  have c1 : (0 : Int) ≤ z := by omega
  have c2 : (z : Int) ≤ s.size := by omega
  have H : Hid (∀ W, Calls Tryd.prog 19 #[.string (s.extract z s.size), .string ⟨#[35]⟩] W fun e w' => e = .returned (.bool false) ∧ w' = W) := fun W => has_rest s z ⟨#[35]⟩ false hh W
  have TC : Hid (∀ W, Calls Tryd.prog 46 #[.int .i64 0] W fun e w' => e = .returned (.agg #[.int .i64 3, .int .i64 1, .int .i64 0, .string ⟨#[]⟩, .int .i64 0]) ∧ Below W.heap.size W w') := fun W => truth_c 0 W
  go_enter Tryd.func29, Tryd.ntmps29
  go_wp2_with (first
    | (go_at_call 42; (with_reducible refine (Zc.out _).mono ?_); rintro e w' ⟨rfl, hw⟩; subst w')
    | (go_at_call 19; (with_reducible refine (H.out _).mono ?_); rintro e w' ⟨rfl, hw⟩; subst w')
    | (go_at_call 46; (with_reducible refine (TC.out _).mono ?_); rintro e w4 ⟨rfl, b4⟩; have hR4 := hid_as (hR.out.below b4); have hB4 := hid_as (below_and hN.out b4); obtain ⟨r0, r1, r2, r3, r4, rf, rl⟩ := hR4.out))
  exact bodyPost_ret (v := rv ⟨tru 0, z, 0⟩) (by simp [results, Tryd.results29, go_sem, rv, tv, tru, tx, r0, r1, r2, r3, r4]) rfl ⟨rfl, five_set hB4.out (Nat.le_refl _) _ _ _ _ _⟩
set_option maxHeartbeats 2000000 in
theorem plain_word_b (s : ByteArray) (hs : s.size ≤ 65536) (w : World) (hT : Tabs w) (z : Nat) (hz : z ≤ s.size) (Zc : Hid (∀ W, Calls Tryd.prog 42 #[.string s, .func (.func 43) #[] #[]] W fun e w' => e = .returned (.int .i64 z) ∧ w' = W)) (hh : hp (s.data.toList.drop z) [35] = false) (hn : ((s.extract 0 z).toList == [84, 82, 85, 69]) = false) (hf : ((s.extract 0 z).toList == [70, 65, 76, 83, 69]) = false) (hw : wrd (s.data.toList.take z) = true) : Calls Tryd.prog 29 #[.string s] w fun e w' => e = .returned (rv (⟨⟨1, 0, 0, s.data.toList.take z⟩, z, 0⟩)) ∧ Below w.heap.size w w' := by
  have _u := And.intro hs hz
  clear _u
  have hN := hid_as (below_new1 w (.cells #[.int .i64 0, .int .i64 0, .int .i64 0, .string ⟨#[]⟩, .int .i64 0] 31))
  have hR := hid_as (room_new w)
  have hTn := hid_as (hT.below hN.out)
  have c1 : (0 : Int) ≤ z := by omega
  have c2 : (z : Int) ≤ s.size := by omega
  have hX := hid_as (tx_take s z)
  have H : Hid (∀ W, Calls Tryd.prog 19 #[.string (s.extract z s.size), .string ⟨#[35]⟩] W fun e w' => e = .returned (.bool false) ∧ w' = W) := fun W => has_rest s z ⟨#[35]⟩ false hh W
  have WD := hid_as (Word_take s z)
  rw [hw] at WD
  go_enter Tryd.func29, Tryd.ntmps29
  go_wp2_with (first
    | (go_at_call 42; (with_reducible refine (Zc.out _).mono ?_); rintro e w' ⟨rfl, hw⟩; subst w')
    | (go_at_call 19; (with_reducible refine (H.out _).mono ?_); rintro e w' ⟨rfl, hw⟩; subst w')
    | (go_at_call 11; (with_reducible refine (WD.out _ hTn.out).mono ?_); rintro e w' ⟨rfl, hw⟩; subst w'))
  exact bodyPost_ret (v := .tuple #[.agg #[.int .i64 1, .int .i64 0, .int .i64 0, .string (s.extract 0 z), .int .i64 0], .int .i64 z, .int .i64 0]) (by simp [results, Tryd.results29, go_sem]) rfl ⟨by simp [rv, tv, hX.out], below_new1 _ _⟩
set_option maxHeartbeats 2000000 in
theorem plain_big_b (s : ByteArray) (hs : s.size ≤ 65536) (w : World) (hT : Tabs w) (z : Nat) (hz : z ≤ s.size) (Zc : Hid (∀ W, Calls Tryd.prog 42 #[.string s, .func (.func 43) #[] #[]] W fun e w' => e = .returned (.int .i64 z) ∧ w' = W)) (hh : hp (s.data.toList.drop z) [35] = false) (hn : ((s.extract 0 z).toList == [84, 82, 85, 69]) = false) (hf : ((s.extract 0 z).toList == [70, 65, 76, 83, 69]) = false) (hw : wrd (s.data.toList.take z) = false) (hb : 32 < z) : Calls Tryd.prog 29 #[.string s] w fun e w' => e = .returned (rv (er 121)) ∧ Below w.heap.size w w' := by
  have _u := And.intro hs hz
  clear _u
  have hN := hid_as (below_new1 w (.cells #[.int .i64 0, .int .i64 0, .int .i64 0, .string ⟨#[]⟩, .int .i64 0] 31))
  have hR := hid_as (room_new w)
  have hTn := hid_as (hT.below hN.out)
  have c1 : (0 : Int) ≤ z := by omega
  have c2 : (z : Int) ≤ s.size := by omega
  have H : Hid (∀ W, Calls Tryd.prog 19 #[.string (s.extract z s.size), .string ⟨#[35]⟩] W fun e w' => e = .returned (.bool false) ∧ w' = W) := fun W => has_rest s z ⟨#[35]⟩ false hh W
  have WD := hid_as (Word_take s z)
  rw [hw] at WD
  have hb' : (32 : Int) < z := by omega
  go_enter Tryd.func29, Tryd.ntmps29
  go_wp2_with (first
    | (go_at_call 42; (with_reducible refine (Zc.out _).mono ?_); rintro e w' ⟨rfl, hw⟩; subst w')
    | (go_at_call 19; (with_reducible refine (H.out _).mono ?_); rintro e w' ⟨rfl, hw⟩; subst w')
    | (go_at_call 11; (with_reducible refine (WD.out _ hTn.out).mono ?_); rintro e w' ⟨rfl, hw⟩; subst w'))
  exact bodyPost_ret (v := rv (er 121)) (by simp [results, Tryd.results29, go_sem, rv, er, nul, tv, tx]) rfl ⟨rfl, below_new1 _ _⟩
set_option maxHeartbeats 2000000 in
theorem plain_name_b (s : ByteArray) (hs : s.size ≤ 65536) (w : World) (hT : Tabs w) (z : Nat) (hz : z ≤ s.size) (Zc : Hid (∀ W, Calls Tryd.prog 42 #[.string s, .func (.func 43) #[] #[]] W fun e w' => e = .returned (.int .i64 z) ∧ w' = W)) (hh : hp (s.data.toList.drop z) [35] = false) (hn : ((s.extract 0 z).toList == [84, 82, 85, 69]) = false) (hf : ((s.extract 0 z).toList == [70, 65, 76, 83, 69]) = false) (hw : wrd (s.data.toList.take z) = false) (hb : ¬ 32 < z) : Calls Tryd.prog 29 #[.string s] w fun e w' => e = .returned (rv (⟨⟨2, 0, 0, s.data.toList.take z⟩, z, 0⟩)) ∧ Below w.heap.size w w' := by
  have _u := And.intro hs hz
  clear _u
  have hN := hid_as (below_new1 w (.cells #[.int .i64 0, .int .i64 0, .int .i64 0, .string ⟨#[]⟩, .int .i64 0] 31))
  have hR := hid_as (room_new w)
  have hTn := hid_as (hT.below hN.out)
  have c1 : (0 : Int) ≤ z := by omega
  have c2 : (z : Int) ≤ s.size := by omega
  have hX := hid_as (tx_take s z)
  have H : Hid (∀ W, Calls Tryd.prog 19 #[.string (s.extract z s.size), .string ⟨#[35]⟩] W fun e w' => e = .returned (.bool false) ∧ w' = W) := fun W => has_rest s z ⟨#[35]⟩ false hh W
  have WD := hid_as (Word_take s z)
  rw [hw] at WD
  have hb' : ¬ (32 : Int) < z := by omega
  go_enter Tryd.func29, Tryd.ntmps29
  go_wp2_with (first
    | (go_at_call 42; (with_reducible refine (Zc.out _).mono ?_); rintro e w' ⟨rfl, hw⟩; subst w')
    | (go_at_call 19; (with_reducible refine (H.out _).mono ?_); rintro e w' ⟨rfl, hw⟩; subst w')
    | (go_at_call 11; (with_reducible refine (WD.out _ hTn.out).mono ?_); rintro e w' ⟨rfl, hw⟩; subst w'))
  exact bodyPost_ret (v := .tuple #[.agg #[.int .i64 2, .int .i64 0, .int .i64 0, .string (s.extract 0 z), .int .i64 0], .int .i64 z, .int .i64 0]) (by simp [results, Tryd.results29, go_sem]) rfl ⟨by simp [rv, tv, hX.out], below_new1 _ _⟩
theorem plain_b (s : ByteArray) (hs : s.size ≤ 65536) (w : World) (hT : Tabs w) (z : Nat) (hz : z ≤ s.size) (Zc : Hid (∀ W, Calls Tryd.prog 42 #[.string s, .func (.func 43) #[] #[]] W fun e w' => e = .returned (.int .i64 z) ∧ w' = W)) (hh : hp (s.data.toList.drop z) [35] = false) : Calls Tryd.prog 29 #[.string s] w fun e w' => e = .returned (rv (plainW (s.data.toList.take z))) ∧ Below w.heap.size w w' := by
  have hlz : (s.data.toList.take z).length = z := by rw [List.length_take, ← Lib.size_eq]; omega
  unfold plainW
  rw [hlz]
  cases hv : ((s.extract 0 z).toList == [84, 82, 85, 69]) with
  | true =>
    rw [← take_eq s z, hv, if_pos rfl]
    exact plain_true_b s hs w hT z hz Zc hh hv
  | false =>
    cases hf : ((s.extract 0 z).toList == [70, 65, 76, 83, 69]) with
    | true =>
      rw [← take_eq s z, ← take_eq s z, hv, hf, if_neg Bool.false_ne_true, if_pos rfl]
      exact plain_false_b s hs w hT z hz Zc hh hv hf
    | false =>
      rw [← take_eq s z, ← take_eq s z, hv, hf, if_neg Bool.false_ne_true, if_neg Bool.false_ne_true]
      cases hw : wrd (s.data.toList.take z) with
      | true => rw [if_pos rfl]; exact plain_word_b s hs w hT z hz Zc hh hv hf hw
      | false =>
        rw [if_neg Bool.false_ne_true]
        by_cases hb : 32 < z
        · rw [if_pos hb]; exact plain_big_b s hs w hT z hz Zc hh hv hf hw hb
        · rw [if_neg hb]; exact plain_name_b s hs w hT z hz Zc hh hv hf hw hb
/-- readWord. -/
theorem readWord_c (s : ByteArray) (hs : s.size ≤ 65536) (w : World) (hT : Tabs w) : Calls Tryd.prog 29 #[.string s] w fun e w' => e = .returned (rv (wdR s.data.toList)) ∧ Below w.heap.size w w' := by
  have Zc := hid_as (fun W => sizeW_c s W (by omega))
  have hz : cz inW s.data.toList ≤ s.size := by rw [Lib.size_eq]; exact cz_le _ _
  unfold wdR
  generalize cz inW s.data.toList = z at *
  cases hh : hp (s.data.toList.drop z) [35] with
  | false =>
    simp only [Bool.false_and, Bool.false_eq_true, if_false]
    exact plain_b s hs w hT z hz Zc hh
  | true =>
    have hlt : z + 1 ≤ s.size := by have h := hp_le hh; rw [List.length_drop, ← Lib.size_eq] at h; simp at h; omega
    by_cases h11 : kf (s.data.toList.take z) = 11
    · rw [decide_eq_true h11]
      exact word_time s hs w hT z hz Zc hlt hh h11
    · rw [decide_eq_false h11]
      cases ht : ((s.extract 0 z).toList == [84]) with
      | true =>
        rw [← take_eq s z, ht]
        exact word_T s hs w hT z hz Zc hlt hh h11 ht
      | false =>
        rw [← take_eq s z, ht]
        by_cases h0 : kf (s.data.toList.take z) = 0
        · rw [decide_eq_true h0]
          exact plain_a s hs w hT z hz Zc hh h0 ht
        · rw [decide_eq_false h0]
          exact word_typed s hs w hT z hz Zc hlt hh h11 h0 ht
end Go.Proofs.YtnponognncdkcaaDoor
