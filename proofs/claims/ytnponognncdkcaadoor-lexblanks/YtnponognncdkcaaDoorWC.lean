/- The next token (stage 12). -/
import Derived.Test.YtnponognncdkcaaDoorWB
namespace Go.Proofs.YtnponognncdkcaaDoor
open Go.RowKit
open Adr Lx
set_option maxHeartbeats 2000000 in
theorem next_word (s : ByteArray) (h0 : 0 < s.size) (hs : s.size ≤ 65536) (w : World) (hT : Tabs w) (hl : isL s[0] = true) : Calls Tryd.prog 21 #[.string s] w fun e w' => e = .returned (rv (wdR s.data.toList)) ∧ Below w.heap.size w w' := by
  have _u := And.intro hs h0
  clear _u
  have hN := hid_as (below_new1 w (.cells #[.int .i64 0, .int .i64 0, .int .i64 0, .string ⟨#[]⟩, .int .i64 0] 31))
  have hR := hid_as (room_new w)
  have hTn := hid_as (hT.below hN.out)
  have ha : (0 : Int) < s.size := by omega
  have LC : Hid (∀ W, Calls Tryd.prog 28 #[.int .u8 s[0].toNat] W fun e w' => e = .returned (.bool true) ∧ w' = W) := fun W => by have h := isLetter_c s[0] W; rw [hl] at h; exact h
  have LT : Hid (∀ W, Tabs W → Calls Tryd.prog 29 #[.string s] W fun e w' => e = .returned (rv (wdR s.data.toList)) ∧ Below W.heap.size W w') := fun W hW => readWord_c s hs W hW
  generalize wdR s.data.toList = r at *
  obtain ⟨⟨ta, tb, tc, td⟩, tz, te⟩ := r
  replace LT : Hid (∀ W, Tabs W → Calls Tryd.prog 29 #[.string s] W fun e w' => e = .returned (.tuple #[.agg #[.int .i64 (ta : Nat), .int .i64 (tb : Nat), .int .i64 tc, .string (tx td), .int .i64 0], .int .i64 (tz : Nat), .int .i64 (te : Nat)]) ∧ Below W.heap.size W w') := LT
  go_enter Tryd.func21, Tryd.ntmps21
  go_wp2_with (first
    | (go_at_call 28; (with_reducible refine (LC.out _).mono ?_); rintro e w' ⟨rfl, hw⟩; subst w')
    | (go_at_call 29; (with_reducible refine (LT.out _ hTn.out).mono ?_); rintro e w4 ⟨rfl, b4⟩; have hR4 := hid_as (hR.out.below b4); have hB4 := hid_as (below_and hN.out b4); obtain ⟨r0, r1, r2, r3, r4, rf, rl⟩ := hR4.out))
  exact bodyPost_ret (v := rv ⟨⟨ta, tb, tc, td⟩, tz, te⟩) (by simp [results, Tryd.results21, go_sem, rv, tv, r0, r1, r2, r3, r4]) rfl ⟨rfl, five_set hB4.out (Nat.le_refl _) _ _ _ _ _⟩
set_option maxHeartbeats 2000000 in
theorem next_num (s : ByteArray) (h0 : 0 < s.size) (hs : s.size ≤ 65536) (w : World) (hT : Tabs w) (hl : isL s[0] = false) (hd : dgt s[0] = true) : Calls Tryd.prog 21 #[.string s] w fun e w' => e = .returned (rv (unR s.data.toList)) ∧ Below w.heap.size w w' := by
  have _u := And.intro hs h0
  clear _u
  have hN := hid_as (below_new1 w (.cells #[.int .i64 0, .int .i64 0, .int .i64 0, .string ⟨#[]⟩, .int .i64 0] 31))
  have hR := hid_as (room_new w)
  have hTn := hid_as (hT.below hN.out)
  have ha : (0 : Int) < s.size := by omega
  have LC : Hid (∀ W, Calls Tryd.prog 28 #[.int .u8 s[0].toNat] W fun e w' => e = .returned (.bool false) ∧ w' = W) := fun W => by have h := isLetter_c s[0] W; rw [hl] at h; exact h
  have DC : Hid (∀ W, Calls Tryd.prog 30 #[.int .u8 s[0].toNat] W fun e w' => e = .returned (.bool true) ∧ w' = W) := fun W => by have h := isDigit_c s[0] W; rw [hd] at h; exact h
  have LT : Hid (∀ W, Tabs W → Calls Tryd.prog 31 #[.string s] W fun e w' => e = .returned (rv (unR s.data.toList)) ∧ Below W.heap.size W w') := fun W hW => readUntyped_c s hs W hW
  generalize unR s.data.toList = r at *
  obtain ⟨⟨ta, tb, tc, td⟩, tz, te⟩ := r
  replace LT : Hid (∀ W, Tabs W → Calls Tryd.prog 31 #[.string s] W fun e w' => e = .returned (.tuple #[.agg #[.int .i64 (ta : Nat), .int .i64 (tb : Nat), .int .i64 tc, .string (tx td), .int .i64 0], .int .i64 (tz : Nat), .int .i64 (te : Nat)]) ∧ Below W.heap.size W w') := LT
  go_enter Tryd.func21, Tryd.ntmps21
  go_wp2_with (first
    | (go_at_call 28; (with_reducible refine (LC.out _).mono ?_); rintro e w' ⟨rfl, hw⟩; subst w')
    | (go_at_call 30; (with_reducible refine (DC.out _).mono ?_); rintro e w' ⟨rfl, hw⟩; subst w')
    | (go_at_call 31; (with_reducible refine (LT.out _ hTn.out).mono ?_); rintro e w4 ⟨rfl, b4⟩; have hR4 := hid_as (hR.out.below b4); have hB4 := hid_as (below_and hN.out b4); obtain ⟨r0, r1, r2, r3, r4, rf, rl⟩ := hR4.out))
  exact bodyPost_ret (v := rv ⟨⟨ta, tb, tc, td⟩, tz, te⟩) (by simp [results, Tryd.results21, go_sem, rv, tv, r0, r1, r2, r3, r4]) rfl ⟨rfl, five_set hB4.out (Nat.le_refl _) _ _ _ _ _⟩
set_option maxHeartbeats 2000000 in
theorem next_addr (s : ByteArray) (h0 : 0 < s.size) (hs : s.size ≤ 65536) (w : World) (hT : Tabs w) (hl : isL s[0] = false) (hd : dgt s[0] = false) (hc : ((s[0].toNat : Int) == 37) = true) : Calls Tryd.prog 21 #[.string s] w fun e w' => e = .returned (rv (adR s.data.toList)) ∧ Below w.heap.size w w' := by
  have _u := And.intro hs h0
  clear _u
  have hN := hid_as (below_new1 w (.cells #[.int .i64 0, .int .i64 0, .int .i64 0, .string ⟨#[]⟩, .int .i64 0] 31))
  have hR := hid_as (room_new w)
  have hTn := hid_as (hT.below hN.out)
  have ha : (0 : Int) < s.size := by omega
  have LC : Hid (∀ W, Calls Tryd.prog 28 #[.int .u8 s[0].toNat] W fun e w' => e = .returned (.bool false) ∧ w' = W) := fun W => by have h := isLetter_c s[0] W; rw [hl] at h; exact h
  have DC : Hid (∀ W, Calls Tryd.prog 30 #[.int .u8 s[0].toNat] W fun e w' => e = .returned (.bool false) ∧ w' = W) := fun W => by have h := isDigit_c s[0] W; rw [hd] at h; exact h
  have LT : Hid (∀ W, Tabs W → Calls Tryd.prog 32 #[.string s] W fun e w' => e = .returned (rv (adR s.data.toList)) ∧ Below W.heap.size W w') := fun W hW => readAddress_c s h0 hs W hW
  generalize adR s.data.toList = r at *
  obtain ⟨⟨ta, tb, tc, td⟩, tz, te⟩ := r
  replace LT : Hid (∀ W, Tabs W → Calls Tryd.prog 32 #[.string s] W fun e w' => e = .returned (.tuple #[.agg #[.int .i64 (ta : Nat), .int .i64 (tb : Nat), .int .i64 tc, .string (tx td), .int .i64 0], .int .i64 (tz : Nat), .int .i64 (te : Nat)]) ∧ Below W.heap.size W w') := LT
  go_enter Tryd.func21, Tryd.ntmps21
  go_wp2_with (first
    | (go_at_call 28; (with_reducible refine (LC.out _).mono ?_); rintro e w' ⟨rfl, hw⟩; subst w')
    | (go_at_call 30; (with_reducible refine (DC.out _).mono ?_); rintro e w' ⟨rfl, hw⟩; subst w')
    | (go_at_call 32; (with_reducible refine (LT.out _ hTn.out).mono ?_); rintro e w4 ⟨rfl, b4⟩; have hR4 := hid_as (hR.out.below b4); have hB4 := hid_as (below_and hN.out b4); obtain ⟨r0, r1, r2, r3, r4, rf, rl⟩ := hR4.out))
  exact bodyPost_ret (v := rv ⟨⟨ta, tb, tc, td⟩, tz, te⟩) (by simp [results, Tryd.results21, go_sem, rv, tv, r0, r1, r2, r3, r4]) rfl ⟨rfl, five_set hB4.out (Nat.le_refl _) _ _ _ _ _⟩
set_option maxHeartbeats 2000000 in
theorem next_line (s : ByteArray) (h0 : 0 < s.size) (hs : s.size ≤ 65536) (w : World) (hT : Tabs w) (hl : isL s[0] = false) (hd : dgt s[0] = false) (hc : ((s[0].toNat : Int) == 37) = false) (hf : ((s[0].toNat : Int) == 10) = true) : Calls Tryd.prog 21 #[.string s] w fun e w' => e = .returned (rv (⟨⟨7, 0, 0, [10]⟩, 1, 0⟩)) ∧ Below w.heap.size w w' := by
  have _u := And.intro hs h0
  clear _u
  have hN := hid_as (below_new1 w (.cells #[.int .i64 0, .int .i64 0, .int .i64 0, .string ⟨#[]⟩, .int .i64 0] 31))
  have hR := hid_as (room_new w)
  have hTn := hid_as (hT.below hN.out)
  have ha : (0 : Int) < s.size := by omega
  have hf2 : ((s[0].toNat : Int) == ((({ data := #[10] } : ByteArray)[0]'(by decide)).toNat : Int)) = true := hf
  have LC : Hid (∀ W, Calls Tryd.prog 28 #[.int .u8 s[0].toNat] W fun e w' => e = .returned (.bool false) ∧ w' = W) := fun W => by have h := isLetter_c s[0] W; rw [hl] at h; exact h
  have DC : Hid (∀ W, Calls Tryd.prog 30 #[.int .u8 s[0].toNat] W fun e w' => e = .returned (.bool false) ∧ w' = W) := fun W => by have h := isDigit_c s[0] W; rw [hd] at h; exact h
  go_enter Tryd.func21, Tryd.ntmps21
  go_wp2_with (first
    | (go_at_call 28; (with_reducible refine (LC.out _).mono ?_); rintro e w' ⟨rfl, hw⟩; subst w')
    | (go_at_call 30; (with_reducible refine (DC.out _).mono ?_); rintro e w' ⟨rfl, hw⟩; subst w'))
  exact bodyPost_ret (v := rv ⟨⟨7, 0, 0, [10]⟩, 1, 0⟩) (by simp [results, Tryd.results21, go_sem, rv, tv, tx]) rfl ⟨rfl, below_new1 _ _⟩
set_option maxHeartbeats 2000000 in
theorem next_sign (s : ByteArray) (h0 : 0 < s.size) (hs : s.size ≤ 65536) (w : World) (hT : Tabs w) (hl : isL s[0] = false) (hd : dgt s[0] = false) (hc : ((s[0].toNat : Int) == 37) = false) (hf : ((s[0].toNat : Int) == 10) = false) : Calls Tryd.prog 21 #[.string s] w fun e w' => e = .returned (rv (sgR s.data.toList)) ∧ Below w.heap.size w w' := by
  have _u := And.intro hs h0
  clear _u
  have hN := hid_as (below_new1 w (.cells #[.int .i64 0, .int .i64 0, .int .i64 0, .string ⟨#[]⟩, .int .i64 0] 31))
  have hR := hid_as (room_new w)
  have hTn := hid_as (hT.below hN.out)
  have ha : (0 : Int) < s.size := by omega
  have hf2 : ((s[0].toNat : Int) == ((({ data := #[10] } : ByteArray)[0]'(by decide)).toNat : Int)) = false := hf
  have LC : Hid (∀ W, Calls Tryd.prog 28 #[.int .u8 s[0].toNat] W fun e w' => e = .returned (.bool false) ∧ w' = W) := fun W => by have h := isLetter_c s[0] W; rw [hl] at h; exact h
  have DC : Hid (∀ W, Calls Tryd.prog 30 #[.int .u8 s[0].toNat] W fun e w' => e = .returned (.bool false) ∧ w' = W) := fun W => by have h := isDigit_c s[0] W; rw [hd] at h; exact h
  have LT : Hid (∀ W, Tabs W → Calls Tryd.prog 33 #[.string s] W fun e w' => e = .returned (rv (sgR s.data.toList)) ∧ Below W.heap.size W w') := fun W hW => readSign_c s h0 W
  generalize sgR s.data.toList = r at *
  obtain ⟨⟨ta, tb, tc, td⟩, tz, te⟩ := r
  replace LT : Hid (∀ W, Tabs W → Calls Tryd.prog 33 #[.string s] W fun e w' => e = .returned (.tuple #[.agg #[.int .i64 (ta : Nat), .int .i64 (tb : Nat), .int .i64 tc, .string (tx td), .int .i64 0], .int .i64 (tz : Nat), .int .i64 (te : Nat)]) ∧ Below W.heap.size W w') := LT
  go_enter Tryd.func21, Tryd.ntmps21
  go_wp2_with (first
    | (go_at_call 28; (with_reducible refine (LC.out _).mono ?_); rintro e w' ⟨rfl, hw⟩; subst w')
    | (go_at_call 30; (with_reducible refine (DC.out _).mono ?_); rintro e w' ⟨rfl, hw⟩; subst w')
    | (go_at_call 33; (with_reducible refine (LT.out _ hTn.out).mono ?_); rintro e w4 ⟨rfl, b4⟩; have hR4 := hid_as (hR.out.below b4); have hB4 := hid_as (below_and hN.out b4); obtain ⟨r0, r1, r2, r3, r4, rf, rl⟩ := hR4.out))
  exact bodyPost_ret (v := rv ⟨⟨ta, tb, tc, td⟩, tz, te⟩) (by simp [results, Tryd.results21, go_sem, rv, tv, r0, r1, r2, r3, r4]) rfl ⟨rfl, five_set hB4.out (Nat.le_refl _) _ _ _ _ _⟩
theorem beq_dec (n k : Nat) : ((n : Int) == (k : Int)) = decide (n = k) := by
  rw [Bool.eq_iff_iff, beq_iff_eq, decide_eq_true_eq]
  omega
/-- The next token, of any text that isn't empty. -/
theorem next_c (s : ByteArray) (h0 : 0 < s.size) (hs : s.size ≤ 65536) (w : World) (hT : Tabs w) : Calls Tryd.prog 21 #[.string s] w fun e w' => e = .returned (rv (nx s.data.toList)) ∧ Below w.heap.size w w' := by
  have e : nx s.data.toList = if isL s[0] then wdR s.data.toList else if dgt s[0] then unR s.data.toList else if decide (s[0].toNat = 37) then adR s.data.toList else if decide (s[0].toNat = 10) then ⟨⟨7, 0, 0, [10]⟩, 1, 0⟩ else sgR s.data.toList := by
    have h := head_at h0
    cases hl : s.data.toList with
    | nil => rw [hl] at h; cases h
    | cons c l => rw [hl] at h; simp at h; rw [← h]; rfl
  rw [e]
  cases hl : isL s[0] with
  | true => rw [if_pos rfl]; exact next_word s h0 hs w hT hl
  | false =>
    rw [if_neg Bool.false_ne_true]
    cases hd : dgt s[0] with
    | true => rw [if_pos rfl]; exact next_num s h0 hs w hT hl hd
    | false =>
      rw [if_neg Bool.false_ne_true]
      cases hc : decide (s[0].toNat = 37) with
      | true => rw [if_pos rfl]; exact next_addr s h0 hs w hT hl hd ((beq_dec _ 37).trans hc)
      | false =>
        rw [if_neg Bool.false_ne_true]
        cases hf : decide (s[0].toNat = 10) with
        | true => rw [if_pos rfl]; exact next_line s h0 hs w hT hl hd ((beq_dec _ 37).trans hc) ((beq_dec _ 10).trans hf)
        | false => rw [if_neg Bool.false_ne_true]; exact next_sign s h0 hs w hT hl hd ((beq_dec _ 37).trans hc) ((beq_dec _ 10).trans hf)
set_option maxHeartbeats 2000000 in
/-- commentSize, of a text of two signs or more. -/
theorem commentSize_c (s : ByteArray) (h2 : 2 ≤ s.size) (hs : s.size ≤ 65536) (w : World) (hT : Tabs w) : Calls Tryd.prog 20 #[.string s] w fun e w' => e = .returned (.int .i64 (csz s.data.toList)) ∧ w' = w := by
  obtain ⟨m, hm⟩ := hT.max
  have c2 : (2 : Int) ≤ s.size := by omega
  have I0 := hid_as (findIn (s.extract 2 s.size) ⟨#[42, 41]⟩ m w (by rw [tx_drop, tx_size, List.length_drop, ← Lib.size_eq]; omega) hm)
  have I : Hid (Calls Tryd.prog 41 #[.string (s.extract 2 s.size), .string ⟨#[42, 41]⟩] w fun e w' => e = .returned (.int .i64 (Lib.index (s.data.toList.drop 2) [42, 41])) ∧ w' = w) := by
    have h := I0.out
    rw [show (s.extract 2 s.size).data.toList = s.data.toList.drop 2 by rw [tx_drop, tx_list]] at h
    exact h
  clear I0
  have IS : Hid (Calls Tryd.prog 27 #[.string (s.extract 2 s.size), .string ⟨#[42, 41]⟩] w fun e w' => e = .returned (.int .i64 (Lib.index (s.data.toList.drop 2) [42, 41])) ∧ w' = w) := by
    show Calls _ _ _ _ _
    go_enter Tryd.func27, Tryd.ntmps27
    go_wp2_with (go_at_call 41; (with_reducible refine I.out.mono ?_); rintro e w' ⟨rfl, hw⟩; subst w')
    go_ret
    exact ⟨rfl, rfl⟩
  have hb := Lib.index_le (s.data.toList.drop 2) [42, 41]
  have hcs : Hid (csz s.data.toList = if Lib.index (s.data.toList.drop 2) [42, 41] < 0 then 0 else (Lib.index (s.data.toList.drop 2) [42, 41]).toNat + 4) := hid_as rfl
  rw [hcs.out]
  clear hcs I
  rw [List.length_drop, ← Lib.size_eq] at hb
  generalize Lib.index (s.data.toList.drop 2) [42, 41] = J at *
  by_cases hJ : J < 0
  · rw [if_pos hJ]
    go_enter Tryd.func20, Tryd.ntmps20
    go_wp2_with (go_at_call 27; (with_reducible refine IS.out.mono ?_); rintro e w' ⟨rfl, hw⟩; subst w')
    go_ret
    exact ⟨rfl, rfl⟩
  · rw [if_neg hJ]
    have hJ2 : J ≤ 65536 := by omega
    go_enter Tryd.func20, Tryd.ntmps20
    go_wp2_with (go_at_call 27; (with_reducible refine IS.out.mono ?_); rintro e w' ⟨rfl, hw⟩; subst w')
    go_ret
    exact ⟨ret_int (by omega), rfl⟩
end Go.Proofs.YtnponognncdkcaaDoor
