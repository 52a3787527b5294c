/- Readers: numbers, addresses, signs (stage 12). -/
import Derived.Test.YtnponognncdkcaaDoorW9
namespace Go.Proofs.YtnponognncdkcaaDoor
open Go.RowKit
open Adr Lx
theorem untyped_all (s : ByteArray) (N Z : Nat) (w : World) (hT : Tabs w) (D : Hid (∀ W, Tabs W → Calls Tryd.prog 47 #[.string s] W fun e w' => e = .returned (.tuple #[.int .i64 N, .int .i64 Z]) ∧ Below W.heap.size W w')) : Calls Tryd.prog 31 #[.string s] w fun e w' => e = .returned (rv (if Z = 0 then er 120 else if 4294967295 < N then er 121 else ⟨⟨3, 0, N, []⟩, Z, 0⟩)) ∧ Below w.heap.size w w' := by
  have hN := hid_as (below_new1 w (.cells #[.int .i64 0, .int .i64 0, .int .i64 0, .string ⟨#[]⟩, .int .i64 0] 31))
  have hR := hid_as (room_new w)
  have hTn := hid_as (hT.below hN.out)
  by_cases hz : Z = 0
  · rw [if_pos hz]
    subst hz
    go_enter Tryd.func31, Tryd.ntmps31
    go_wp2_with (first
      | (go_at_call 47; (with_reducible refine (D.out _ hTn.out).mono ?_); rintro e w4 ⟨rfl, b4⟩; have hR4 := hid_as (hR.out.below b4); have hB4 := hid_as (below_and hN.out b4); obtain ⟨r0, r1, r2, r3, r4, rf, rl⟩ := hR4.out))
    exact bodyPost_ret (v := rv (er 120)) (by simp [results, Tryd.results31, go_sem, rv, er, nul, tv, tx, r0, r1, r2, r3, r4]) rfl ⟨rfl, five_set hB4.out (Nat.le_refl _) _ _ _ _ _⟩
  · rw [if_neg hz]
    have hz' : ¬ (Z : Int) = 0 := by omega
    by_cases hn : 4294967295 < N
    · rw [if_pos hn]
      have hn' : (4294967295 : Int) < N := by omega
      go_enter Tryd.func31, Tryd.ntmps31
      go_wp2_with (first
        | (go_at_call 47; (with_reducible refine (D.out _ hTn.out).mono ?_); rintro e w4 ⟨rfl, b4⟩; have hR4 := hid_as (hR.out.below b4); have hB4 := hid_as (below_and hN.out b4); obtain ⟨r0, r1, r2, r3, r4, rf, rl⟩ := hR4.out))
      exact bodyPost_ret (v := rv (er 121)) (by simp [results, Tryd.results31, go_sem, rv, er, nul, tv, tx, r0, r1, r2, r3, r4]) rfl ⟨rfl, five_set hB4.out (Nat.le_refl _) _ _ _ _ _⟩
    · rw [if_neg hn]
      have hn' : ¬ (4294967295 : Int) < N := by omega
      go_enter Tryd.func31, Tryd.ntmps31
      go_wp2_with (first
        | (go_at_call 47; (with_reducible refine (D.out _ hTn.out).mono ?_); rintro e w4 ⟨rfl, b4⟩; have hR4 := hid_as (hR.out.below b4); have hB4 := hid_as (below_and hN.out b4); obtain ⟨r0, r1, r2, r3, r4, rf, rl⟩ := hR4.out))
      exact bodyPost_ret (v := rv ⟨⟨3, 0, N, []⟩, Z, 0⟩) (by simp [results, Tryd.results31, go_sem, rv, tv, tx, r0, r1, r2, r3, r4]) rfl ⟨rfl, five_set hB4.out (Nat.le_refl _) _ _ _ _ _⟩
theorem readUntyped_c (s : ByteArray) (hs : s.size ≤ 65536) (w : World) (hT : Tabs w) : Calls Tryd.prog 31 #[.string s] w fun e w' => e = .returned (rv (unR s.data.toList)) ∧ Below w.heap.size w w' :=
  untyped_all s (num s.data.toList).1 (num s.data.toList).2 w hT (hid_as (fun W hW => readNumber_c s W hW (by omega)))
theorem adz_le {l : List UInt8} (h : 0 < l.length) : adz l ≤ l.length ∧ 1 ≤ adz l := by
  unfold adz
  have := cz_le inA (l.drop 1)
  rw [List.length_drop] at this
  omega
theorem pe_two (l : List UInt8) : pe l = 0 ∨ pe l = 100 := by unfold pe; split <;> simp
set_option maxHeartbeats 2000000 in
theorem readAddress_c (s : ByteArray) (h0 : 0 < s.size) (hs : s.size ≤ 65536) (w : World) (hT : Tabs w) : Calls Tryd.prog 32 #[.string s] w fun e w' => e = .returned (rv (adR s.data.toList)) ∧ Below w.heap.size w w' := by
  have hN := hid_as (below_new1 w (.cells #[.int .i64 0, .int .i64 0, .int .i64 0, .string ⟨#[]⟩, .int .i64 0] 31))
  have hR := hid_as (room_new w)
  have hTn := hid_as (hT.below hN.out)
  have hL := hid_as (Lib.size_eq s)
  have c1 : (1 : Int) ≤ s.size := by omega
  have C0 := hid_as (fun W => sizeA_c (s.extract 1 s.size) W (by rw [tx_drop, tx_size, List.length_drop]; have := hL.out; omega))
  have C : Hid (∀ W, Calls Tryd.prog 42 #[.string (s.extract 1 s.size), .func (.func 48) #[] #[]] W fun e w' => e = .returned (.int .i64 (cz inA (s.data.toList.drop 1) : Nat)) ∧ w' = W) := by
    intro W
    have h := C0.out W
    rw [show (s.extract 1 s.size).data.toList = s.data.toList.drop 1 by rw [tx_drop, tx_list]] at h
    exact h
  clear C0
  obtain ⟨z1, z2⟩ := adz_le (l := s.data.toList) (by have := hL.out; omega)
  have hz : Hid (adz s.data.toList = 1 + cz inA (s.data.toList.drop 1)) := hid_as rfl
  rw [← hL.out] at z1
  have hX := hid_as (tx_take s (adz s.data.toList))
  have PR : Hid (∀ W, Tabs W → Calls Tryd.prog 49 #[.string (s.extract 0 (adz s.data.toList))] W fun e w' => e = .returned (.tuple #[.int .i64 (pa (s.data.toList.take (adz s.data.toList))), .int .i64 (pn (s.data.toList.take (adz s.data.toList))), .int .i64 (pe (s.data.toList.take (adz s.data.toList)))]) ∧ Same W w') := by
    intro W hW
    have h := parse_c (s.extract 0 (adz s.data.toList)) (by rw [tx_take, tx_size, List.length_take]; omega) W hW.areas
    rw [tx_take, tx_list] at h
    rw [tx_take]
    exact h
  have hadR : Hid (adR s.data.toList = if pe (s.data.toList.take (adz s.data.toList)) = 0 then ⟨⟨5, 0, 0, s.data.toList.take (adz s.data.toList)⟩, adz s.data.toList, 0⟩ else er (pe (s.data.toList.take (adz s.data.toList)))) := hid_as rfl
  rw [hadR.out]
  have hp2 := pe_two (s.data.toList.take (adz s.data.toList))
  clear hadR
  generalize adz s.data.toList = Z at *
  generalize cz inA (s.data.toList.drop 1) = Y at *
  generalize pe (s.data.toList.take Z) = E at *
  generalize pa (s.data.toList.take Z) = A at *
  generalize pn (s.data.toList.take Z) = N at *
  obtain rfl : Z = 1 + Y := hz.out
  have d1 : (0 : Int) ≤ 1 + (Y : Int) := by omega
  have d2 : (1 : Int) + Y ≤ s.size := by omega
  have d3 : IntKind.i64.wrap ((1 : Int) + Y) = 1 + (Y : Int) := by rw [IntKind.wrap_i64]; omega
  have d4 : ((1 : Int) + Y).toNat = 1 + Y := by omega
  rcases hp2 with rfl | rfl
  · rw [if_pos rfl]
    go_enter Tryd.func32, Tryd.ntmps32
    go_wp2_with (first
      | (go_at_call 42; (with_reducible refine (C.out _).mono ?_); rintro e w' ⟨rfl, hw⟩; subst w')
      | (go_at_call 49; refine (PR.out _ hTn.out).mono ?_; rintro e w4 ⟨rfl, b4⟩; have hR4 := hid_as (hR.out.below b4.below); have hB4 := hid_as (below_and hN.out b4.below); obtain ⟨r0, r1, r2, r3, r4, rf, rl⟩ := hR4.out))
    exact bodyPost_ret (v := .tuple #[.agg #[.int .i64 5, .int .i64 0, .int .i64 0, .string (s.extract 0 (1 + Y)), .int .i64 0], .int .i64 (1 + (Y : Int)), .int .i64 0]) (by simp [results, Tryd.results32, go_sem, r0, r1, r2, r3, r4]) rfl ⟨by simp [rv, tv, hX.out], five_set hB4.out (Nat.le_refl _) _ _ _ _ _⟩
  · rw [if_neg (by decide)]
    go_enter Tryd.func32, Tryd.ntmps32
    go_wp2_with (first
      | (go_at_call 42; (with_reducible refine (C.out _).mono ?_); rintro e w' ⟨rfl, hw⟩; subst w')
      | (go_at_call 49; refine (PR.out _ hTn.out).mono ?_; rintro e w4 ⟨rfl, b4⟩; have hR4 := hid_as (hR.out.below b4.below); have hB4 := hid_as (below_and hN.out b4.below); obtain ⟨r0, r1, r2, r3, r4, rf, rl⟩ := hR4.out))
    exact bodyPost_ret (v := rv (er 100)) (by simp [results, Tryd.results32, go_sem, rv, er, nul, tv, tx, r0, r1, r2, r3, r4]) rfl ⟨rfl, five_set hB4.out (Nat.le_refl _) _ _ _ _ _⟩
theorem head_of {s : ByteArray} (h : 0 < s.size) : s.data.toList.take 1 = [s[0]] := by
  have e := head_at h
  cases hl : s.data.toList with
  | nil => rw [hl] at e; cases e
  | cons c l => rw [hl] at e; simp at e; simp [e]
theorem two_of {s : ByteArray} {l : List UInt8} (e : ((s.extract 0 2).toList == l) = true) (h : two.contains l = true) : two.contains (s.data.toList.take 2) = true := by
  rw [Lib.toList_data, tx_take, tx_list] at e
  rw [beq_iff_eq.1 e]
  exact h
theorem two_no {l : List UInt8} (h1 : (l == [58, 61]) = false) (h2 : (l == [46, 46]) = false) (h3 : (l == [60, 61]) = false) (h4 : (l == [62, 61]) = false) (h5 : (l == [60, 62]) = false) (h6 : (l == [61, 62]) = false) : two.contains l = false := by
  simp only [two, List.contains_cons, List.contains_nil, h1, h2, h3, h4, h5, h6, Bool.or_false]
theorem no_two {s : ByteArray} (h1 : ((s.extract 0 2).toList == [58, 61]) = false) (h2 : ((s.extract 0 2).toList == [46, 46]) = false) (h3 : ((s.extract 0 2).toList == [60, 61]) = false) (h4 : ((s.extract 0 2).toList == [62, 61]) = false) (h5 : ((s.extract 0 2).toList == [60, 62]) = false) (h6 : ((s.extract 0 2).toList == [61, 62]) = false) : (decide (1 < s.data.toList.length) && two.contains (s.data.toList.take 2)) = false := by
  have e : s.data.toList.take 2 = (s.extract 0 2).toList := by rw [Lib.toList_data, tx_take, tx_list]
  rw [e, two_no h1 h2 h3 h4 h5 h6]
  exact Bool.and_false _
theorem sgz_two {s : ByteArray} {l : List UInt8} (h1 : 1 < s.size) (e : ((s.extract 0 2).toList == l) = true) (h : two.contains l = true) : Ending.returned (.int .i64 2) = .returned (.int .i64 (sgz s.data.toList)) := by
  unfold sgz
  rw [two_of e h, decide_eq_true (by rw [← Lib.size_eq]; exact h1)]
  rfl
theorem one_fin : ∀ n : Fin 256, decide (0 ≤ Lib.indexByte one (UInt8.ofNat n)) = one.contains (UInt8.ofNat n) := by decide +kernel
theorem one_at (c : UInt8) : decide (0 ≤ Lib.indexByte one c) = one.contains c := by
  have h := one_fin ⟨c.toNat, c.toNat_lt⟩
  simpa using h
theorem sgz_one {s : ByteArray} (h0 : 0 < s.size) (h : (decide (1 < s.data.toList.length) && two.contains (s.data.toList.take 2)) = false) : sgz s.data.toList = if (0 : Int) ≤ Lib.indexByte one s[0] then 1 else 0 := by
  unfold sgz
  rw [h, head_of h0, if_neg Bool.false_ne_true]
  have e := one_at s[0]
  simp only [List.all_cons, List.all_nil, Bool.and_true]
  by_cases hc : (0 : Int) ≤ Lib.indexByte one s[0]
  · rw [if_pos hc, ← e, decide_eq_true hc]; rfl
  · rw [if_neg hc, ← e, decide_eq_false hc]; rfl
theorem idxByte_c (s : ByteArray) (c : UInt8) (w : World) : Calls Tryd.prog 69 #[.string s, .int .u8 c.toNat] w fun e w' => e = .returned (.int .i64 (Lib.indexByte s.data.toList c)) ∧ w' = w := by
  have F0 := hid_as (fun W => findOne s (c.toNat : Int) W)
  rw [show ((c.toNat : Int)).toNat.toUInt8 = c by simp] at F0
  go_enter Tryd.func69, Tryd.ntmps69
  go_wp2_with (go_at_call 59; refine (F0.out _).mono ?_; rintro e w' ⟨rfl, hw⟩; subst w')
  go_ret
  exact ⟨rfl, rfl⟩
set_option maxHeartbeats 4000000 in
theorem signSize_c (s : ByteArray) (h0 : 0 < s.size) (w : World) : Calls Tryd.prog 50 #[.string s] w fun e w' => e = .returned (.int .i64 (sgz s.data.toList)) ∧ w' = w := by
  have I : Hid (∀ W, Calls Tryd.prog 69 #[.string ⟨#[58, 59, 44, 46, 40, 41, 91, 93, 61, 60, 62, 43, 45, 42, 47]⟩, .int .u8 s[0].toNat] W fun e w' => e = .returned (.int .i64 (Lib.indexByte one s[0])) ∧ w' = W) := fun W => idxByte_c _ _ W
  have ha : (0 : Int) < s.size := by omega
  by_cases h1 : 1 < s.size
  · have h1' : (1 : Int) < s.size := by omega
    have h2 : (2 : Int) ≤ s.size := by omega
    have O := fun h => hid_as (sgz_one (s := s) h0 h)
    generalize Lib.indexByte one s[0] = J at *
    go_enter Tryd.func50, Tryd.ntmps50
    go_wp2_with (go_at_call 69; (with_reducible refine (I.out _).mono ?_); rintro e w' ⟨rfl, hw⟩; subst w')
    all_goals first
      | (exfalso; apply both; assumption; assumption)
      | (go_ret; refine ⟨?_, rfl⟩; apply sgz_two h1; assumption; decide)
      | (have hn := no_two (s := s) (by assumption) (by assumption) (by assumption) (by assumption) (by assumption) (by assumption)
         go_ret
         refine ⟨ret_int ?_, rfl⟩
         rw [(O hn).out]
         first | (rw [if_pos (by assumption)]; rfl) | (rw [if_neg (by omega)]; rfl))
  · have O := hid_as (sgz_one (s := s) h0 (by rw [decide_eq_false (by rw [← Lib.size_eq]; exact h1)]; rfl))
    have h1' : ¬ (1 : Int) < s.size := by omega
    generalize Lib.indexByte one s[0] = J at *
    go_enter Tryd.func50, Tryd.ntmps50
    go_wp2_with (go_at_call 69; (with_reducible refine (I.out _).mono ?_); rintro e w' ⟨rfl, hw⟩; subst w')
    all_goals
      go_ret
      refine ⟨ret_int ?_, rfl⟩
      rw [O.out]
      first | (rw [if_pos (by assumption)]; rfl) | (rw [if_neg (by omega)]; rfl)
theorem sgz_le {l : List UInt8} (h : 0 < l.length) : sgz l ≤ l.length ∧ sgz l ≤ 2 := by
  unfold sgz
  split
  · rename_i h2; rw [Bool.and_eq_true, decide_eq_true_eq] at h2; omega
  · split <;> omega
set_option maxHeartbeats 2000000 in
theorem readSign_c (s : ByteArray) (h0 : 0 < s.size) (w : World) : Calls Tryd.prog 33 #[.string s] w fun e w' => e = .returned (rv (sgR s.data.toList)) ∧ Below w.heap.size w w' := by
  have hN := hid_as (below_new1 w (.cells #[.int .i64 0, .int .i64 0, .int .i64 0, .string ⟨#[]⟩, .int .i64 0] 31))
  have S := hid_as (fun W => signSize_c s h0 W)
  have hX := hid_as (tx_take s (sgz s.data.toList))
  obtain ⟨z1, z2⟩ := sgz_le (l := s.data.toList) (by rw [← Lib.size_eq]; exact h0)
  rw [← Lib.size_eq] at z1
  have hg : Hid (sgR s.data.toList = if sgz s.data.toList = 0 then er 120 else ⟨⟨6, 0, 0, s.data.toList.take (sgz s.data.toList)⟩, sgz s.data.toList, 0⟩) := hid_as rfl
  rw [hg.out]
  clear hg
  generalize sgz s.data.toList = Z at *
  have d1 : (0 : Int) ≤ Z := by omega
  have d2 : (Z : Int) ≤ s.size := by omega
  by_cases hz : Z = 0
  · rw [if_pos hz]
    subst hz
    go_enter Tryd.func33, Tryd.ntmps33
    go_wp2_with (go_at_call 50; (with_reducible refine (S.out _).mono ?_); rintro e w' ⟨rfl, hw⟩; subst w')
    exact bodyPost_ret (v := rv (er 120)) (by simp [results, Tryd.results33, go_sem, rv, er, nul, tv, tx]) rfl ⟨rfl, below_new1 _ _⟩
  · rw [if_neg hz]
    have hz' : ¬ (Z : Int) = 0 := by omega
    go_enter Tryd.func33, Tryd.ntmps33
    go_wp2_with (go_at_call 50; (with_reducible refine (S.out _).mono ?_); rintro e w' ⟨rfl, hw⟩; subst w')
    exact bodyPost_ret (v := .tuple #[.agg #[.int .i64 6, .int .i64 0, .int .i64 0, .string (s.extract 0 Z), .int .i64 0], .int .i64 Z, .int .i64 0]) (by simp [results, Tryd.results33, go_sem]) rfl ⟨by simp [rv, tv, hX.out], below_new1 _ _⟩
end Go.Proofs.YtnponognncdkcaaDoor
