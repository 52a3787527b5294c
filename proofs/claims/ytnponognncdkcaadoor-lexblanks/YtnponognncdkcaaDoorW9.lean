/- Readers: times, typed numbers (stage 12). -/
import Derived.Test.YtnponognncdkcaaDoorW4
import Derived.Test.YtnponognncdkcaaDoorW5
import Derived.Test.YtnponognncdkcaaDoorW8
namespace Go.Proofs.YtnponognncdkcaaDoor
open Go.RowKit
open Adr Lx
theorem readSpan_t (l : List UInt8) (hs : l.length ≤ 70000) (w : World) (hT : Tabs w) : Calls Tryd.prog 64 #[.string (tx l)] w fun e w' => e = .returned (.tuple #[.int .i64 ((span l).1 : Int), .int .i64 ((span l).2 : Int)]) ∧ Below w.heap.size w w' := by
  have h := readSpan_c (tx l) w hT (by rw [tx_size]; exact hs)
  rw [tx_list] at h
  exact h
theorem readNumber_t (l : List UInt8) (hs : l.length ≤ 70000) (w : World) (hT : Tabs w) : Calls Tryd.prog 47 #[.string (tx l)] w fun e w' => e = .returned (.tuple #[.int .i64 ((num l).1 : Int), .int .i64 ((num l).2 : Int)]) ∧ Below w.heap.size w w' := by
  have h := readNumber_c (tx l) w hT (by rw [tx_size]; exact hs)
  rw [tx_list] at h
  exact h
/-- A token's room lies in block g, and may be written. -/
structure Room (W : World) (g : Nat) : Prop where
  c0 : W.cell? ⟨g, 0, none⟩ = some (.int .i64 0)
  c1 : W.cell? ⟨g, 1, none⟩ = some (.int .i64 0)
  c2 : W.cell? ⟨g, 2, none⟩ = some (.int .i64 0)
  c3 : W.cell? ⟨g, 3, none⟩ = some (.string ⟨#[]⟩)
  c4 : W.cell? ⟨g, 4, none⟩ = some (.int .i64 0)
  fr : ∀ j, W.frozen? ⟨g, j, none⟩ = false
  lt : g < W.heap.size
theorem Room.below {W W' : World} {g : Nat} (r : Room W g) (k : Below W.heap.size W W') : Room W' g :=
  ⟨(k.cell (p := ⟨g, 0, none⟩) r.lt).trans r.c0, (k.cell (p := ⟨g, 1, none⟩) r.lt).trans r.c1, (k.cell (p := ⟨g, 2, none⟩) r.lt).trans r.c2, (k.cell (p := ⟨g, 3, none⟩) r.lt).trans r.c3, (k.cell (p := ⟨g, 4, none⟩) r.lt).trans r.c4, fun j => (k.frozen (p := ⟨g, j, none⟩) r.lt).trans (r.fr j), Nat.lt_of_lt_of_le r.lt k.size⟩
theorem room_new (w : World) : Room (w.alloc (.cells #[.int .i64 0, .int .i64 0, .int .i64 0, .string ⟨#[]⟩, .int .i64 0] 31)) w.heap.size :=
  ⟨by simp, by simp, by simp, by simp, by simp, fun j => by simp, by simp⟩
theorem five_set {b g : Nat} {w W : World} (h : Below b w W) (hg : b ≤ g) (x y z u v : Value) : Below b w (((((W.setCell ⟨g, 0, none⟩ x).setCell ⟨g, 1, none⟩ y).setCell ⟨g, 2, none⟩ z).setCell ⟨g, 3, none⟩ u).setCell ⟨g, 4, none⟩ v) :=
  ((((h.setCell (p := ⟨g, 0, none⟩) hg _).setCell (p := ⟨g, 1, none⟩) hg _).setCell (p := ⟨g, 2, none⟩) hg _).setCell (p := ⟨g, 3, none⟩) hg _).setCell (p := ⟨g, 4, none⟩) hg _
theorem ltR_le {tok k : Nat} {n : Int} {a z : Nat} : (ltR tok k n a z).z ≤ a + z := by
  unfold ltR
  split
  · simp [er]
  · split
    · simp [er]
    · exact Nat.le_refl _
theorem hp_le {l p : List UInt8} (h : hp l p = true) : p.length ≤ l.length := by
  unfold hp at h
  rw [← Lib.hasPrefix_of_take, Bool.and_eq_true, decide_eq_true_eq] at h
  exact h.1
theorem byB_le (k : Nat) (l : List UInt8) (h : hp l (bn k).data.toList = true) : (byB k l).2 ≤ l.length ∧ (byB k l).1 ≤ 8589934592 := by
  unfold byB
  have h0 := rd_le (bo k) (l.drop (bn k).data.toList.length)
  rw [List.length_drop] at h0
  have h1 : (bn k).data.toList.length ≤ l.length := hp_le h
  split
  · exact ⟨Nat.zero_le _, Nat.zero_le _⟩
  · exact ⟨by show (bn k).data.toList.length + _ ≤ _; omega, h0.2⟩
theorem num_le (l : List UInt8) : (num l).2 ≤ l.length ∧ (num l).1 ≤ 8589934592 := by
  unfold num
  split
  · rename_i h; exact byB_le 0 l h
  · split
    · rename_i h; exact byB_le 1 l h
    · split
      · rename_i h; exact byB_le 2 l h
      · exact rd_le 10 l
theorem cut_rest (s : ByteArray) (a : Nat) (p : ByteArray) (b : Bool) (h : hp (s.data.toList.drop a) p.data.toList = b) (W : World) : Calls Tryd.prog 63 #[.string (s.extract a s.size), .string p] W fun e w' => e = .returned (.tuple #[.string (if b then tx ((s.data.toList.drop a).drop p.data.toList.length) else s.extract a s.size), .bool b]) ∧ w' = W := by
  have k := head_c (s.extract a s.size) p W
  rw [tx_drop, tx_list] at k
  rw [tx_drop]
  rw [show Lib.hasPrefix (s.data.toList.drop a) p.data.toList = b from h] at k
  exact k
theorem has_rest (s : ByteArray) (a : Nat) (p : ByteArray) (b : Bool) (h : hp (s.data.toList.drop a) p.data.toList = b) (W : World) : Calls Tryd.prog 19 #[.string (s.extract a s.size), .string p] W fun e w' => e = .returned (.bool b) ∧ w' = W := by
  have k := hasPrefix_c (s.extract a s.size) p W
  rw [tx_drop, tx_list, h] at k
  rw [tx_drop]
  exact k
set_option maxHeartbeats 2000000 in
theorem readTime_true (s : ByteArray) (a : Nat) (ha : a ≤ s.size) (hs : s.size ≤ 65536) (w : World) (hT : Tabs w) (hq : hp (s.data.toList.drop a) [45] = true) : Calls Tryd.prog 44 #[.string s, .int .i64 a] w fun e w' => e = .returned (rv (tmR s.data.toList a)) ∧ Below w.heap.size w w' := by
  have hL := hid_as (Lib.size_eq s)
  have c1 : (0 : Int) ≤ a := by omega
  have c2 : (a : Int) ≤ s.size := by omega
  have hN := hid_as (below_new1 w (.cells #[.int .i64 0, .int .i64 0, .int .i64 0, .string ⟨#[]⟩, .int .i64 0] 31))
  have hR := hid_as (room_new w)
  have hTn := hid_as (hT.below hN.out)
  have P : Hid (∀ W, Calls Tryd.prog 63 #[.string (s.extract a s.size), .string ⟨#[45]⟩] W fun e w' => e = .returned (.tuple #[.string (tx ((s.data.toList.drop a).drop 1)), .bool true]) ∧ w' = W) := fun W => cut_rest s a ⟨#[45]⟩ true hq W
  have e1 : tmR s.data.toList a = ltR 4 11 (-((span ((s.data.toList.drop a).drop 1)).1 : Int)) (a + 1) (span ((s.data.toList.drop a).drop 1)).2 := by unfold tmR; rw [if_pos hq]
  rw [e1]
  have hlen : ((s.data.toList.drop a).drop 1).length ≤ 65536 := by have := hL.out; rw [List.length_drop]; rw [List.length_drop]; omega
  have hsp := spanK_most ((s.data.toList.drop a).drop 1) 5 (by omega)
  have S := hid_as (fun W hW => readSpan_t ((s.data.toList.drop a).drop 1) (by omega) W hW)
  rw [show spanK ((s.data.toList.drop a).drop 1) 5 = span ((s.data.toList.drop a).drop 1) from rfl] at hsp
  clear hq e1
  generalize (span ((s.data.toList.drop a).drop 1)).1 = N at *
  generalize (span ((s.data.toList.drop a).drop 1)).2 = Z at *
  generalize hX : tx ((s.data.toList.drop a).drop 1) = X at *
  have hZ : Z ≤ 65536 := by omega
  have LT : Hid (∀ W, Tabs W → Calls Tryd.prog 65 #[.int .i64 4, .int .i64 11, .int .i64 (-(N : Int)), .int .i64 ((a : Int) + 1), .int .i64 Z] W fun e w' => e = .returned (rv (ltR 4 11 (-(N : Int)) (a + 1) Z)) ∧ Below W.heap.size W w') := fun W hW => literal_c 4 11 (-(N : Int)) (a + 1) Z (by omega) (by omega) (by omega) W hW
  generalize ltR 4 11 (-(N : Int)) (a + 1) Z = r at *
  obtain ⟨⟨ta, tb, tc, td⟩, tz, te⟩ := r
  replace LT : Hid (∀ W, Tabs W → Calls Tryd.prog 65 #[.int .i64 4, .int .i64 11, .int .i64 (-(N : Int)), .int .i64 ((a : Int) + 1), .int .i64 Z] W fun e w' => e = .returned (.tuple #[.agg #[.int .i64 (ta : Nat), .int .i64 (tb : Nat), .int .i64 tc, .string (tx td), .int .i64 0], .int .i64 (tz : Nat), .int .i64 (te : Nat)]) ∧ Below W.heap.size W w') := LT
  go_enter Tryd.func44, Tryd.ntmps44
  go_wp2_with (first
    | (go_at_call 63; (with_reducible refine (P.out _).mono ?_); rintro e w' ⟨rfl, hw⟩; subst w')
    | (go_at_call 64; (with_reducible refine (S.out _ hTn.out).mono ?_); rintro e w3 ⟨rfl, b3⟩; have hR3 := hid_as (hR.out.below b3); have hT3 := hid_as (hTn.out.below b3); have hB3 := hid_as (below_and hN.out b3))
    | (go_at_call 65; (with_reducible refine (LT.out _ hT3.out).mono ?_); rintro e w4 ⟨rfl, b4⟩; have hR4 := hid_as (hR3.out.below b4); have hB4 := hid_as (below_and hB3.out b4); clear hR3 hT3 hB3; obtain ⟨r0, r1, r2, r3, r4, rf, rl⟩ := hR4.out))
  exact bodyPost_ret (v := rv ⟨⟨ta, tb, tc, td⟩, tz, te⟩) (by simp [results, Tryd.results44, go_sem, rv, tv, r0, r1, r2, r3, r4]) rfl ⟨rfl, five_set hB4.out (Nat.le_refl _) _ _ _ _ _⟩
set_option maxHeartbeats 2000000 in
theorem readTime_false (s : ByteArray) (a : Nat) (ha : a ≤ s.size) (hs : s.size ≤ 65536) (w : World) (hT : Tabs w) (hq : hp (s.data.toList.drop a) [45] = false) : Calls Tryd.prog 44 #[.string s, .int .i64 a] w fun e w' => e = .returned (rv (tmR s.data.toList a)) ∧ Below w.heap.size w w' := by
  have hL := hid_as (Lib.size_eq s)
  have c1 : (0 : Int) ≤ a := by omega
  have c2 : (a : Int) ≤ s.size := by omega
  have hN := hid_as (below_new1 w (.cells #[.int .i64 0, .int .i64 0, .int .i64 0, .string ⟨#[]⟩, .int .i64 0] 31))
  have hR := hid_as (room_new w)
  have hTn := hid_as (hT.below hN.out)
  have P : Hid (∀ W, Calls Tryd.prog 63 #[.string (s.extract a s.size), .string ⟨#[45]⟩] W fun e w' => e = .returned (.tuple #[.string (s.extract a s.size), .bool false]) ∧ w' = W) := fun W => cut_rest s a ⟨#[45]⟩ false hq W
  have e1 : tmR s.data.toList a = ltR 4 11 (((span (s.data.toList.drop a)).1 : Int)) (a) (span (s.data.toList.drop a)).2 := by unfold tmR; rw [if_neg (by rw [hq]; exact Bool.false_ne_true)]
  rw [e1]
  have hlen : (s.data.toList.drop a).length ≤ 65536 := by have := hL.out; rw [List.length_drop]; omega
  have hsp := spanK_most (s.data.toList.drop a) 5 (by omega)
  have S := hid_as (fun W hW => readSpan_t (s.data.toList.drop a) (by omega) W hW)
  rw [show spanK (s.data.toList.drop a) 5 = span (s.data.toList.drop a) from rfl] at hsp
  rw [← tx_drop] at S
  clear hq e1
  generalize (span (s.data.toList.drop a)).1 = N at *
  generalize (span (s.data.toList.drop a)).2 = Z at *
  have hZ : Z ≤ 65536 := by omega
  have LT : Hid (∀ W, Tabs W → Calls Tryd.prog 65 #[.int .i64 4, .int .i64 11, .int .i64 (N : Int), .int .i64 (a : Int), .int .i64 Z] W fun e w' => e = .returned (rv (ltR 4 11 (N : Int) (a) Z)) ∧ Below W.heap.size W w') := fun W hW => literal_c 4 11 (N : Int) (a) Z (by omega) (by omega) (by omega) W hW
  generalize ltR 4 11 (N : Int) (a) Z = r at *
  obtain ⟨⟨ta, tb, tc, td⟩, tz, te⟩ := r
  replace LT : Hid (∀ W, Tabs W → Calls Tryd.prog 65 #[.int .i64 4, .int .i64 11, .int .i64 (N : Int), .int .i64 (a : Int), .int .i64 Z] W fun e w' => e = .returned (.tuple #[.agg #[.int .i64 (ta : Nat), .int .i64 (tb : Nat), .int .i64 tc, .string (tx td), .int .i64 0], .int .i64 (tz : Nat), .int .i64 (te : Nat)]) ∧ Below W.heap.size W w') := LT
  go_enter Tryd.func44, Tryd.ntmps44
  go_wp2_with (first
    | (go_at_call 63; (with_reducible refine (P.out _).mono ?_); rintro e w' ⟨rfl, hw⟩; subst w')
    | (go_at_call 64; (with_reducible refine (S.out _ hTn.out).mono ?_); rintro e w3 ⟨rfl, b3⟩; have hR3 := hid_as (hR.out.below b3); have hT3 := hid_as (hTn.out.below b3); have hB3 := hid_as (below_and hN.out b3))
    | (go_at_call 65; (with_reducible refine (LT.out _ hT3.out).mono ?_); rintro e w4 ⟨rfl, b4⟩; have hR4 := hid_as (hR3.out.below b4); have hB4 := hid_as (below_and hB3.out b4); clear hR3 hT3 hB3; obtain ⟨r0, r1, r2, r3, r4, rf, rl⟩ := hR4.out))
  exact bodyPost_ret (v := rv ⟨⟨ta, tb, tc, td⟩, tz, te⟩) (by simp [results, Tryd.results44, go_sem, rv, tv, r0, r1, r2, r3, r4]) rfl ⟨rfl, five_set hB4.out (Nat.le_refl _) _ _ _ _ _⟩
theorem readTime_c (s : ByteArray) (a : Nat) (ha : a ≤ s.size) (hs : s.size ≤ 65536) (w : World) (hT : Tabs w) : Calls Tryd.prog 44 #[.string s, .int .i64 a] w fun e w' => e = .returned (rv (tmR s.data.toList a)) ∧ Below w.heap.size w w' := by
  cases hq : hp (s.data.toList.drop a) [45] with
  | true => exact readTime_true s a ha hs w hT hq
  | false => exact readTime_false s a ha hs w hT hq
set_option maxHeartbeats 2000000 in
theorem typed_true (s : ByteArray) (a k : Nat) (ha : a ≤ s.size) (hs : s.size ≤ 65536) (hk : k < 12) (w : World) (hT : Tabs w) (hk1 : k = 1) (hq : hp (s.data.toList.drop a) [84, 82, 85, 69] = true) : Calls Tryd.prog 45 #[.string s, .int .i64 a, .int .i64 k] w fun e w' => e = .returned (rv (tyR s.data.toList a k)) ∧ Below w.heap.size w w' := by
  subst hk1
  have hL := hid_as (Lib.size_eq s)
  have c1 : (0 : Int) ≤ a := by omega
  have c2 : (a : Int) ≤ s.size := by omega
  have hN := hid_as (below_new1 w (.cells #[.int .i64 0, .int .i64 0, .int .i64 0, .string ⟨#[]⟩, .int .i64 0] 31))
  have hR := hid_as (room_new w)
  have hTn := hid_as (hT.below hN.out)
  have e1 : tyR s.data.toList a 1 = ⟨tru 1, a + 4, 0⟩ := by unfold tyR; rw [hq]; rfl
  rw [e1]
  have H1 : Hid (∀ W, Calls Tryd.prog 19 #[.string (s.extract a s.size), .string ⟨#[84, 82, 85, 69]⟩] W fun e w' => e = .returned (.bool true) ∧ w' = W) := fun W => has_rest s a ⟨#[84, 82, 85, 69]⟩ true hq W
  have TC : Hid (∀ W, Calls Tryd.prog 46 #[.int .i64 1] W fun e w' => e = .returned (.agg #[.int .i64 3, .int .i64 1, .int .i64 1, .string ⟨#[]⟩, .int .i64 0]) ∧ Below W.heap.size W w') := fun W => truth_c 1 W
  go_enter Tryd.func45, Tryd.ntmps45
  go_wp2_with (first
    | (go_at_call 19; (first | (with_reducible refine (H1.out _).mono ?_)); rintro e w' ⟨rfl, hw⟩; subst w')
    | (go_at_call 46; (with_reducible refine (TC.out _).mono ?_); rintro e w4 ⟨rfl, b4⟩; have hR4 := hid_as (hR.out.below b4); have hB4 := hid_as (below_and hN.out b4); obtain ⟨r0, r1, r2, r3, r4, rf, rl⟩ := hR4.out))
  exact bodyPost_ret (v := rv ⟨tru 1, a + 4, 0⟩) (by simp [results, Tryd.results45, go_sem, rv, tv, tru, tx, r0, r1, r2, r3, r4]) rfl ⟨rfl, five_set hB4.out (Nat.le_refl _) _ _ _ _ _⟩
set_option maxHeartbeats 2000000 in
theorem typed_false (s : ByteArray) (a k : Nat) (ha : a ≤ s.size) (hs : s.size ≤ 65536) (hk : k < 12) (w : World) (hT : Tabs w) (hk1 : k = 1) (hq0 : hp (s.data.toList.drop a) [84, 82, 85, 69] = false) (hq : hp (s.data.toList.drop a) [70, 65, 76, 83, 69] = true) : Calls Tryd.prog 45 #[.string s, .int .i64 a, .int .i64 k] w fun e w' => e = .returned (rv (tyR s.data.toList a k)) ∧ Below w.heap.size w w' := by
  subst hk1
  have hL := hid_as (Lib.size_eq s)
  have c1 : (0 : Int) ≤ a := by omega
  have c2 : (a : Int) ≤ s.size := by omega
  have hN := hid_as (below_new1 w (.cells #[.int .i64 0, .int .i64 0, .int .i64 0, .string ⟨#[]⟩, .int .i64 0] 31))
  have hR := hid_as (room_new w)
  have hTn := hid_as (hT.below hN.out)
  have e1 : tyR s.data.toList a 1 = ⟨tru 0, a + 5, 0⟩ := by unfold tyR; rw [hq0, hq]; rfl
  rw [e1]
  have H0 : Hid (∀ W, Calls Tryd.prog 19 #[.string (s.extract a s.size), .string ⟨#[84, 82, 85, 69]⟩] W fun e w' => e = .returned (.bool false) ∧ w' = W) := fun W => has_rest s a ⟨#[84, 82, 85, 69]⟩ false hq0 W
  have H1 : Hid (∀ W, Calls Tryd.prog 19 #[.string (s.extract a s.size), .string ⟨#[70, 65, 76, 83, 69]⟩] W fun e w' => e = .returned (.bool true) ∧ w' = W) := fun W => has_rest s a ⟨#[70, 65, 76, 83, 69]⟩ true hq W
  have TC : Hid (∀ W, Calls Tryd.prog 46 #[.int .i64 0] W fun e w' => e = .returned (.agg #[.int .i64 3, .int .i64 1, .int .i64 0, .string ⟨#[]⟩, .int .i64 0]) ∧ Below W.heap.size W w') := fun W => truth_c 0 W
  go_enter Tryd.func45, Tryd.ntmps45
  go_wp2_with (first
    | (go_at_call 19; (first | (with_reducible refine (H0.out _).mono ?_) | (with_reducible refine (H1.out _).mono ?_)); rintro e w' ⟨rfl, hw⟩; subst w')
    | (go_at_call 46; (with_reducible refine (TC.out _).mono ?_); rintro e w4 ⟨rfl, b4⟩; have hR4 := hid_as (hR.out.below b4); have hB4 := hid_as (below_and hN.out b4); obtain ⟨r0, r1, r2, r3, r4, rf, rl⟩ := hR4.out))
  exact bodyPost_ret (v := rv ⟨tru 0, a + 5, 0⟩) (by simp [results, Tryd.results45, go_sem, rv, tv, tru, tx, r0, r1, r2, r3, r4]) rfl ⟨rfl, five_set hB4.out (Nat.le_refl _) _ _ _ _ _⟩
set_option maxHeartbeats 2000000 in
theorem typed_minus (s : ByteArray) (a k : Nat) (ha : a ≤ s.size) (hs : s.size ≤ 65536) (hk : k < 12) (w : World) (hT : Tabs w) (hk1 : ¬ k = 1) (hq : hp (s.data.toList.drop a) [45] = true) (hlo : klo k < 0) : Calls Tryd.prog 45 #[.string s, .int .i64 a, .int .i64 k] w fun e w' => e = .returned (rv (tyR s.data.toList a k)) ∧ Below w.heap.size w w' := by
  have hL := hid_as (Lib.size_eq s)
  have c1 : (0 : Int) ≤ a := by omega
  have c2 : (a : Int) ≤ s.size := by omega
  have hN := hid_as (below_new1 w (.cells #[.int .i64 0, .int .i64 0, .int .i64 0, .string ⟨#[]⟩, .int .i64 0] 31))
  have hR := hid_as (room_new w)
  have hTn := hid_as (hT.below hN.out)
  have h5 := hT.five
  have hk' : (k : Int) < 12 := by omega
  have hdk : decide ((12 : Int) ≤ k) = false := decide_eq_false (by omega)
  have kc : ∀ o, (w.alloc o).cell? ⟨0, k * 3 + 1, none⟩ = some (.int .i64 (klo k)) := fun o => by rw [World.cell?_alloc_lt _ _ ⟨0, k * 3 + 1, none⟩ (show 0 < w.heap.size by omega)]; exact (hT.kind k hk).2.1
  have hk1' : ¬ (k : Int) = 1 := by omega
  have e1 : tyR s.data.toList a k = ltR 3 k (-((rd 10 ((s.data.toList.drop a).drop 1)).1 : Int)) (a + 1) (rd 10 ((s.data.toList.drop a).drop 1)).2 := by unfold tyR; rw [decide_eq_false hk1, hq, decide_eq_true hlo]; rfl
  rw [e1]
  have P : Hid (∀ W, Calls Tryd.prog 63 #[.string (s.extract a s.size), .string ⟨#[45]⟩] W fun e w' => e = .returned (.tuple #[.string (tx ((s.data.toList.drop a).drop 1)), .bool true]) ∧ w' = W) := fun W => cut_rest s a ⟨#[45]⟩ true hq W
  have hlen : ((s.data.toList.drop a).drop 1).length ≤ 65536 := by have := hL.out; rw [List.length_drop]; rw [List.length_drop]; omega
  have hrd := rd_le 10 ((s.data.toList.drop a).drop 1)
  have D : Hid (∀ W, Calls Tryd.prog 66 #[.string (tx ((s.data.toList.drop a).drop 1)), .int .i64 10] W fun e w' => e = .returned (.tuple #[.int .i64 ((rd 10 ((s.data.toList.drop a).drop 1)).1 : Int), .int .i64 ((rd 10 ((s.data.toList.drop a).drop 1)).2 : Int)]) ∧ w' = W) := fun W => readDigits_t ((s.data.toList.drop a).drop 1) 10 (by omega) (by omega) W
  clear hq e1
  generalize (rd 10 ((s.data.toList.drop a).drop 1)).1 = N at *
  generalize (rd 10 ((s.data.toList.drop a).drop 1)).2 = Z at *
  generalize hX : tx ((s.data.toList.drop a).drop 1) = X at *
  have hZ : Z ≤ 65536 := by omega
  have LT : Hid (∀ W, Tabs W → Calls Tryd.prog 65 #[.int .i64 3, .int .i64 k, .int .i64 (-(N : Int)), .int .i64 ((a : Int) + 1), .int .i64 Z] W fun e w' => e = .returned (rv (ltR 3 k (-(N : Int)) (a + 1) Z)) ∧ Below W.heap.size W w') := fun W hW => literal_c 3 k (-(N : Int)) (a + 1) Z hk (by omega) (by omega) W hW
  generalize ltR 3 k (-(N : Int)) (a + 1) Z = r at *
  obtain ⟨⟨ta, tb, tc, td⟩, tz, te⟩ := r
  replace LT : Hid (∀ W, Tabs W → Calls Tryd.prog 65 #[.int .i64 3, .int .i64 k, .int .i64 (-(N : Int)), .int .i64 ((a : Int) + 1), .int .i64 Z] W fun e w' => e = .returned (.tuple #[.agg #[.int .i64 (ta : Nat), .int .i64 (tb : Nat), .int .i64 tc, .string (tx td), .int .i64 0], .int .i64 (tz : Nat), .int .i64 (te : Nat)]) ∧ Below W.heap.size W w') := LT
  go_enter Tryd.func45, Tryd.ntmps45
  go_wp2_with (first
    | (go_at_call 63; (with_reducible refine (P.out _).mono ?_); rintro e w' ⟨rfl, hw⟩; subst w')
    | (go_at_call 66; (with_reducible refine (D.out _).mono ?_); rintro e w' ⟨rfl, hw⟩; subst w')
    | (go_at_call 65; (with_reducible refine (LT.out _ hTn.out).mono ?_); rintro e w4 ⟨rfl, b4⟩; have hR4 := hid_as (hR.out.below b4); have hB4 := hid_as (below_and hN.out b4); obtain ⟨r0, r1, r2, r3, r4, rf, rl⟩ := hR4.out))
  exact bodyPost_ret (v := rv ⟨⟨ta, tb, tc, td⟩, tz, te⟩) (by simp [results, Tryd.results45, go_sem, rv, tv, r0, r1, r2, r3, r4]) rfl ⟨rfl, five_set hB4.out (Nat.le_refl _) _ _ _ _ _⟩
set_option maxHeartbeats 2000000 in
theorem typed_num_k_true (s : ByteArray) (a k : Nat) (ha : a ≤ s.size) (hs : s.size ≤ 65536) (hk : k < 12) (w : World) (hT : Tabs w) (hk1 : k = 1) (hq0 : hp (s.data.toList.drop a) [84, 82, 85, 69] = false) (hq1 : hp (s.data.toList.drop a) [70, 65, 76, 83, 69] = false) (hq : hp (s.data.toList.drop a) [45] = true) (hlo : ¬ klo k < 0) : Calls Tryd.prog 45 #[.string s, .int .i64 a, .int .i64 k] w fun e w' => e = .returned (rv (tyR s.data.toList a k)) ∧ Below w.heap.size w w' := by
  subst hk1
  have hL := hid_as (Lib.size_eq s)
  have c1 : (0 : Int) ≤ a := by omega
  have c2 : (a : Int) ≤ s.size := by omega
  have hN := hid_as (below_new1 w (.cells #[.int .i64 0, .int .i64 0, .int .i64 0, .string ⟨#[]⟩, .int .i64 0] 31))
  have hR := hid_as (room_new w)
  have hTn := hid_as (hT.below hN.out)
  have h5 := hT.five
  have kc : ∀ o, (w.alloc o).cell? ⟨0, 1 * 3 + 1, none⟩ = some (.int .i64 (klo 1)) := fun o => by rw [World.cell?_alloc_lt _ _ ⟨0, 1 * 3 + 1, none⟩ (show 0 < w.heap.size by omega)]; exact (hT.kind 1 hk).2.1
  have e1 : tyR s.data.toList a 1 = ltR 3 1 (num (s.data.toList.drop a)).1 a (num (s.data.toList.drop a)).2 := by unfold tyR; rw [hq0, hq1, hq, decide_eq_false hlo]; rfl
  rw [e1]
  have H0 : Hid (∀ W, Calls Tryd.prog 19 #[.string (s.extract a s.size), .string ⟨#[84, 82, 85, 69]⟩] W fun e w' => e = .returned (.bool false) ∧ w' = W) := fun W => has_rest s a ⟨#[84, 82, 85, 69]⟩ false hq0 W
  have H1 : Hid (∀ W, Calls Tryd.prog 19 #[.string (s.extract a s.size), .string ⟨#[70, 65, 76, 83, 69]⟩] W fun e w' => e = .returned (.bool false) ∧ w' = W) := fun W => has_rest s a ⟨#[70, 65, 76, 83, 69]⟩ false hq1 W
  have P : Hid (∀ W, Calls Tryd.prog 63 #[.string (s.extract a s.size), .string ⟨#[45]⟩] W fun e w' => e = .returned (.tuple #[.string (tx ((s.data.toList.drop a).drop 1)), .bool true]) ∧ w' = W) := fun W => cut_rest s a ⟨#[45]⟩ true hq W
  have hlen : (s.data.toList.drop a).length ≤ 65536 := by have := hL.out; rw [List.length_drop]; omega
  have hrd := num_le (s.data.toList.drop a)
  have D := hid_as (fun W hW => readNumber_t (s.data.toList.drop a) (by omega) W hW)
  rw [← tx_drop] at D
  clear hq e1
  generalize (num (s.data.toList.drop a)).1 = N at *
  generalize (num (s.data.toList.drop a)).2 = Z at *
  generalize hX : tx ((s.data.toList.drop a).drop 1) = X at *
  have hZ : Z ≤ 65536 := by omega
  have LT : Hid (∀ W, Tabs W → Calls Tryd.prog 65 #[.int .i64 3, .int .i64 1, .int .i64 N, .int .i64 a, .int .i64 Z] W fun e w' => e = .returned (rv (ltR 3 1 (N : Int) a Z)) ∧ Below W.heap.size W w') := fun W hW => literal_c 3 1 N a Z hk (by omega) (by omega) W hW
  generalize ltR 3 1 (N : Int) a Z = r at *
  obtain ⟨⟨ta, tb, tc, td⟩, tz, te⟩ := r
  replace LT : Hid (∀ W, Tabs W → Calls Tryd.prog 65 #[.int .i64 3, .int .i64 1, .int .i64 N, .int .i64 a, .int .i64 Z] W fun e w' => e = .returned (.tuple #[.agg #[.int .i64 (ta : Nat), .int .i64 (tb : Nat), .int .i64 tc, .string (tx td), .int .i64 0], .int .i64 (tz : Nat), .int .i64 (te : Nat)]) ∧ Below W.heap.size W w') := LT
  go_enter Tryd.func45, Tryd.ntmps45
  go_wp2_with (first
    | (go_at_call 19; (first | (with_reducible refine (H0.out _).mono ?_) | (with_reducible refine (H1.out _).mono ?_)); rintro e w' ⟨rfl, hw⟩; subst w')
    | (go_at_call 63; (with_reducible refine (P.out _).mono ?_); rintro e w' ⟨rfl, hw⟩; subst w')
    | (go_at_call 47; (with_reducible refine (D.out _ hTn.out).mono ?_); rintro e w3 ⟨rfl, b3⟩; have hR3 := hid_as (hR.out.below b3); have hT3 := hid_as (hTn.out.below b3); have hB3 := hid_as (below_and hN.out b3))
    | (go_at_call 65; (with_reducible refine (LT.out _ hT3.out).mono ?_); rintro e w4 ⟨rfl, b4⟩; have hR4 := hid_as (hR3.out.below b4); have hB4 := hid_as (below_and hB3.out b4); clear hR3 hT3 hB3; obtain ⟨r0, r1, r2, r3, r4, rf, rl⟩ := hR4.out))
  exact bodyPost_ret (v := rv ⟨⟨ta, tb, tc, td⟩, tz, te⟩) (by simp [results, Tryd.results45, go_sem, rv, tv, r0, r1, r2, r3, r4]) rfl ⟨rfl, five_set hB4.out (Nat.le_refl _) _ _ _ _ _⟩
set_option maxHeartbeats 2000000 in
theorem typed_num_k_false (s : ByteArray) (a k : Nat) (ha : a ≤ s.size) (hs : s.size ≤ 65536) (hk : k < 12) (w : World) (hT : Tabs w) (hk1 : k = 1) (hq0 : hp (s.data.toList.drop a) [84, 82, 85, 69] = false) (hq1 : hp (s.data.toList.drop a) [70, 65, 76, 83, 69] = false) (hq : hp (s.data.toList.drop a) [45] = false) (_ : True) : Calls Tryd.prog 45 #[.string s, .int .i64 a, .int .i64 k] w fun e w' => e = .returned (rv (tyR s.data.toList a k)) ∧ Below w.heap.size w w' := by
  subst hk1
  have hL := hid_as (Lib.size_eq s)
  have c1 : (0 : Int) ≤ a := by omega
  have c2 : (a : Int) ≤ s.size := by omega
  have hN := hid_as (below_new1 w (.cells #[.int .i64 0, .int .i64 0, .int .i64 0, .string ⟨#[]⟩, .int .i64 0] 31))
  have hR := hid_as (room_new w)
  have hTn := hid_as (hT.below hN.out)
  have h5 := hT.five
  have kc : ∀ o, (w.alloc o).cell? ⟨0, 1 * 3 + 1, none⟩ = some (.int .i64 (klo 1)) := fun o => by rw [World.cell?_alloc_lt _ _ ⟨0, 1 * 3 + 1, none⟩ (show 0 < w.heap.size by omega)]; exact (hT.kind 1 hk).2.1
  have e1 : tyR s.data.toList a 1 = ltR 3 1 (num (s.data.toList.drop a)).1 a (num (s.data.toList.drop a)).2 := by unfold tyR; rw [hq0, hq1, hq]; rfl
  rw [e1]
  have H0 : Hid (∀ W, Calls Tryd.prog 19 #[.string (s.extract a s.size), .string ⟨#[84, 82, 85, 69]⟩] W fun e w' => e = .returned (.bool false) ∧ w' = W) := fun W => has_rest s a ⟨#[84, 82, 85, 69]⟩ false hq0 W
  have H1 : Hid (∀ W, Calls Tryd.prog 19 #[.string (s.extract a s.size), .string ⟨#[70, 65, 76, 83, 69]⟩] W fun e w' => e = .returned (.bool false) ∧ w' = W) := fun W => has_rest s a ⟨#[70, 65, 76, 83, 69]⟩ false hq1 W
  have P : Hid (∀ W, Calls Tryd.prog 63 #[.string (s.extract a s.size), .string ⟨#[45]⟩] W fun e w' => e = .returned (.tuple #[.string (s.extract a s.size), .bool false]) ∧ w' = W) := fun W => cut_rest s a ⟨#[45]⟩ false hq W
  have hlen : (s.data.toList.drop a).length ≤ 65536 := by have := hL.out; rw [List.length_drop]; omega
  have hrd := num_le (s.data.toList.drop a)
  have D := hid_as (fun W hW => readNumber_t (s.data.toList.drop a) (by omega) W hW)
  rw [← tx_drop] at D
  clear hq e1
  generalize (num (s.data.toList.drop a)).1 = N at *
  generalize (num (s.data.toList.drop a)).2 = Z at *
  have hZ : Z ≤ 65536 := by omega
  have LT : Hid (∀ W, Tabs W → Calls Tryd.prog 65 #[.int .i64 3, .int .i64 1, .int .i64 N, .int .i64 a, .int .i64 Z] W fun e w' => e = .returned (rv (ltR 3 1 (N : Int) a Z)) ∧ Below W.heap.size W w') := fun W hW => literal_c 3 1 N a Z hk (by omega) (by omega) W hW
  generalize ltR 3 1 (N : Int) a Z = r at *
  obtain ⟨⟨ta, tb, tc, td⟩, tz, te⟩ := r
  replace LT : Hid (∀ W, Tabs W → Calls Tryd.prog 65 #[.int .i64 3, .int .i64 1, .int .i64 N, .int .i64 a, .int .i64 Z] W fun e w' => e = .returned (.tuple #[.agg #[.int .i64 (ta : Nat), .int .i64 (tb : Nat), .int .i64 tc, .string (tx td), .int .i64 0], .int .i64 (tz : Nat), .int .i64 (te : Nat)]) ∧ Below W.heap.size W w') := LT
  go_enter Tryd.func45, Tryd.ntmps45
  go_wp2_with (first
    | (go_at_call 19; (first | (with_reducible refine (H0.out _).mono ?_) | (with_reducible refine (H1.out _).mono ?_)); rintro e w' ⟨rfl, hw⟩; subst w')
    | (go_at_call 63; (with_reducible refine (P.out _).mono ?_); rintro e w' ⟨rfl, hw⟩; subst w')
    | (go_at_call 47; (with_reducible refine (D.out _ hTn.out).mono ?_); rintro e w3 ⟨rfl, b3⟩; have hR3 := hid_as (hR.out.below b3); have hT3 := hid_as (hTn.out.below b3); have hB3 := hid_as (below_and hN.out b3))
    | (go_at_call 65; (with_reducible refine (LT.out _ hT3.out).mono ?_); rintro e w4 ⟨rfl, b4⟩; have hR4 := hid_as (hR3.out.below b4); have hB4 := hid_as (below_and hB3.out b4); clear hR3 hT3 hB3; obtain ⟨r0, r1, r2, r3, r4, rf, rl⟩ := hR4.out))
  exact bodyPost_ret (v := rv ⟨⟨ta, tb, tc, td⟩, tz, te⟩) (by simp [results, Tryd.results45, go_sem, rv, tv, r0, r1, r2, r3, r4]) rfl ⟨rfl, five_set hB4.out (Nat.le_refl _) _ _ _ _ _⟩
set_option maxHeartbeats 2000000 in
theorem typed_num_n_true (s : ByteArray) (a k : Nat) (ha : a ≤ s.size) (hs : s.size ≤ 65536) (hk : k < 12) (w : World) (hT : Tabs w) (hk1 : ¬ k = 1) (hq : hp (s.data.toList.drop a) [45] = true) (hlo : ¬ klo k < 0) : Calls Tryd.prog 45 #[.string s, .int .i64 a, .int .i64 k] w fun e w' => e = .returned (rv (tyR s.data.toList a k)) ∧ Below w.heap.size w w' := by
  have hL := hid_as (Lib.size_eq s)
  have c1 : (0 : Int) ≤ a := by omega
  have c2 : (a : Int) ≤ s.size := by omega
  have hN := hid_as (below_new1 w (.cells #[.int .i64 0, .int .i64 0, .int .i64 0, .string ⟨#[]⟩, .int .i64 0] 31))
  have hR := hid_as (room_new w)
  have hTn := hid_as (hT.below hN.out)
  have h5 := hT.five
  have hk' : (k : Int) < 12 := by omega
  have hdk : decide ((12 : Int) ≤ k) = false := decide_eq_false (by omega)
  have kc : ∀ o, (w.alloc o).cell? ⟨0, k * 3 + 1, none⟩ = some (.int .i64 (klo k)) := fun o => by rw [World.cell?_alloc_lt _ _ ⟨0, k * 3 + 1, none⟩ (show 0 < w.heap.size by omega)]; exact (hT.kind k hk).2.1
  have hk1' : ¬ (k : Int) = 1 := by omega
  have e1 : tyR s.data.toList a k = ltR 3 k (num (s.data.toList.drop a)).1 a (num (s.data.toList.drop a)).2 := by unfold tyR; rw [decide_eq_false hk1, hq, decide_eq_false hlo]; rfl
  rw [e1]
  have P : Hid (∀ W, Calls Tryd.prog 63 #[.string (s.extract a s.size), .string ⟨#[45]⟩] W fun e w' => e = .returned (.tuple #[.string (tx ((s.data.toList.drop a).drop 1)), .bool true]) ∧ w' = W) := fun W => cut_rest s a ⟨#[45]⟩ true hq W
  have hlen : (s.data.toList.drop a).length ≤ 65536 := by have := hL.out; rw [List.length_drop]; omega
  have hrd := num_le (s.data.toList.drop a)
  have D := hid_as (fun W hW => readNumber_t (s.data.toList.drop a) (by omega) W hW)
  rw [← tx_drop] at D
  clear hq e1
  generalize (num (s.data.toList.drop a)).1 = N at *
  generalize (num (s.data.toList.drop a)).2 = Z at *
  generalize hX : tx ((s.data.toList.drop a).drop 1) = X at *
  have hZ : Z ≤ 65536 := by omega
  have LT : Hid (∀ W, Tabs W → Calls Tryd.prog 65 #[.int .i64 3, .int .i64 k, .int .i64 N, .int .i64 a, .int .i64 Z] W fun e w' => e = .returned (rv (ltR 3 k (N : Int) a Z)) ∧ Below W.heap.size W w') := fun W hW => literal_c 3 k N a Z hk (by omega) (by omega) W hW
  generalize ltR 3 k (N : Int) a Z = r at *
  obtain ⟨⟨ta, tb, tc, td⟩, tz, te⟩ := r
  replace LT : Hid (∀ W, Tabs W → Calls Tryd.prog 65 #[.int .i64 3, .int .i64 k, .int .i64 N, .int .i64 a, .int .i64 Z] W fun e w' => e = .returned (.tuple #[.agg #[.int .i64 (ta : Nat), .int .i64 (tb : Nat), .int .i64 tc, .string (tx td), .int .i64 0], .int .i64 (tz : Nat), .int .i64 (te : Nat)]) ∧ Below W.heap.size W w') := LT
  go_enter Tryd.func45, Tryd.ntmps45
  go_wp2_with (first
    | (go_at_call 63; (with_reducible refine (P.out _).mono ?_); rintro e w' ⟨rfl, hw⟩; subst w')
    | (go_at_call 47; (with_reducible refine (D.out _ hTn.out).mono ?_); rintro e w3 ⟨rfl, b3⟩; have hR3 := hid_as (hR.out.below b3); have hT3 := hid_as (hTn.out.below b3); have hB3 := hid_as (below_and hN.out b3))
    | (go_at_call 65; (with_reducible refine (LT.out _ hT3.out).mono ?_); rintro e w4 ⟨rfl, b4⟩; have hR4 := hid_as (hR3.out.below b4); have hB4 := hid_as (below_and hB3.out b4); clear hR3 hT3 hB3; obtain ⟨r0, r1, r2, r3, r4, rf, rl⟩ := hR4.out))
  exact bodyPost_ret (v := rv ⟨⟨ta, tb, tc, td⟩, tz, te⟩) (by simp [results, Tryd.results45, go_sem, rv, tv, r0, r1, r2, r3, r4]) rfl ⟨rfl, five_set hB4.out (Nat.le_refl _) _ _ _ _ _⟩
set_option maxHeartbeats 2000000 in
theorem typed_num_n_false (s : ByteArray) (a k : Nat) (ha : a ≤ s.size) (hs : s.size ≤ 65536) (hk : k < 12) (w : World) (hT : Tabs w) (hk1 : ¬ k = 1) (hq : hp (s.data.toList.drop a) [45] = false) (_ : True) : Calls Tryd.prog 45 #[.string s, .int .i64 a, .int .i64 k] w fun e w' => e = .returned (rv (tyR s.data.toList a k)) ∧ Below w.heap.size w w' := by
  have hL := hid_as (Lib.size_eq s)
  have c1 : (0 : Int) ≤ a := by omega
  have c2 : (a : Int) ≤ s.size := by omega
  have hN := hid_as (below_new1 w (.cells #[.int .i64 0, .int .i64 0, .int .i64 0, .string ⟨#[]⟩, .int .i64 0] 31))
  have hR := hid_as (room_new w)
  have hTn := hid_as (hT.below hN.out)
  have h5 := hT.five
  have hk' : (k : Int) < 12 := by omega
  have hdk : decide ((12 : Int) ≤ k) = false := decide_eq_false (by omega)
  have kc : ∀ o, (w.alloc o).cell? ⟨0, k * 3 + 1, none⟩ = some (.int .i64 (klo k)) := fun o => by rw [World.cell?_alloc_lt _ _ ⟨0, k * 3 + 1, none⟩ (show 0 < w.heap.size by omega)]; exact (hT.kind k hk).2.1
  have hk1' : ¬ (k : Int) = 1 := by omega
  have e1 : tyR s.data.toList a k = ltR 3 k (num (s.data.toList.drop a)).1 a (num (s.data.toList.drop a)).2 := by unfold tyR; rw [decide_eq_false hk1, hq]; rfl
  rw [e1]
  have P : Hid (∀ W, Calls Tryd.prog 63 #[.string (s.extract a s.size), .string ⟨#[45]⟩] W fun e w' => e = .returned (.tuple #[.string (s.extract a s.size), .bool false]) ∧ w' = W) := fun W => cut_rest s a ⟨#[45]⟩ false hq W
  have hlen : (s.data.toList.drop a).length ≤ 65536 := by have := hL.out; rw [List.length_drop]; omega
  have hrd := num_le (s.data.toList.drop a)
  have D := hid_as (fun W hW => readNumber_t (s.data.toList.drop a) (by omega) W hW)
  rw [← tx_drop] at D
  clear hq e1
  generalize (num (s.data.toList.drop a)).1 = N at *
  generalize (num (s.data.toList.drop a)).2 = Z at *
  have hZ : Z ≤ 65536 := by omega
  have LT : Hid (∀ W, Tabs W → Calls Tryd.prog 65 #[.int .i64 3, .int .i64 k, .int .i64 N, .int .i64 a, .int .i64 Z] W fun e w' => e = .returned (rv (ltR 3 k (N : Int) a Z)) ∧ Below W.heap.size W w') := fun W hW => literal_c 3 k N a Z hk (by omega) (by omega) W hW
  generalize ltR 3 k (N : Int) a Z = r at *
  obtain ⟨⟨ta, tb, tc, td⟩, tz, te⟩ := r
  replace LT : Hid (∀ W, Tabs W → Calls Tryd.prog 65 #[.int .i64 3, .int .i64 k, .int .i64 N, .int .i64 a, .int .i64 Z] W fun e w' => e = .returned (.tuple #[.agg #[.int .i64 (ta : Nat), .int .i64 (tb : Nat), .int .i64 tc, .string (tx td), .int .i64 0], .int .i64 (tz : Nat), .int .i64 (te : Nat)]) ∧ Below W.heap.size W w') := LT
  go_enter Tryd.func45, Tryd.ntmps45
  go_wp2_with (first
    | (go_at_call 63; (with_reducible refine (P.out _).mono ?_); rintro e w' ⟨rfl, hw⟩; subst w')
    | (go_at_call 47; (with_reducible refine (D.out _ hTn.out).mono ?_); rintro e w3 ⟨rfl, b3⟩; have hR3 := hid_as (hR.out.below b3); have hT3 := hid_as (hTn.out.below b3); have hB3 := hid_as (below_and hN.out b3))
    | (go_at_call 65; (with_reducible refine (LT.out _ hT3.out).mono ?_); rintro e w4 ⟨rfl, b4⟩; have hR4 := hid_as (hR3.out.below b4); have hB4 := hid_as (below_and hB3.out b4); clear hR3 hT3 hB3; obtain ⟨r0, r1, r2, r3, r4, rf, rl⟩ := hR4.out))
  exact bodyPost_ret (v := rv ⟨⟨ta, tb, tc, td⟩, tz, te⟩) (by simp [results, Tryd.results45, go_sem, rv, tv, r0, r1, r2, r3, r4]) rfl ⟨rfl, five_set hB4.out (Nat.le_refl _) _ _ _ _ _⟩
theorem readTyped_c (s : ByteArray) (a k : Nat) (ha : a ≤ s.size) (hs : s.size ≤ 65536) (hk : k < 12) (w : World) (hT : Tabs w) : Calls Tryd.prog 45 #[.string s, .int .i64 a, .int .i64 k] w fun e w' => e = .returned (rv (tyR s.data.toList a k)) ∧ Below w.heap.size w w' := by
  by_cases h1 : k = 1
  · cases q0 : hp (s.data.toList.drop a) [84, 82, 85, 69] with
    | true => exact typed_true s a k ha hs hk w hT h1 q0
    | false =>
      cases q1 : hp (s.data.toList.drop a) [70, 65, 76, 83, 69] with
      | true => exact typed_false s a k ha hs hk w hT h1 q0 q1
      | false =>
        cases q : hp (s.data.toList.drop a) [45] with
        | true => exact typed_num_k_true s a k ha hs hk w hT h1 q0 q1 q (by subst h1; decide)
        | false => exact typed_num_k_false s a k ha hs hk w hT h1 q0 q1 q trivial
  · cases q : hp (s.data.toList.drop a) [45] with
    | true =>
      by_cases hlo : klo k < 0
      · exact typed_minus s a k ha hs hk w hT h1 q hlo
      · exact typed_num_n_true s a k ha hs hk w hT h1 q hlo
    | false => exact typed_num_n_false s a k ha hs hk w hT h1 q trivial
end Go.Proofs.YtnponognncdkcaaDoor
