/- The walks: the reference's OpenMbap. -/
import Derived.Test.YtjfaocpbhhpbdaaW5
import Derived.Test.YtjfaocpbhhpbdaaB3
namespace Go.Proofs.Ytjfaocpbhhpbdaa
open Go.RowKit
open Pdu
theorem at_w {W : World} {b off : Nat} {bs : List Nat} (h : Lies W b off (u8s bs)) (hB : Bytes bs) (i n cap : Nat) (ii : Int) (hii : ii = (i : Int)) (hi : i + 1 < bs.length) (hn : n = bs.length) (hm : n ≤ 1000000) :
    Calls Try.prog 18 #[.slice (some ⟨b, off, none⟩) n cap, .int .i64 ii] W fun e w' => e = .returned (.int .u16 (wordAt bs i : Nat)) ∧ ∃ m, w' = W.drewN m := by
  subst hii
  exact at_c b off n cap i _ _ W (by omega) hm (hB.at i) (hB.at (i + 1)) (h.u8 i (by omega)) (h.u8 (i + 1) hi)
set_option maxHeartbeats 1600000 in
theorem ropen_short (ao : Option Addr) (n cap : Nat) (w : World) (h : n < 6) :
    Calls Try.prog 8 #[.slice ao n cap] w fun e w' => e = nought 0 ∧ Below w.heap.size w w' := by
  have d1 : decide ((n : Int) < 6) = true := decide_eq_true (by omega)
  go_enter Try.func8, Try.ntmps8
  go_wp2
  refine bodyPost_ret (v := .tuple #[.agg #[.int .u16 0, .int .u8 0, .slice none 0 0], .int .i64 0, .int .i64 0]) (by simp [results, Try.results8, go_sem]) rfl ⟨rfl, below_new (Below.refl _ w) _⟩
set_option maxHeartbeats 1600000 in
theorem ropen_41 (b off n cap : Nat) (bs : List Nat) (w : World) (h6 : 6 ≤ n) (hm : n ≤ 1000000) (hn : n = bs.length) (hB : Bytes bs) (hc : Lies w b off (u8s bs)) (hp : wordAt bs 2 ≠ 0) :
    Calls Try.prog 8 #[.slice (some ⟨b, off, none⟩) n cap] w fun e w' => e = nought 41 ∧ Below w.heap.size w w' := by
  have d1 : decide ((n : Int) < 6) = false := decide_eq_false (by omega)
  have hk16 : wordAt bs 4 < 65536 := wordAt_lt hB 4
  have d2 : (((wordAt bs 2 : Nat) : Int) == 0) = false := by rw [beq_eq_false_iff_ne]; omega
  have CC := hid_as hc
  have HB := hid_as hB
  have HN := hid_as hn
  clear hc hB hn
  have BX : Hid (Box (w.alloc (.cells #[.int .u16 0, .int .u8 0, .slice none 0 0] 29)) w.heap.size (.int .u16 0) (.int .u8 0) (.slice none 0 0)) := Box.new w _ _ _ _
  have KX : Hid (Below w.heap.size w (w.alloc (.cells #[.int .u16 0, .int .u8 0, .slice none 0 0] 29))) := below_new (Below.refl _ w) _
  have CX : Hid (Lies (w.alloc (.cells #[.int .u16 0, .int .u8 0, .slice none 0 0] 29)) b off (u8s bs)) := CC.out.below KX.out
  have W4 := hid_as (fun (d : Nat) => at_w (CX.out.drewN d) HB.out 4 n cap 4 rfl (by have := HN.out; omega) HN.out hm)
  have W2 := hid_as (fun (d : Nat) => at_w (CX.out.drewN d) HB.out 2 n cap 2 rfl (by have := HN.out; omega) HN.out hm)
  generalize wordAt bs 2 = p at *
  generalize wordAt bs 4 = k at *
  clear hp
  clear CX
  go_enter Try.func8, Try.ntmps8
  go_wp2_with fail
  refine (W4.out 0).mono ?_
  rintro e w1 ⟨rfl, m1, hw⟩
  subst w1
  go_wp2_with fail
  refine (W2.out _).mono ?_
  rintro e w1 ⟨rfl, m2, hw⟩
  subst w1
  go_wp2_with fail
  have e0 := fun (d : Nat) => (set_box (BX.out.drewN d) (.int .u16 0) (.int .u8 0) (.slice none 0 0)).c0
  have e1 := fun (d : Nat) => (set_box (BX.out.drewN d) (.int .u16 0) (.int .u8 0) (.slice none 0 0)).c1
  have e2 := fun (d : Nat) => (set_box (BX.out.drewN d) (.int .u16 0) (.int .u8 0) (.slice none 0 0)).c2
  refine bodyPost_ret (v := .tuple #[.agg #[.int .u16 0, .int .u8 0, .slice none 0 0], .int .i64 0, .int .i64 41]) (by simp [results, Try.results8, go_sem, e0, e1, e2]) rfl ⟨rfl, below_three (below_drewN KX.out _) (Nat.le_refl _) _ _ _⟩
set_option maxHeartbeats 1600000 in
theorem ropen_40a (b off n cap : Nat) (bs : List Nat) (w : World) (h6 : 6 ≤ n) (hm : n ≤ 1000000) (hn : n = bs.length) (hB : Bytes bs) (hc : Lies w b off (u8s bs)) (hp : wordAt bs 2 = 0) (hk : wordAt bs 4 < 2) :
    Calls Try.prog 8 #[.slice (some ⟨b, off, none⟩) n cap] w fun e w' => e = nought 40 ∧ Below w.heap.size w w' := by
  have d1 : decide ((n : Int) < 6) = false := decide_eq_false (by omega)
  have hk16 : wordAt bs 4 < 65536 := wordAt_lt hB 4
  have d2 : (((wordAt bs 2 : Nat) : Int) == 0) = true := by rw [beq_iff_eq]; omega
  have d3 : decide (((wordAt bs 4 : Nat) : Int) < 2) = true := decide_eq_true (by omega)
  have CC := hid_as hc
  have HB := hid_as hB
  have HN := hid_as hn
  clear hc hB hn
  have BX : Hid (Box (w.alloc (.cells #[.int .u16 0, .int .u8 0, .slice none 0 0] 29)) w.heap.size (.int .u16 0) (.int .u8 0) (.slice none 0 0)) := Box.new w _ _ _ _
  have KX : Hid (Below w.heap.size w (w.alloc (.cells #[.int .u16 0, .int .u8 0, .slice none 0 0] 29))) := below_new (Below.refl _ w) _
  have CX : Hid (Lies (w.alloc (.cells #[.int .u16 0, .int .u8 0, .slice none 0 0] 29)) b off (u8s bs)) := CC.out.below KX.out
  have W4 := hid_as (fun (d : Nat) => at_w (CX.out.drewN d) HB.out 4 n cap 4 rfl (by have := HN.out; omega) HN.out hm)
  have W2 := hid_as (fun (d : Nat) => at_w (CX.out.drewN d) HB.out 2 n cap 2 rfl (by have := HN.out; omega) HN.out hm)
  generalize wordAt bs 2 = p at *
  generalize wordAt bs 4 = k at *
  clear hp hk
  clear CX
  go_enter Try.func8, Try.ntmps8
  go_wp2_with fail
  refine (W4.out 0).mono ?_
  rintro e w1 ⟨rfl, m1, hw⟩
  subst w1
  go_wp2_with fail
  refine (W2.out _).mono ?_
  rintro e w1 ⟨rfl, m2, hw⟩
  subst w1
  go_wp2_with fail
  have e0 := fun (d : Nat) => (set_box (BX.out.drewN d) (.int .u16 0) (.int .u8 0) (.slice none 0 0)).c0
  have e1 := fun (d : Nat) => (set_box (BX.out.drewN d) (.int .u16 0) (.int .u8 0) (.slice none 0 0)).c1
  have e2 := fun (d : Nat) => (set_box (BX.out.drewN d) (.int .u16 0) (.int .u8 0) (.slice none 0 0)).c2
  refine bodyPost_ret (v := .tuple #[.agg #[.int .u16 0, .int .u8 0, .slice none 0 0], .int .i64 0, .int .i64 40]) (by simp [results, Try.results8, go_sem, e0, e1, e2]) rfl ⟨rfl, below_three (below_drewN KX.out _) (Nat.le_refl _) _ _ _⟩
set_option maxHeartbeats 1600000 in
theorem ropen_40b (b off n cap : Nat) (bs : List Nat) (w : World) (h6 : 6 ≤ n) (hm : n ≤ 1000000) (hn : n = bs.length) (hB : Bytes bs) (hc : Lies w b off (u8s bs)) (hp : wordAt bs 2 = 0) (hk : 254 < wordAt bs 4) :
    Calls Try.prog 8 #[.slice (some ⟨b, off, none⟩) n cap] w fun e w' => e = nought 40 ∧ Below w.heap.size w w' := by
  have d1 : decide ((n : Int) < 6) = false := decide_eq_false (by omega)
  have hk16 : wordAt bs 4 < 65536 := wordAt_lt hB 4
  have d2 : (((wordAt bs 2 : Nat) : Int) == 0) = true := by rw [beq_iff_eq]; omega
  have d3 : decide (((wordAt bs 4 : Nat) : Int) < 2) = false := decide_eq_false (by omega)
  have d4 : decide ((254 : Int) < ((wordAt bs 4 : Nat) : Int)) = true := decide_eq_true (by omega)
  have CC := hid_as hc
  have HB := hid_as hB
  have HN := hid_as hn
  clear hc hB hn
  have BX : Hid (Box (w.alloc (.cells #[.int .u16 0, .int .u8 0, .slice none 0 0] 29)) w.heap.size (.int .u16 0) (.int .u8 0) (.slice none 0 0)) := Box.new w _ _ _ _
  have KX : Hid (Below w.heap.size w (w.alloc (.cells #[.int .u16 0, .int .u8 0, .slice none 0 0] 29))) := below_new (Below.refl _ w) _
  have CX : Hid (Lies (w.alloc (.cells #[.int .u16 0, .int .u8 0, .slice none 0 0] 29)) b off (u8s bs)) := CC.out.below KX.out
  have W4 := hid_as (fun (d : Nat) => at_w (CX.out.drewN d) HB.out 4 n cap 4 rfl (by have := HN.out; omega) HN.out hm)
  have W2 := hid_as (fun (d : Nat) => at_w (CX.out.drewN d) HB.out 2 n cap 2 rfl (by have := HN.out; omega) HN.out hm)
  generalize wordAt bs 2 = p at *
  generalize wordAt bs 4 = k at *
  clear hp hk
  clear CX
  go_enter Try.func8, Try.ntmps8
  go_wp2_with fail
  refine (W4.out 0).mono ?_
  rintro e w1 ⟨rfl, m1, hw⟩
  subst w1
  go_wp2_with fail
  refine (W2.out _).mono ?_
  rintro e w1 ⟨rfl, m2, hw⟩
  subst w1
  go_wp2_with fail
  have e0 := fun (d : Nat) => (set_box (BX.out.drewN d) (.int .u16 0) (.int .u8 0) (.slice none 0 0)).c0
  have e1 := fun (d : Nat) => (set_box (BX.out.drewN d) (.int .u16 0) (.int .u8 0) (.slice none 0 0)).c1
  have e2 := fun (d : Nat) => (set_box (BX.out.drewN d) (.int .u16 0) (.int .u8 0) (.slice none 0 0)).c2
  refine bodyPost_ret (v := .tuple #[.agg #[.int .u16 0, .int .u8 0, .slice none 0 0], .int .i64 0, .int .i64 40]) (by simp [results, Try.results8, go_sem, e0, e1, e2]) rfl ⟨rfl, below_three (below_drewN KX.out _) (Nat.le_refl _) _ _ _⟩
set_option maxHeartbeats 1600000 in
theorem ropen_wait (b off n cap en : Nat) (bs : List Nat) (w : World) (h6 : 6 ≤ n) (hm : n ≤ 1000000) (hn : n = bs.length) (hB : Bytes bs) (hc : Lies w b off (u8s bs)) (hp : wordAt bs 2 = 0) (hk : 2 ≤ wordAt bs 4 ∧ wordAt bs 4 ≤ 254) (hen : 6 + ((wordAt bs 4 : Nat) : Int) = (en : Int)) (hl : n < en) :
    Calls Try.prog 8 #[.slice (some ⟨b, off, none⟩) n cap] w fun e w' => e = nought 0 ∧ Below w.heap.size w w' := by
  have d1 : decide ((n : Int) < 6) = false := decide_eq_false (by omega)
  have hk16 : wordAt bs 4 < 65536 := wordAt_lt hB 4
  have d2 : (((wordAt bs 2 : Nat) : Int) == 0) = true := by rw [beq_iff_eq]; omega
  have d3 : decide (((wordAt bs 4 : Nat) : Int) < 2) = false := decide_eq_false (by omega)
  have d4 : decide ((254 : Int) < ((wordAt bs 4 : Nat) : Int)) = false := decide_eq_false (by omega)
  have d5 : decide ((n : Int) < (en : Int)) = true := decide_eq_true (by omega)
  have CC := hid_as hc
  have HB := hid_as hB
  have HN := hid_as hn
  clear hc hB hn
  have BX : Hid (Box (w.alloc (.cells #[.int .u16 0, .int .u8 0, .slice none 0 0] 29)) w.heap.size (.int .u16 0) (.int .u8 0) (.slice none 0 0)) := Box.new w _ _ _ _
  have KX : Hid (Below w.heap.size w (w.alloc (.cells #[.int .u16 0, .int .u8 0, .slice none 0 0] 29))) := below_new (Below.refl _ w) _
  have CX : Hid (Lies (w.alloc (.cells #[.int .u16 0, .int .u8 0, .slice none 0 0] 29)) b off (u8s bs)) := CC.out.below KX.out
  have W4 := hid_as (fun (d : Nat) => at_w (CX.out.drewN d) HB.out 4 n cap 4 rfl (by have := HN.out; omega) HN.out hm)
  have W2 := hid_as (fun (d : Nat) => at_w (CX.out.drewN d) HB.out 2 n cap 2 rfl (by have := HN.out; omega) HN.out hm)
  generalize wordAt bs 2 = p at *
  generalize wordAt bs 4 = k at *
  clear hp
  clear CX
  go_enter Try.func8, Try.ntmps8
  go_wp2_with fail
  refine (W4.out 0).mono ?_
  rintro e w1 ⟨rfl, m1, hw⟩
  subst w1
  go_wp2_with fail
  refine (W2.out _).mono ?_
  rintro e w1 ⟨rfl, m2, hw⟩
  subst w1
  go_wp2_with fail
  have e0 := fun (d : Nat) => (set_box (BX.out.drewN d) (.int .u16 0) (.int .u8 0) (.slice none 0 0)).c0
  have e1 := fun (d : Nat) => (set_box (BX.out.drewN d) (.int .u16 0) (.int .u8 0) (.slice none 0 0)).c1
  have e2 := fun (d : Nat) => (set_box (BX.out.drewN d) (.int .u16 0) (.int .u8 0) (.slice none 0 0)).c2
  refine bodyPost_ret (v := .tuple #[.agg #[.int .u16 0, .int .u8 0, .slice none 0 0], .int .i64 0, .int .i64 0]) (by simp [results, Try.results8, go_sem, e0, e1, e2]) rfl ⟨rfl, below_three (below_drewN KX.out _) (Nat.le_refl _) _ _ _⟩
end Go.Proofs.Ytjfaocpbhhpbdaa
