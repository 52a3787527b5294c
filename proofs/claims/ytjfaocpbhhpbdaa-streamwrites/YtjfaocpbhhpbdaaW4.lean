/- The walks: Open. -/
import Derived.Test.YtjfaocpbhhpbdaaW1
namespace Go.Proofs.Ytjfaocpbhhpbdaa
open Go.RowKit
open Pdu
theorem set_same {Y : World} {g i : Nat} {z y : Value} (h : Y.cell? ⟨g, i, none⟩ = some z) : (Y.setCell ⟨g, i, none⟩ y).cell? ⟨g, i, none⟩ = some y := World.cell?_setCell_same _ _ _ h
theorem set_else {Y : World} {g i j : Nat} {z y : Value} (h : Y.cell? ⟨g, i, none⟩ = some z) (hij : i ≠ j) : (Y.setCell ⟨g, j, none⟩ y).cell? ⟨g, i, none⟩ = some z := by
  rw [World.cell?_setCell_other _ _ _ _ (fun e => hij (congrArg Addr.off e).symm)]
  exact h
theorem set_box {Y : World} {g : Nat} {z0 z1 z2 : Value} (h : Box Y g z0 z1 z2) (y0 y1 y2 : Value) : Box (((Y.setCell ⟨g, 0, none⟩ y0).setCell ⟨g, 1, none⟩ y1).setCell ⟨g, 2, none⟩ y2) g y0 y1 y2 := by
  obtain ⟨h0, h1, h2⟩ := h
  exact ⟨set_else (set_else (set_same h0) (by decide)) (by decide), set_else (set_same (set_else h1 (by decide))) (by decide), set_same (set_else (set_else h2 (by decide)) (by decide))⟩
theorem below_three {w Y : World} {g : Nat} (h : Below w.heap.size w Y) (hg : w.heap.size ≤ g) (y0 y1 y2 : Value) : Below w.heap.size w (((Y.setCell ⟨g, 0, none⟩ y0).setCell ⟨g, 1, none⟩ y1).setCell ⟨g, 2, none⟩ y2) :=
  Below.setCell (Below.setCell (Below.setCell h hg _) hg _) hg _
/-- Zeros, and an error. -/
def nought (E : Nat) : Ending := .returned (.tuple #[.agg #[.int .u16 0, .int .u8 0, .slice none 0 0], .int .i64 0, .int .i64 E])
set_option maxHeartbeats 1600000 in
theorem open_short (ao : Option Addr) (n cap : Nat) (w : World) (h : n < 6) :
    Calls Try.prog 20 #[.slice ao n cap] w fun e w' => e = nought 0 ∧ Below w.heap.size w w' := by
  have d1 : decide ((n : Int) < 6) = true := decide_eq_true (by omega)
  go_enter Try.func20, Try.ntmps20
  go_wp2
  refine bodyPost_ret (v := .tuple #[.agg #[.int .u16 0, .int .u8 0, .slice none 0 0], .int .i64 0, .int .i64 0]) (by simp [results, Try.results20, go_sem]) rfl ⟨rfl, below_new (Below.refl _ w) _⟩
theorem Lies.drewN {w : World} {b off : Nat} {vs : List Value} (h : Lies w b off vs) (d : Nat) : Lies (w.drewN d) b off vs := h
theorem below_drewN {B : Nat} {w u : World} (h : Below B w u) (d : Nat) : Below B w (u.drewN d) := ⟨h.os, h.tape, h.output, h.size, h.block⟩
theorem word_at {W : World} {b off i : Nat} {bs : List Nat} (h : Lies W b off (u8s bs)) (hB : Bytes bs) (hi : i + 1 < bs.length) (n cap : Nat) (hn : 2 ≤ n) :
    Calls Try.prog 24 #[.slice (some ⟨b, off + i, none⟩) n cap] W fun e w' => e = .returned (.int .u16 (wordAt bs i : Nat)) ∧ ∃ m, w' = W.drewN m :=
  word_c b (off + i) n cap _ _ W hn (hB.at i) (hB.at (i + 1)) (h.u8 i (by omega)) (by have := h.u8 (i + 1) hi; rw [← Nat.add_assoc] at this; exact this)
set_option maxHeartbeats 1600000 in
theorem open_41 (b off n cap : Nat) (bs : List Nat) (w : World) (h6 : 6 ≤ n) (hcap : n ≤ cap) (hm : n ≤ 1000000) (hn : n = bs.length) (hB : Bytes bs) (hc : Lies w b off (u8s bs)) (hp : wordAt bs 2 ≠ 0) :
    Calls Try.prog 20 #[.slice (some ⟨b, off, none⟩) n cap] w fun e w' => e = nought 41 ∧ Below w.heap.size w w' := by
  have d1 : decide ((n : Int) < 6) = false := decide_eq_false (by omega)
  have d2 : (((wordAt bs 2 : Nat) : Int) == 0) = false := by rw [beq_eq_false_iff_ne]; omega
  have CC := hid_as hc
  have HB := hid_as hB
  have HN := hid_as hn
  clear hc hB hn hp
  have BX : Hid (Box (w.alloc (.cells #[.int .u16 0, .int .u8 0, .slice none 0 0] 29)) w.heap.size (.int .u16 0) (.int .u8 0) (.slice none 0 0)) := Box.new w _ _ _ _
  have KX : Hid (Below w.heap.size w (w.alloc (.cells #[.int .u16 0, .int .u8 0, .slice none 0 0] 29))) := below_new (Below.refl _ w) _
  have CX : Hid (Lies (w.alloc (.cells #[.int .u16 0, .int .u8 0, .slice none 0 0] 29)) b off (u8s bs)) := CC.out.below KX.out
  have W2 := hid_as (fun (d : Nat) => word_at (i := 2) (CX.out.drewN d) HB.out (by have := HN.out; omega) (n - 2) (cap - 2) (by omega))
  generalize wordAt bs 2 = p at d2 W2
  clear CX
  go_enter Try.func20, Try.ntmps20
  go_wp2_with fail
  refine (W2.out 0).mono ?_
  rintro e w1 ⟨rfl, m1, hw⟩
  subst w1
  go_wp2_with fail
  have e0 := fun (d : Nat) => (set_box (BX.out.drewN d) (.int .u16 0) (.int .u8 0) (.slice none 0 0)).c0
  have e1 := fun (d : Nat) => (set_box (BX.out.drewN d) (.int .u16 0) (.int .u8 0) (.slice none 0 0)).c1
  have e2 := fun (d : Nat) => (set_box (BX.out.drewN d) (.int .u16 0) (.int .u8 0) (.slice none 0 0)).c2
  refine bodyPost_ret (v := .tuple #[.agg #[.int .u16 0, .int .u8 0, .slice none 0 0], .int .i64 0, .int .i64 41]) (by simp [results, Try.results20, go_sem, e0, e1, e2]) rfl ⟨rfl, below_three (below_drewN KX.out _) (Nat.le_refl _) _ _ _⟩
set_option maxHeartbeats 1600000 in
theorem open_40 (b off n cap : Nat) (bs : List Nat) (w : World) (h6 : 6 ≤ n) (hcap : n ≤ cap) (hm : n ≤ 1000000) (hn : n = bs.length) (hB : Bytes bs) (hc : Lies w b off (u8s bs)) (hp : wordAt bs 2 = 0) (hk : ¬ (2 ≤ wordAt bs 4 ∧ wordAt bs 4 ≤ 254)) :
    Calls Try.prog 20 #[.slice (some ⟨b, off, none⟩) n cap] w fun e w' => e = nought 40 ∧ Below w.heap.size w w' := by
  have d1 : decide ((n : Int) < 6) = false := decide_eq_false (by omega)
  have d2 : (((wordAt bs 2 : Nat) : Int) == 0) = true := by rw [beq_iff_eq]; omega
  have hk16 : wordAt bs 4 < 65536 := wordAt_lt hB 4
  have F := hid_as (fun (W : World) => fits_f (wordAt bs 4) W hk)
  have CC := hid_as hc
  have HB := hid_as hB
  have HN := hid_as hn
  clear hc hB hn hp hk
  have BX : Hid (Box (w.alloc (.cells #[.int .u16 0, .int .u8 0, .slice none 0 0] 29)) w.heap.size (.int .u16 0) (.int .u8 0) (.slice none 0 0)) := Box.new w _ _ _ _
  have KX : Hid (Below w.heap.size w (w.alloc (.cells #[.int .u16 0, .int .u8 0, .slice none 0 0] 29))) := below_new (Below.refl _ w) _
  have CX : Hid (Lies (w.alloc (.cells #[.int .u16 0, .int .u8 0, .slice none 0 0] 29)) b off (u8s bs)) := CC.out.below KX.out
  have W2 := hid_as (fun (d : Nat) => word_at (i := 2) (CX.out.drewN d) HB.out (by have := HN.out; omega) (n - 2) (cap - 2) (by omega))
  have W4 := hid_as (fun (d : Nat) => word_at (i := 4) (CX.out.drewN d) HB.out (by have := HN.out; omega) (n - 4) (cap - 4) (by omega))
  generalize wordAt bs 2 = p at d2 W2
  generalize wordAt bs 4 = k at hk16 W4 F
  clear CX
  go_enter Try.func20, Try.ntmps20
  go_wp2_with fail
  refine (W2.out 0).mono ?_
  rintro e w1 ⟨rfl, m1, hw⟩
  subst w1
  go_wp2_with fail
  refine (W4.out _).mono ?_
  rintro e w1 ⟨rfl, m2, hw⟩
  subst w1
  go_wp2_with fail
  refine (F.out _).mono ?_
  rintro e w1 ⟨rfl, hw⟩
  subst w1
  go_wp2_with fail
  have e0 := fun (d : Nat) => (set_box (BX.out.drewN d) (.int .u16 0) (.int .u8 0) (.slice none 0 0)).c0
  have e1 := fun (d : Nat) => (set_box (BX.out.drewN d) (.int .u16 0) (.int .u8 0) (.slice none 0 0)).c1
  have e2 := fun (d : Nat) => (set_box (BX.out.drewN d) (.int .u16 0) (.int .u8 0) (.slice none 0 0)).c2
  refine bodyPost_ret (v := .tuple #[.agg #[.int .u16 0, .int .u8 0, .slice none 0 0], .int .i64 0, .int .i64 40]) (by simp [results, Try.results20, go_sem, e0, e1, e2]) rfl ⟨rfl, below_three (below_drewN KX.out _) (Nat.le_refl _) _ _ _⟩
set_option maxHeartbeats 1600000 in
theorem open_wait (b off n cap en : Nat) (bs : List Nat) (w : World) (h6 : 6 ≤ n) (hcap : n ≤ cap) (hm : n ≤ 1000000) (hn : n = bs.length) (hB : Bytes bs) (hc : Lies w b off (u8s bs)) (hp : wordAt bs 2 = 0) (hk : 2 ≤ wordAt bs 4 ∧ wordAt bs 4 ≤ 254) (hen : 6 + ((wordAt bs 4 : Nat) : Int) = (en : Int)) (hl : n < en) :
    Calls Try.prog 20 #[.slice (some ⟨b, off, none⟩) n cap] w fun e w' => e = nought 0 ∧ Below w.heap.size w w' := by
  have d1 : decide ((n : Int) < 6) = false := decide_eq_false (by omega)
  have d2 : (((wordAt bs 2 : Nat) : Int) == 0) = true := by rw [beq_iff_eq]; omega
  have d3 : decide ((n : Int) < (en : Int)) = true := decide_eq_true (by omega)
  have hk16 : wordAt bs 4 < 65536 := wordAt_lt hB 4
  have F := hid_as (fun (W : World) => fits_t (wordAt bs 4) W hk)
  have CC := hid_as hc
  have HB := hid_as hB
  have HN := hid_as hn
  clear hc hB hn hp
  have BX : Hid (Box (w.alloc (.cells #[.int .u16 0, .int .u8 0, .slice none 0 0] 29)) w.heap.size (.int .u16 0) (.int .u8 0) (.slice none 0 0)) := Box.new w _ _ _ _
  have KX : Hid (Below w.heap.size w (w.alloc (.cells #[.int .u16 0, .int .u8 0, .slice none 0 0] 29))) := below_new (Below.refl _ w) _
  have CX : Hid (Lies (w.alloc (.cells #[.int .u16 0, .int .u8 0, .slice none 0 0] 29)) b off (u8s bs)) := CC.out.below KX.out
  have W2 := hid_as (fun (d : Nat) => word_at (i := 2) (CX.out.drewN d) HB.out (by have := HN.out; omega) (n - 2) (cap - 2) (by omega))
  have W4 := hid_as (fun (d : Nat) => word_at (i := 4) (CX.out.drewN d) HB.out (by have := HN.out; omega) (n - 4) (cap - 4) (by omega))
  generalize wordAt bs 2 = p at d2 W2
  generalize wordAt bs 4 = k at hk16 W4 F hen hk
  clear CX
  go_enter Try.func20, Try.ntmps20
  go_wp2_with fail
  refine (W2.out 0).mono ?_
  rintro e w1 ⟨rfl, m1, hw⟩
  subst w1
  go_wp2_with fail
  refine (W4.out _).mono ?_
  rintro e w1 ⟨rfl, m2, hw⟩
  subst w1
  go_wp2_with fail
  refine (F.out _).mono ?_
  rintro e w1 ⟨rfl, hw⟩
  subst w1
  go_wp2_with fail
  have e0 := fun (d : Nat) => (set_box (BX.out.drewN d) (.int .u16 0) (.int .u8 0) (.slice none 0 0)).c0
  have e1 := fun (d : Nat) => (set_box (BX.out.drewN d) (.int .u16 0) (.int .u8 0) (.slice none 0 0)).c1
  have e2 := fun (d : Nat) => (set_box (BX.out.drewN d) (.int .u16 0) (.int .u8 0) (.slice none 0 0)).c2
  refine bodyPost_ret (v := .tuple #[.agg #[.int .u16 0, .int .u8 0, .slice none 0 0], .int .i64 0, .int .i64 0]) (by simp [results, Try.results20, go_sem, e0, e1, e2]) rfl ⟨rfl, below_three (below_drewN KX.out _) (Nat.le_refl _) _ _ _⟩
end Go.Proofs.Ytjfaocpbhhpbdaa
