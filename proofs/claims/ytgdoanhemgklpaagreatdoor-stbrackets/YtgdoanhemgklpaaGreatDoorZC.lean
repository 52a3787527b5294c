/- print: operators (stage 13). -/
import Derived.Test.YtgdoanhemgklpaaGreatDoorZB
namespace Go.Proofs.YtgdoanhemgklpaaGreatDoor
open Go.RowKit
open Adr Lx Sx
set_option maxHeartbeats 4000000 in
set_option maxRecDepth 100000 in
theorem part_c {w : World} {x g j cn cap : Nat} {o k n : Int} {nm fl : ByteArray} {p : Int} {o1 k1 n1 : Int} {nm1 fl1 : ByteArray} {lp1 : Option Addr} {ln1 lc1 : Nat} {p1 : Int} {b : List UInt8} (hx : Bk w x #[.int .i64 o, .int .i64 k, .int .i64 n, .string nm, .string fl, .slice (some ⟨g, 0, none⟩) cn cap, .int .i64 p]) (hj : j < cn) (hr : RowE w g j o1 k1 n1 nm1 fl1 (.slice lp1 ln1 lc1) p1) (C : Hid (∀ W, Below w.heap.size w W → Calls Tryz.prog 9 #[.agg #[.int .i64 o1, .int .i64 k1, .int .i64 n1, .string nm1, .string fl1, .slice lp1 ln1 lc1, .int .i64 p1]] W fun e w' => e = .returned (.string (tx b)) ∧ Below W.heap.size W w')) (hb : b.length ≤ 200000) :
    Calls Tryz.prog 19 #[.int .i64 j, .pointer (some ⟨x, 0, none⟩)] w fun e w' => e = .returned (.string (tx ([40] ++ b ++ [41]))) ∧ Below w.heap.size w w' := by
  have hs : (tx b).size ≤ 200000 := by rw [tx_size]; exact hb
  have T := hid_as (tx3 [40] b [41])
  have hj' : (j : Int) < cn := by omega
  obtain ⟨c0, c1, c2, c3, c4, c5, c6⟩ := bk7 hx
  obtain ⟨a0, a1, a2, a3, a4, a5, a6⟩ := hr
  generalize tx b = X at *
  go_enter Tryz.func19, Tryz.ntmps19
  go_wp2_with (go_at_call 9; (with_reducible refine (C.out _ (Below.refl _ _)).mono ?_); rintro e w1 ⟨rfl, k1⟩)
  go_ret
  exact ⟨ret_strs T.out, k1⟩
set_option maxHeartbeats 4000000 in
set_option maxRecDepth 100000 in
theorem print_neg (w : World) (g cap cn : Nat) (p : Int) (o1 k1 n1 : Int) (nm1 fl1 : ByteArray) (lp1 : Option Addr) (ln1 lc1 : Nat) (p1 : Int) (b : List UInt8) (hn : 0 < cn) (hg : g < w.heap.size) (hr : RowE w g 0 o1 k1 n1 nm1 fl1 (.slice lp1 ln1 lc1) p1) (C : Hid (∀ W, Below w.heap.size w W → Calls Tryz.prog 9 #[.agg #[.int .i64 o1, .int .i64 k1, .int .i64 n1, .string nm1, .string fl1, .slice lp1 ln1 lc1, .int .i64 p1]] W fun e w' => e = .returned (.string (tx b)) ∧ Below W.heap.size W w')) (hb : b.length ≤ 200000) : Calls Tryz.prog 9 #[.agg #[.int .i64 3, .int .i64 0, .int .i64 0, .string ⟨#[]⟩, .string ⟨#[]⟩, .slice (some ⟨g, 0, none⟩) cn cap, .int .i64 p]] w fun e w' => e = .returned (.string (tx ([45, 32] ++ ([40] ++ b ++ [41])))) ∧ Below w.heap.size w w' := by
  have A : Hid (Calls Tryz.prog 19 #[.int .i64 0, .pointer (some ⟨w.heap.size, 0, none⟩)] (w.alloc (.cells #[.int .i64 3, .int .i64 0, .int .i64 0, .string ⟨#[]⟩, .string ⟨#[]⟩, .slice (some ⟨g, 0, none⟩) cn cap, .int .i64 p] 25)) fun e w' => e = .returned (.string (tx ([40] ++ b ++ [41]))) ∧ Below (w.alloc (.cells #[.int .i64 3, .int .i64 0, .int .i64 0, .string ⟨#[]⟩, .string ⟨#[]⟩, .slice (some ⟨g, 0, none⟩) cn cap, .int .i64 p] 25)).heap.size (w.alloc (.cells #[.int .i64 3, .int .i64 0, .int .i64 0, .string ⟨#[]⟩, .string ⟨#[]⟩, .slice (some ⟨g, 0, none⟩) cn cap, .int .i64 p] 25)) w') := hid_as (part_c (j := 0) (Bk.fresh w #[.int .i64 3, .int .i64 0, .int .i64 0, .string ⟨#[]⟩, .string ⟨#[]⟩, .slice (some ⟨g, 0, none⟩) cn cap, .int .i64 p] 25) hn (hr.below hg (below_new1 _ _)) (hid_as fun W hW => C.out W (below_and (below_new1 _ _) hW)) hb)
  have hs : (tx ([40] ++ b ++ [41])).size ≤ 200002 := by rw [tx_size]; simp; omega
  have T := hid_as (tx_app [45, 32] ([40] ++ b ++ [41]))
  generalize tx ([40] ++ b ++ [41]) = X at *
  go_enter Tryz.func9, Tryz.ntmps9
  go_wp2_with (go_at_call 19; (with_reducible refine A.out.mono ?_); rintro e w1 ⟨rfl, k1⟩)
  go_ret
  exact ⟨ret_strs T.out, below_and (below_new1 _ _) k1⟩
set_option maxHeartbeats 4000000 in
set_option maxRecDepth 100000 in
theorem print_not (w : World) (g cap cn : Nat) (p : Int) (o1 k1 n1 : Int) (nm1 fl1 : ByteArray) (lp1 : Option Addr) (ln1 lc1 : Nat) (p1 : Int) (b : List UInt8) (hn : 0 < cn) (hg : g < w.heap.size) (hr : RowE w g 0 o1 k1 n1 nm1 fl1 (.slice lp1 ln1 lc1) p1) (C : Hid (∀ W, Below w.heap.size w W → Calls Tryz.prog 9 #[.agg #[.int .i64 o1, .int .i64 k1, .int .i64 n1, .string nm1, .string fl1, .slice lp1 ln1 lc1, .int .i64 p1]] W fun e w' => e = .returned (.string (tx b)) ∧ Below W.heap.size W w')) (hb : b.length ≤ 200000) : Calls Tryz.prog 9 #[.agg #[.int .i64 4, .int .i64 0, .int .i64 0, .string ⟨#[]⟩, .string ⟨#[]⟩, .slice (some ⟨g, 0, none⟩) cn cap, .int .i64 p]] w fun e w' => e = .returned (.string (tx ([78, 79, 84, 32] ++ ([40] ++ b ++ [41])))) ∧ Below w.heap.size w w' := by
  have A : Hid (Calls Tryz.prog 19 #[.int .i64 0, .pointer (some ⟨w.heap.size, 0, none⟩)] (w.alloc (.cells #[.int .i64 4, .int .i64 0, .int .i64 0, .string ⟨#[]⟩, .string ⟨#[]⟩, .slice (some ⟨g, 0, none⟩) cn cap, .int .i64 p] 25)) fun e w' => e = .returned (.string (tx ([40] ++ b ++ [41]))) ∧ Below (w.alloc (.cells #[.int .i64 4, .int .i64 0, .int .i64 0, .string ⟨#[]⟩, .string ⟨#[]⟩, .slice (some ⟨g, 0, none⟩) cn cap, .int .i64 p] 25)).heap.size (w.alloc (.cells #[.int .i64 4, .int .i64 0, .int .i64 0, .string ⟨#[]⟩, .string ⟨#[]⟩, .slice (some ⟨g, 0, none⟩) cn cap, .int .i64 p] 25)) w') := hid_as (part_c (j := 0) (Bk.fresh w #[.int .i64 4, .int .i64 0, .int .i64 0, .string ⟨#[]⟩, .string ⟨#[]⟩, .slice (some ⟨g, 0, none⟩) cn cap, .int .i64 p] 25) hn (hr.below hg (below_new1 _ _)) (hid_as fun W hW => C.out W (below_and (below_new1 _ _) hW)) hb)
  have hs : (tx ([40] ++ b ++ [41])).size ≤ 200002 := by rw [tx_size]; simp; omega
  have T := hid_as (tx_app [78, 79, 84, 32] ([40] ++ b ++ [41]))
  generalize tx ([40] ++ b ++ [41]) = X at *
  go_enter Tryz.func9, Tryz.ntmps9
  go_wp2_with (go_at_call 19; (with_reducible refine A.out.mono ?_); rintro e w1 ⟨rfl, k1⟩)
  go_ret
  exact ⟨ret_strs T.out, below_and (below_new1 _ _) k1⟩
set_option maxHeartbeats 4000000 in
set_option maxRecDepth 100000 in
theorem print_bin (w : World) (q g cap cn : Nat) (p : Int) (o1 k1 n1 : Int) (nm1 fl1 : ByteArray) (lp1 : Option Addr) (ln1 lc1 : Nat) (p1 : Int) (o2 k2 n2 : Int) (nm2 fl2 : ByteArray) (lp2 : Option Addr) (ln2 lc2 : Nat) (p2 : Int) (b c : List UInt8) (hq : q ≤ 13) (hn : 1 < cn) (hg : g < w.heap.size) (hr : RowE w g 0 o1 k1 n1 nm1 fl1 (.slice lp1 ln1 lc1) p1) (hr2 : RowE w g 1 o2 k2 n2 nm2 fl2 (.slice lp2 ln2 lc2) p2) (C : Hid (∀ W, Below w.heap.size w W → Calls Tryz.prog 9 #[.agg #[.int .i64 o1, .int .i64 k1, .int .i64 n1, .string nm1, .string fl1, .slice lp1 ln1 lc1, .int .i64 p1]] W fun e w' => e = .returned (.string (tx b)) ∧ Below W.heap.size W w')) (C2 : Hid (∀ W, Below w.heap.size w W → Calls Tryz.prog 9 #[.agg #[.int .i64 o2, .int .i64 k2, .int .i64 n2, .string nm2, .string fl2, .slice lp2 ln2 lc2, .int .i64 p2]] W fun e w' => e = .returned (.string (tx c)) ∧ Below W.heap.size W w')) (hb : b.length ≤ 200000) (hc : c.length ≤ 200000) :
    Calls Tryz.prog 9 #[.agg #[.int .i64 ((q : Int) + 5), .int .i64 0, .int .i64 0, .string ⟨#[]⟩, .string ⟨#[]⟩, .slice (some ⟨g, 0, none⟩) cn cap, .int .i64 p]] w fun e w' => e = .returned (.string (tx ([40] ++ b ++ [41] ++ [32] ++ opw (q + 5) ++ [32] ++ ([40] ++ c ++ [41])))) ∧ Below w.heap.size w w' := by
  have W1 := hid_as (below_and (below_new1 w (.cells #[.int .i64 ((q : Int) + 5), .int .i64 0, .int .i64 0, .string ⟨#[]⟩, .string ⟨#[]⟩, .slice (some ⟨g, 0, none⟩) cn cap, .int .i64 p] 25)) (below_new1 (w.alloc (.cells #[.int .i64 ((q : Int) + 5), .int .i64 0, .int .i64 0, .string ⟨#[]⟩, .string ⟨#[]⟩, .slice (some ⟨g, 0, none⟩) cn cap, .int .i64 p] 25)) (.cells #[.string ⟨#[42]⟩, .string ⟨#[47]⟩, .string ⟨#[77, 79, 68]⟩, .string ⟨#[43]⟩, .string ⟨#[45]⟩, .string ⟨#[60]⟩, .string ⟨#[62]⟩, .string ⟨#[60, 61]⟩, .string ⟨#[62, 61]⟩, .string ⟨#[61]⟩, .string ⟨#[60, 62]⟩, .string ⟨#[65, 78, 68]⟩, .string ⟨#[88, 79, 82]⟩, .string ⟨#[79, 82]⟩] 9)))
  have B1 := hid_as ((Bk.fresh w #[.int .i64 ((q : Int) + 5), .int .i64 0, .int .i64 0, .string ⟨#[]⟩, .string ⟨#[]⟩, .slice (some ⟨g, 0, none⟩) cn cap, .int .i64 p] 25).alloc (.cells #[.string ⟨#[42]⟩, .string ⟨#[47]⟩, .string ⟨#[77, 79, 68]⟩, .string ⟨#[43]⟩, .string ⟨#[45]⟩, .string ⟨#[60]⟩, .string ⟨#[62]⟩, .string ⟨#[60, 61]⟩, .string ⟨#[62, 61]⟩, .string ⟨#[61]⟩, .string ⟨#[60, 62]⟩, .string ⟨#[65, 78, 68]⟩, .string ⟨#[88, 79, 82]⟩, .string ⟨#[79, 82]⟩] 9))
  have A : Hid (∀ W, Below w.heap.size w W → Bk W w.heap.size #[.int .i64 ((q : Int) + 5), .int .i64 0, .int .i64 0, .string ⟨#[]⟩, .string ⟨#[]⟩, .slice (some ⟨g, 0, none⟩) cn cap, .int .i64 p] → Calls Tryz.prog 19 #[.int .i64 0, .pointer (some ⟨w.heap.size, 0, none⟩)] W fun e w' => e = .returned (.string (tx ([40] ++ b ++ [41]))) ∧ Below W.heap.size W w') := fun W hW hB => part_c (j := 0) hB (by omega) (hr.below hg hW) (hid_as fun V hV => C.out V (below_and hW hV)) hb
  have A2 : Hid (∀ W, Below w.heap.size w W → Bk W w.heap.size #[.int .i64 ((q : Int) + 5), .int .i64 0, .int .i64 0, .string ⟨#[]⟩, .string ⟨#[]⟩, .slice (some ⟨g, 0, none⟩) cn cap, .int .i64 p] → Calls Tryz.prog 19 #[.int .i64 1, .pointer (some ⟨w.heap.size, 0, none⟩)] W fun e w' => e = .returned (.string (tx ([40] ++ c ++ [41]))) ∧ Below W.heap.size W w') := fun W hW hB => part_c (j := 1) hB (by omega) (hr2.below hg hW) (hid_as fun V hV => C2.out V (below_and hW hV)) hc
  have hs : (tx ([40] ++ b ++ [41])).size ≤ 200002 := by rw [tx_size]; simp; omega
  have ht : (tx ([40] ++ c ++ [41])).size ≤ 200002 := by rw [tx_size]; simp; omega
  have ho : (tx (opw (q + 5))).size ≤ 3 := by rw [tx_size]; exact opw_len _
  have q1 : ¬ (q : Int) + 5 = 1 := by omega
  have q2 : ¬ (q : Int) + 5 = 2 := by omega
  have q3 : ¬ (q : Int) + 5 = 3 := by omega
  have q4 : ¬ (q : Int) + 5 = 4 := by omega
  have q5 : ¬ (q : Int) + 5 = 19 := by omega
  have q6 : (q : Int) < 14 := by omega
  have hcl : ((w.alloc (.cells #[.int .i64 ((q : Int) + 5), .int .i64 0, .int .i64 0, .string ⟨#[]⟩, .string ⟨#[]⟩, .slice (some ⟨g, 0, none⟩) cn cap, .int .i64 p] 25)).alloc (.cells #[.string ⟨#[42]⟩, .string ⟨#[47]⟩, .string ⟨#[77, 79, 68]⟩, .string ⟨#[43]⟩, .string ⟨#[45]⟩, .string ⟨#[60]⟩, .string ⟨#[62]⟩, .string ⟨#[60, 61]⟩, .string ⟨#[62, 61]⟩, .string ⟨#[61]⟩, .string ⟨#[60, 62]⟩, .string ⟨#[65, 78, 68]⟩, .string ⟨#[88, 79, 82]⟩, .string ⟨#[79, 82]⟩] 9)).cell? ⟨w.heap.size + 1, q, none⟩ = some (.string (tx (opw (q + 5)))) := by
    rw [show w.heap.size + 1 = (w.alloc (.cells #[.int .i64 ((q : Int) + 5), .int .i64 0, .int .i64 0, .string ⟨#[]⟩, .string ⟨#[]⟩, .slice (some ⟨g, 0, none⟩) cn cap, .int .i64 p] 25)).heap.size by rw [World.size_alloc], World.cell?_alloc_at _ _ _ _ rfl]
    exact fourteen_at q hq
  have T : Hid (tx ([40] ++ b ++ [41]) ++ tx [32] ++ tx (opw (q + 5)) ++ tx [32] ++ tx ([40] ++ c ++ [41]) = tx ([40] ++ b ++ [41] ++ [32] ++ opw (q + 5) ++ [32] ++ ([40] ++ c ++ [41]))) := hid_as (by rw [tx_app, tx_app, tx_app, tx_app])
  generalize tx ([40] ++ b ++ [41]) = X at *
  generalize tx ([40] ++ c ++ [41]) = Y at *
  generalize tx (opw (q + 5)) = Z at *
  go_enter Tryz.func9, Tryz.ntmps9
  go_wp2_with (first
    | (go_at_call 19; (with_reducible refine (A.out _ W1.out B1.out).mono ?_); rintro e w1 ⟨rfl, k1⟩; have W2 := hid_as (below_and W1.out k1); have B2 := hid_as (B1.out.below k1); clear k1)
    | (go_at_call 19; (with_reducible refine (A2.out _ W2.out B2.out).mono ?_); rintro e w2 ⟨rfl, k2⟩; have W3 := hid_as (below_and W2.out k2); clear k2))
  go_ret
  exact ⟨ret_strs T.out, W3.out⟩
end Go.Proofs.YtgdoanhemgklpaaGreatDoor
