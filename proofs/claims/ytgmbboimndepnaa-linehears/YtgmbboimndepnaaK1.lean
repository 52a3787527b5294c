/- The walk: the chapter's example. -/
import Derived.Test.YtgmbboimndepnaaL7
namespace Go.Proofs.Ytgmbboimndepnaa
open Go.RowKit
open Pdu
def k5 : List Nat := [3, 0, 0, 0, 1]
def k8 : List Nat := [1, 3, 0, 0, 0, 1, 132, 10]
theorem k8_is : rt 1 k5 = k8 := by decide +kernel
theorem k8_rd : rd k8 = ⟨1, k5, 0⟩ := by rw [← k8_is]; exact rd_rt 1 k5 (by decide)
theorem k5_bytes : Bytes k5 := by unfold Bytes k5; decide
theorem k8_bytes : Bytes k8 := by unfold Bytes k8; decide
theorem n5_e : ¬ ((rd [1, 2, 3, 4, 5]).e = 0) := by decide +kernel
/-- The example's line, and its bytes. -/
structure KI (w W : World) (gb B t : Nat) (H : List Nat) (fs : List Fr) : Prop where
  k : Below w.heap.size w W
  la : ∃ l, LA B W w.heap.size 1 2 t H fs l
  l : Lies W gb 0 (u8s k8)
  ne : w.heap.size < gb
  BW : B ≤ W.heap.size
theorem KI.ltb {w W : World} {gb B t : Nat} {H : List Nat} {fs : List Fr} (K : KI w W gb B t H fs) : gb < W.heap.size := lt_of_cell (K.l.u8 0 (by decide))
theorem KI.turn {w W W' : World} {gb B B' t t' : Nat} {H H' : List Nat} {fs fs' : List Fr} (K : KI w W gb B t H fs) (k : Turn w.heap.size W W') (a : ∃ l, LA B' W' w.heap.size 1 2 t' H' fs' l) (hb : B' ≤ W'.heap.size) : KI w W' gb B' t' H' fs' :=
  ⟨K.k.trans (k.below (Nat.le_refl _) K.k.size), a, K.l.kept (k.block _ K.ltb (fun e => by have := K.ne; simp at e; omega)), K.ne, hb⟩
theorem KI.new {w W : World} {gb B t : Nat} {H : List Nat} {fs : List Fr} (K : KI w W gb B t H fs) (o : Obj) : KI w (W.alloc o) gb B t H fs := by
  have b := below_new (Below.refl _ W) o
  obtain ⟨l, a⟩ := K.la
  exact ⟨below_and K.k b, ⟨l, a.below (b.mono K.BW)⟩, K.l.below b, K.ne, Nat.le_trans K.BW b.size⟩
theorem KI.feed {w W : World} {gb B t : Nat} {H : List Nat} {fs : List Fr} (K : KI w W gb B t H fs) {v : Value} {bs H' : List Nat} (hs : Sl W v (u8s bs)) (hB : Bytes bs) (h0 : 0 < bs.length) (hH : (H ++ bs).take 257 = H') :
    Calls Try.prog 10 #[.pointer (some ⟨w.heap.size, 0, none⟩), v] W fun e w' => e = .returned (.tuple #[]) ∧ KI w w' gb B 0 H' fs := by
  obtain ⟨l, a⟩ := K.la
  subst hH
  refine (feed_la a hs hB h0).mono ?_
  rintro e w' ⟨rfl, k, a'⟩
  exact ⟨rfl, K.turn k a' (Nat.le_trans K.BW k.size)⟩
theorem KI.wait {w W : World} {gb B : Nat} {H : List Nat} {fs : List Fr} (K : KI w W gb B 0 H fs) (h0 : 0 < H.length) :
    Calls Try.prog 12 #[.pointer (some ⟨w.heap.size, 0, none⟩)] W fun e w' => e = .returned (.tuple #[]) ∧ KI w w' gb B 1 H fs := by
  obtain ⟨l, a⟩ := K.la
  refine (tick_la_wait a h0 (by decide) (by decide)).mono ?_
  rintro e w' ⟨rfl, k, a'⟩
  exact ⟨rfl, K.turn k a' (Nat.le_trans K.BW k.size)⟩
theorem KI.lst {w W : World} {gb B : Nat} {H : List Nat} {fs fs' : List Fr} (K : KI w W gb B 1 H fs) (h0 : 0 < H.length) (hf : tickW 1 fs H = fs') :
    Calls Try.prog 12 #[.pointer (some ⟨w.heap.size, 0, none⟩)] W fun e w' => e = .returned (.tuple #[]) ∧ ∃ B', KI w w' gb B' 2 [] fs' := by
  obtain ⟨l, a⟩ := K.la
  subst hf
  refine (tick_la_end a K.BW h0 (by decide) (by decide)).mono ?_
  rintro e w' ⟨rfl, k, a'⟩
  exact ⟨rfl, _, K.turn k a' (Nat.le_refl _)⟩
theorem KI.left {w W : World} {gb B t : Nat} {H : List Nat} {fs : List Fr} (K : KI w W gb B t H fs) : Calls Try.prog 16 #[.pointer (some ⟨w.heap.size, 0, none⟩)] W fun e w' => e = .returned (.int .i64 (H.length : Int)) ∧ w' = W := by
  obtain ⟨l, a⟩ := K.la
  exact left_la a
theorem KI.waits {w W : World} {gb B t : Nat} {H : List Nat} {fs : List Fr} (K : KI w W gb B t H fs) : Calls Try.prog 17 #[.pointer (some ⟨w.heap.size, 0, none⟩)] W fun e w' => e = .returned (.int .i64 (fs.length : Int)) ∧ w' = W := by
  obtain ⟨l, a⟩ := K.la
  exact waits_la a
theorem KI.nxt {w W : World} {gb B t : Nat} {H : List Nat} {fr : Fr} {fs : List Fr} (K : KI w W gb B t H (fr :: fs)) :
    Calls Try.prog 14 #[.pointer (some ⟨w.heap.size, 0, none⟩)] W fun e w' => ∃ po pc, e = .returned (.tuple #[.int .u8 (fr.unit : Int), .slice po fr.pdu.length pc, .bool true]) ∧ KI w w' gb B t H fs := by
  obtain ⟨l, a⟩ := K.la
  refine (next_la a).mono ?_
  rintro e w' ⟨po, pc, rfl, k, _, a'⟩
  exact ⟨po, pc, rfl, K.turn k a' (Nat.le_trans K.BW k.size)⟩
theorem KI.none {w W : World} {gb B t : Nat} {H : List Nat} (K : KI w W gb B t H []) :
    Calls Try.prog 14 #[.pointer (some ⟨w.heap.size, 0, none⟩)] W fun e w' => e = .returned (.tuple #[.int .u8 0, .slice none 0 0, .bool false]) ∧ w' = W := by
  obtain ⟨l, a⟩ := K.la
  exact next_la_none a
theorem b4a : Bytes [1, 3, 0, 0] := by intro x hx; simp at hx; omega
theorem b4b : Bytes [0, 1, 132, 10] := by intro x hx; simp at hx; omega
theorem b5 : Bytes [1, 2, 3, 4, 5] := by intro x hx; simp at hx; omega
theorem tick8 : tickW 1 [] k8 = [⟨1, k5⟩] := by
  unfold tickW
  rw [k8_rd]
  rfl
theorem tick5 : tickW 1 [] [1, 2, 3, 4, 5] = [] := by
  unfold tickW
  rw [if_neg (fun h => n5_e h.1)]
theorem ki_start {w w1 w2 : World} {gb c : Nat} (ln : Ln w1 w.heap.size (new0 1 2)) (k1 : Below w.heap.size w w1) (sz : w1.heap.size = w.heap.size + 1) (own : w2.ownsRow w1.heap.size 5 1 (.slice (some ⟨gb, 0, none⟩) 8 c) 8 (u8s k8)) (k2 : Below w1.heap.size w1 w2) : KI w w2 gb (w.heap.size + 1) 0 [] [] := by
  refine ⟨below_and k1 k2, ⟨_, (la_new w 1 2 w1 ln).below (k2.mono (by omega))⟩, ?_, ?_, ?_⟩
  · intro k u hk
    have := own.cells (g := gb) rfl k u hk
    rw [Nat.zero_add]
    rwa [show (⟨gb, 0, none⟩ : Addr).add k = ⟨gb, k, none⟩ by unfold Addr.add; split <;> simp_all] at this
  · have := (own.lt gb rfl).1
    omega
  · have := k2.size
    omega
theorem own_k8 {w : World} {base n : Nat} {v : Value} (h : w.ownsRow base 5 1 v n (u8s k8)) : ∃ g c, v = .slice (some ⟨g, 0, none⟩) 8 c ∧ 8 ≤ c := own_some h (by decide)
set_option maxRecDepth 100000 in
set_option maxHeartbeats 8000000 in
theorem known_law (w : World) : Calls Try.prog 6 #[] w fun e w' => e = .returned (.bool true) ∧ Below w.heap.size w w' := by
  have N1 := hid_as (new_c 1 2 2 w (by decide) (Or.inr ⟨by decide, rfl⟩))
  have R1 := hid_as (fun (W : World) => rtu_yes 1 5 5 k5 _ _ rfl (by decide) (by decide) k5_bytes (lit_bytes W k5 #[.int .u8 3, .int .u8 0, .int .u8 0, .int .u8 0, .int .u8 1] 5 rfl rfl))
  rw [k8_is] at R1
  go_enter Try.func6, Try.ntmps6
  go_wp2_with fail
  refine N1.out.mono ?_
  rintro e w1 ⟨rfl, ln1, k1, sz1⟩
  have LN := hid_as ln1
  have K1 := hid_as k1
  have SZ := hid_as sz1
  clear ln1 k1 sz1 N1
  go_wp2_with fail
  refine (R1.out w1).mono ?_
  rintro e w2 ⟨v2, rfl, own2, k2⟩
  obtain ⟨gb, c, rfl, hc8⟩ := own_k8 own2
  have I2 := hid_as (ki_start LN.out K1.out SZ.out (own_base own2 (by simp)) (below_and (below_new (Below.refl _ w1) _) k2))
  have l4 : (4 : Int) ≤ (c : Int) := by omega
  have n4 : ¬ (c = 4) := by omega
  have S1 : Hid (Sl w2 (.slice (some ⟨gb, 0, none⟩) 4 c) (u8s [1, 3, 0, 0])) := sub_sl I2.out.l 0 4 c (by decide) (by omega)
  have X1 := hid_as (I2.out.feed S1.out b4a (by decide) rfl)
  have hl8 : k8.length = 8 := rfl
  have hl5 : k5.length = 5 := rfl
  clear own2 k2 R1 LN K1 SZ
  go_wp2_with fail
  refine X1.out.mono ?_
  rintro e w3 ⟨rfl, i3⟩
  have I3 := hid_as i3
  have X2 := hid_as (i3.wait (by decide))
  clear i3 X1 I2 S1
  go_wp2_with fail
  refine X2.out.mono ?_
  rintro e w4 ⟨rfl, i4⟩
  have I4 := hid_as i4
  have S4 : Hid (Sl w4 (.slice (some ⟨gb, 4, none⟩) 4 (c - 4)) (u8s [0, 1, 132, 10])) := by
    have := sub_sl i4.l 4 4 (c - 4) (by decide) (by omega)
    rw [Nat.zero_add] at this
    exact this
  have X3 := hid_as (i4.feed S4.out b4b (by decide) (H' := k8) rfl)
  clear i4 X2 I3
  go_wp2_with fail
  refine X3.out.mono ?_
  rintro e w5 ⟨rfl, i5⟩
  have I5 := hid_as i5
  have X4 := hid_as (i5.wait (by decide))
  clear i5 X3 I4 S4
  go_wp2_with fail
  refine X4.out.mono ?_
  rintro e w6 ⟨rfl, i6⟩
  have I6 := hid_as i6
  have X5 := hid_as i6.left
  have X6 := hid_as (i6.lst (by decide) tick8)
  clear i6 X4 I5
  go_wp2_with fail
  refine X5.out.mono ?_
  rintro e wx ⟨rfl, hw⟩
  subst wx
  go_wp2_with fail
  refine X6.out.mono ?_
  rintro e w7 ⟨rfl, B7, i7⟩
  have I7 := hid_as i7
  have X7 := hid_as i7.nxt
  clear i7 X5 X6 I6
  go_wp2_with fail
  refine X7.out.mono ?_
  rintro e w8 ⟨po, pc, rfl, i8⟩
  have I8 := hid_as i8
  have X8 := hid_as i8.none
  clear i8 X7 I7
  go_wp2_with fail
  refine X8.out.mono ?_
  rintro e wx ⟨rfl, hw⟩
  subst wx
  have I9 := hid_as (I8.out.new (.cells #[.int .u8 1, .int .u8 2, .int .u8 3, .int .u8 4, .int .u8 5] 5))
  have L9 := hid_as (lit_bytes w8 [1, 2, 3, 4, 5] #[.int .u8 1, .int .u8 2, .int .u8 3, .int .u8 4, .int .u8 5] 5 rfl rfl)
  have X9 := hid_as (I9.out.feed (H' := [1, 2, 3, 4, 5]) L9.out b5 (by decide) rfl)
  clear X8
  go_wp2_with fail
  refine X9.out.mono ?_
  rintro e w9 ⟨rfl, i9⟩
  have Y9 := hid_as (i9.wait (by decide))
  clear i9 X9 I8 I9 L9
  go_wp2_with fail
  refine Y9.out.mono ?_
  rintro e wa ⟨rfl, ia⟩
  have Ya := hid_as (ia.lst (by decide) tick5)
  clear ia Y9
  go_wp2_with fail
  refine Ya.out.mono ?_
  rintro e wb ⟨rfl, Bb, ib⟩
  have Ib := hid_as ib
  have Yb := hid_as ib.waits
  have Yc := hid_as ib.left
  clear ib Ya
  go_wp2_with fail
  refine Yb.out.mono ?_
  rintro e wx ⟨rfl, hw⟩
  subst wx
  go_wp2_with fail
  refine Yc.out.mono ?_
  rintro e wx ⟨rfl, hw⟩
  subst wx
  go_wp2
  go_ret
  exact ⟨rfl, Ib.out.k⟩
end Go.Proofs.Ytgmbboimndepnaa
