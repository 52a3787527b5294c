/- The walk: the chapter's example. -/
import Derived.Test.YtjfaocpbhhpbdaaK6
namespace Go.Proofs.Ytjfaocpbhhpbdaa
open Go.RowKit
open Pdu
def ex8 : List Nat := [0, 1, 0, 0, 0, 2, 17, 3]
/-- The example's stream and bytes. -/
structure KI (w W : World) (room : List Nat) (h N : Nat) : Prop where
  k : Below w.heap.size w W
  s : St W w.heap.size room h false N
  l : Lies W (w.heap.size + 1) 0 (u8s ex8)
theorem KI.lt {w W : World} {room : List Nat} {h N : Nat} (K : KI w W room h N) : w.heap.size + 1 < W.heap.size := lt_of_cell (K.l.u8 0 (by decide))
theorem KI.turn {w W W' : World} {room room' : List Nat} {h N h' N' : Nat} (K : KI w W room h N) (t : Turn w.heap.size W W') (s : St W' w.heap.size room' h' false N') : KI w W' room' h' N' :=
  ⟨K.k.trans (t.below (Nat.le_refl _) K.k.size), s, K.l.kept (t.block _ K.lt (fun e => by simp at e))⟩
theorem KI.new {w W : World} {room : List Nat} {h N : Nat} (K : KI w W room h N) (o : Obj) : KI w (W.alloc o) room h N := by
  have b := below_new (Below.refl _ W) o
  exact ⟨below_and K.k b, K.s.below b K.s.lt, K.l.below b⟩
theorem KI.far {w W W' : World} {room : List Nat} {h N g : Nat} (K : KI w W room h N) (t : Turn g W W') (hg : w.heap.size + 1 < g) : KI w W' room h N :=
  ⟨K.k.trans (t.below (by omega) K.k.size), K.s.turn t (by omega), K.l.kept (t.block _ K.lt (fun e => by simp at e; omega))⟩
theorem KI.sl {w W : World} {room : List Nat} {h N : Nat} (K : KI w W room h N) : Sl W (.slice (some ⟨w.heap.size + 1, 0, none⟩) 8 8) (u8s ex8) := Or.inr ⟨_, _, 8, rfl, by decide, K.l⟩
theorem KI.sl1 {w W : World} {room : List Nat} {h N : Nat} (K : KI w W room h N) : Sl W (.slice (some ⟨w.heap.size + 1, 0, none⟩) 3 8) (u8s [0, 1, 0]) := sub_sl K.l 0 3 8 (by decide) (by decide)
theorem KI.sl2 {w W : World} {room : List Nat} {h N : Nat} (K : KI w W room h N) : Sl W (.slice (some ⟨w.heap.size + 1, 3, none⟩) 5 5) (u8s [0, 0, 2, 17, 3]) := by
  have := sub_sl K.l 3 5 5 (by decide) (by decide)
  rw [Nat.zero_add] at this
  exact this
theorem ki_start (w : World) : KI w ((w.alloc (.cells zS 58)).alloc (.cells #[.int .u8 0, .int .u8 1, .int .u8 0, .int .u8 0, .int .u8 0, .int .u8 2, .int .u8 17, .int .u8 3] 5)) (List.replicate 260 0) 0 0 := by
  have b1 := below_new (Below.refl _ w) (.cells zS 58)
  have b2 := below_new (Below.refl _ (w.alloc (.cells zS 58))) (.cells #[.int .u8 0, .int .u8 1, .int .u8 0, .int .u8 0, .int .u8 0, .int .u8 2, .int .u8 17, .int .u8 3] 5)
  refine ⟨below_and b1 b2, (zS_st w).below b2 (zS_st w).lt, ?_⟩
  have hs : (w.alloc (.cells zS 58)).heap.size = w.heap.size + 1 := World.size_alloc ..
  intro k u hk
  rw [← hs, World.cell?_alloc_new, Nat.zero_add, ← Array.getElem?_toList]
  exact hk
theorem kept_far {g p : Nat} {w w' : World} {o : Obj} (t : Turn g w w') (hp : w.heap[p]? = some o) (hne : p ≠ g) : w'.heap[p]? = some o := (t.block p (Array.getElem?_eq_some_iff.1 hp).1 (fun e => hne (by simpa using e))).trans hp
theorem kept_alloc {p : Nat} {w : World} {o o2 : Obj} (hp : w.heap[p]? = some o) : (w.alloc o2).heap[p]? = some o := (Below.heap_alloc w o2 p (Array.getElem?_eq_some_iff.1 hp).1).trans hp
theorem b3 : Bytes [0, 1, 0] := by intro x hx; simp at hx; omega
theorem b5 : Bytes [0, 0, 2, 17, 3] := by intro x hx; simp at hx; omega
theorem b6 : Bytes [0, 1, 0, 9, 0, 2] := by intro x hx; simp at hx; omega
set_option maxRecDepth 100000 in
set_option maxHeartbeats 8000000 in
theorem known_law (w : World) : Calls Try.prog 6 #[] w fun e w' => e = .returned (.bool true) ∧ Below w.heap.size w w' := by
  have N1 := hid_as (new_c w)
  have I0 := hid_as (ki_start w)
  go_enter Try.func6, Try.ntmps6
  go_wp2_with fail
  refine N1.out.mono ?_
  rintro e w1 ⟨rfl, hw⟩
  rw [← hw] at I0
  have hs1 : w1.heap.size = w.heap.size + 1 := by rw [hw]; exact World.size_alloc ..
  clear hw N1
  have X1 := hid_as (feed_n (h' := 3) (k := 3) I0.out.s (ps := []) rfl I0.out.sl1 b3 rfl rfl)
  go_wp2_with fail
  refine X1.out.mono ?_
  rintro e w2 ⟨rfl, t2, room2, s2, p2⟩
  have I2 := hid_as (I0.out.turn t2 s2)
  have X2 := hid_as (next_w (ps := [0, 1, 0]) s2 p2 rfl)
  clear t2 s2 X1 I0
  go_wp2_with fail
  refine X2.out.mono ?_
  rintro e w3 ⟨rfl, t3, s3⟩
  have I3 := hid_as (fun (o : Obj) => (I2.out.turn t3 s3).new o)
  have X3 := hid_as (fun (o : Obj) => feed_n (h' := 8) (k := 5) (I3.out o).s p2 (I3.out o).sl2 b5 rfl rfl)
  clear t3 s3 X2 I2 p2
  go_wp2_with fail
  refine (X3.out _).mono ?_
  rintro e w4 ⟨rfl, t4, room4, s4, p4⟩
  have I4 := hid_as ((I3.out _).turn t4 s4)
  have X4 := hid_as (next_n (h' := 0) (ps := ex8) (id := 1) (unit := 17) (pdu := [3]) (n := 8) s4 p4 rfl (by decide) (by decide) rfl)
  clear t4 s4 X3 I3 p4
  go_wp2_with fail
  refine X4.out.mono ?_
  rintro e w5 ⟨po, pc, room5, rfl, t5, s5, p5⟩
  have hp5 : w.heap.size + 1 < w5.heap.size := (I4.out.turn t5 s5).lt
  have I5 := hid_as (fun (o : Obj) => (I4.out.turn t5 s5).new o)
  have X5 := hid_as (fun (o : Obj) => next_w (ps := []) (I5.out o).s p5 rfl)
  clear t5 s5 X4 I4 p5
  go_wp2_with fail
  refine (X5.out _).mono ?_
  rintro e w6 ⟨rfl, t6, s6⟩
  have F6 : Hid (w6.heap[w5.heap.size]? = some (.cells #[.int .u16 1, .int .u8 17, .slice po 1 pc] 29 (0, 0))) := kept_far t6 (heap_alloc_new w5 _) (by omega)
  have I6 := hid_as ((I5.out _).turn t6 s6)
  have hp6 : w.heap.size + 1 < w6.heap.size := I6.out.lt
  have X6 := hid_as (fun (o : Obj) => new_c (w6.alloc o))
  simp only [World.size_alloc] at X6
  clear t6 s6 X5 I5
  go_wp2_with fail
  refine (X6.out _).mono ?_
  rintro e w7 ⟨rfl, hw⟩
  have I7 : Hid (KI w w7 room5 0 1) := by rw [hw]; exact (I6.out.new _).new _
  have F7 : Hid (w7.heap[w5.heap.size]? = some (.cells #[.int .u16 1, .int .u8 17, .slice po 1 pc] 29 (0, 0))) := by rw [hw]; exact kept_alloc (kept_alloc F6.out)
  have S7 : Hid (St w7 (w6.heap.size + 1) (List.replicate 260 0) 0 false 0) := by
    have := zS_st (w6.alloc (.cells #[.int .u16 0, .int .u8 0, .slice none 0 0] 29))
    rw [World.size_alloc] at this
    rw [hw]
    exact this
  have hp : w5.heap.size < w6.heap.size := (Array.getElem?_eq_some_iff.1 F6.out).1
  clear hw X6 F6 I6
  have L7 := lit_bytes w7 [0, 1, 0, 9, 0, 2] #[.int .u8 0, .int .u8 1, .int .u8 0, .int .u8 9, .int .u8 0, .int .u8 2] 6 rfl rfl
  have b7 := below_new (Below.refl _ w7) (.cells #[.int .u8 0, .int .u8 1, .int .u8 0, .int .u8 9, .int .u8 0, .int .u8 2] 5)
  have X7 := hid_as (feed_n (h' := 6) (k := 6) (S7.out.below b7 S7.out.lt) (ps := []) rfl L7 b6 rfl rfl)
  have I7' := hid_as (I7.out.new (.cells #[.int .u8 0, .int .u8 1, .int .u8 0, .int .u8 9, .int .u8 0, .int .u8 2] 5))
  have F7' := hid_as (kept_alloc (o2 := .cells #[.int .u8 0, .int .u8 1, .int .u8 0, .int .u8 9, .int .u8 0, .int .u8 2] 5) F7.out)
  clear L7 b7 I7 F7 S7
  go_wp2_with fail
  refine X7.out.mono ?_
  rintro e w8 ⟨rfl, t8, room8, s8, p8⟩
  have I8 := hid_as (I7'.out.far t8 (by omega))
  have F8 := hid_as (kept_far t8 F7'.out (by omega))
  have X8 := hid_as (next_err _ 6 0 41 false room8 w8 s8 (by rw [p8]; rfl) (by decide))
  clear t8 s8 p8 X7 I7' F7'
  go_wp2_with fail
  refine X8.out.mono ?_
  rintro e w9 ⟨rfl, t9, s9⟩
  have I9 := hid_as (fun (o : Obj) => (I8.out.far t9 (by omega)).new o)
  have F9 := hid_as (fun (o : Obj) => kept_alloc (o2 := o) (kept_far t9 F8.out (by omega)))
  have c9 := fun (o : Obj) => (block3 (F9.out o)).1.c1
  have S9 := hid_as (fun (o : Obj) => s9.below (below_new (Below.refl _ w9) o) s9.lt)
  have Y1 := hid_as (fun (o : Obj) => left_c (I9.out o).s)
  have Y2 := hid_as (fun (o : Obj) => frames_c (I9.out o).s)
  have Y3 := hid_as (fun (o : Obj) (v : Value) => feed_broken (S9.out o) v)
  clear t9 s9 X8 I8 F8
  go_wp2_with fail
  refine (Y1.out _).mono ?_
  rintro e wx ⟨rfl, hw⟩
  subst wx
  go_wp2_with fail
  refine (Y2.out _).mono ?_
  rintro e wx ⟨rfl, hw⟩
  subst wx
  go_wp2_with fail
  refine (Y3.out _ _).mono ?_
  rintro e wx ⟨rfl, hw⟩
  subst wx
  go_wp2
  go_ret
  exact ⟨rfl, (I9.out _).k⟩
end Go.Proofs.Ytjfaocpbhhpbdaa
