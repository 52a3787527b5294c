/- The walks: fits, putWord; a frame's box. -/
import Derived.Test.YtjfaocpbhhpbdaaB2
import Derived.Test.YtjfaocpbhhpbdaaP1
namespace Go.Proofs.Ytjfaocpbhhpbdaa
open Go.RowKit
open Pdu
set_option maxHeartbeats 800000 in
theorem fits_t (n : Nat) (w : World) (h : 2 ≤ n ∧ n ≤ 254) : Calls Try.prog 25 #[.int .i64 n] w fun e w' => e = .returned (.bool true) ∧ w' = w := by
  have h1 : decide ((2 : Int) ≤ n) = true := decide_eq_true (by omega)
  have h2 : decide ((n : Int) ≤ 254) = true := decide_eq_true (by omega)
  clear h
  go_enter Try.func25, Try.ntmps25
  go_wp2
  go_ret
  exact ⟨rfl, rfl⟩
set_option maxHeartbeats 800000 in
theorem fits_f (n : Nat) (w : World) (h : ¬ (2 ≤ n ∧ n ≤ 254)) : Calls Try.prog 25 #[.int .i64 n] w fun e w' => e = .returned (.bool false) ∧ w' = w := by
  by_cases h1 : 2 ≤ n
  · have h1' : decide ((2 : Int) ≤ n) = true := decide_eq_true (by omega)
    have h2 : decide ((n : Int) ≤ 254) = false := decide_eq_false (by omega)
    clear h h1
    go_enter Try.func25, Try.ntmps25
    go_wp2
    go_ret
    exact ⟨rfl, rfl⟩
  · have h1' : decide ((2 : Int) ≤ n) = false := decide_eq_false (by omega)
    clear h h1
    go_enter Try.func25, Try.ntmps25
    go_wp2
    go_ret
    exact ⟨rfl, rfl⟩
/-- The three cells of a boxed frame. -/
structure Box (w : World) (g : Nat) (x0 x1 x2 : Value) : Prop where
  c0 : w.cell? ⟨g, 0, none⟩ = some x0
  c1 : w.cell? ⟨g, 1, none⟩ = some x1
  c2 : w.cell? ⟨g, 2, none⟩ = some x2
theorem Box.below {w u : World} {g B : Nat} {x0 x1 x2 : Value} (h : Box w g x0 x1 x2) (k : Below B w u) (hg : g < B) : Box u g x0 x1 x2 :=
  ⟨(k.cell (p := ⟨g, 0, none⟩) hg).trans h.c0, (k.cell (p := ⟨g, 1, none⟩) hg).trans h.c1, (k.cell (p := ⟨g, 2, none⟩) hg).trans h.c2⟩
theorem Box.new (w : World) (x0 x1 x2 : Value) (e : TypeId) : Box (w.alloc (.cells #[x0, x1, x2] e)) w.heap.size x0 x1 x2 := by
  constructor <;> simp
theorem Box.grow {Y : World} {g : Nat} {z0 z1 z2 : Value} (h : Box Y g z0 z1 z2) (o : Obj) : Box (Y.alloc o) g z0 z1 z2 :=
  h.below (below_new (Below.refl _ Y) o) (lt_of_cell h.c0)
theorem Box.drewN {Y : World} {g : Nat} {z0 z1 z2 : Value} (h : Box Y g z0 z1 z2) (d : Nat) : Box (Y.drewN d) g z0 z1 z2 := ⟨h.c0, h.c1, h.c2⟩
theorem one_box {w w1 : World} {x0 x1 x2 : Value} {t : TypeId} (k : Below (w.alloc (.cells #[x0, x1, x2] t)).heap.size (w.alloc (.cells #[x0, x1, x2] t)) w1) :
    Below w.heap.size w w1 ∧ Box w1 w.heap.size x0 x1 x2 ∧ w.heap.size < w1.heap.size := by
  have hs := k.size
  simp only [World.size_alloc] at hs
  exact ⟨below_and (below_new (Below.refl _ w) _) k, (Box.new w x0 x1 x2 t).below k (by simp only [World.size_alloc]; omega), by omega⟩
/-- A frame, in memory. -/
structure IsFr (w : World) (v : Value) (id unit : Nat) (pdu : List Nat) (pv : Value) : Prop where
  is : v = .agg #[.int .u16 id, .int .u8 unit, pv]
  i : id < 65536
  u : unit < 256
  b : Bytes pdu
  s : Sl w pv (u8s pdu)
theorem IsFr.below {w u : World} {v pv : Value} {id unit : Nat} {pdu : List Nat} (h : IsFr w v id unit pdu pv) (k : Below w.heap.size w u) : IsFr u v id unit pdu pv := ⟨h.is, h.i, h.u, h.b, h.s.below k⟩
set_option maxHeartbeats 1600000 in
theorem frame_t {a b p q : Value} {id unit : Nat} {pdu : List Nat} {w : World} (ha : IsFr w a id unit pdu p) (hb : IsFr w b id unit pdu q) : Calls Try.prog 9 #[a, b] w fun e w' => e = .returned (.bool true) ∧ Below w.heap.size w w' := by
  obtain ⟨rfl, i1, u1, B1, s1⟩ := ha
  obtain ⟨rfl, _, _, _, s2⟩ := hb
  have X := hid_as (fun (o o2 : Obj) => bytes_t ((s1.below (below_new (Below.refl _ w) o)).below (below_new (Below.refl _ _) o2)) ((s2.below (below_new (Below.refl _ w) o)).below (below_new (Below.refl _ _) o2)) B1)
  clear s1 s2
  go_enter Try.func9, Try.ntmps9
  go_wp2_with fail
  refine (X.out _ _).mono ?_
  rintro e w1 ⟨rfl, hw⟩
  subst w1
  go_wp2
  go_ret
  exact ⟨rfl, below_new (below_new (Below.refl _ w) _) _⟩
end Go.Proofs.Ytjfaocpbhhpbdaa
