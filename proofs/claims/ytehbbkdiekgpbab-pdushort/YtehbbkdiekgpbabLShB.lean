/- The walk of PduShort. -/
import Derived.Test.YtehbbkdiekgpbabKN
import Derived.Test.YtehbbkdiekgpbabRqYes
import Derived.Test.YtehbbkdiekgpbabTKAll
import Derived.Test.YtehbbkdiekgpbabRRepAll
import Derived.Test.YtehbbkdiekgpbabHCopy
import Derived.Test.YtehbbkdiekgpbabOPr
import Derived.Test.YtehbbkdiekgpbabPlace
import Derived.Test.YtehbbkdiekgpbabJ4
import Derived.Test.YtehbbkdiekgpbabApp
import Derived.Test.YtehbbkdiekgpbabJ2
import Derived.Deep.OwnRows
namespace Go.Proofs.Ytehbbkdiekgpbab
open Go.RowKit
open Pdu
theorem sl_cut {w : World} {g : Nat} {bs : List Nat} {n c p : Nat} (h : Sl w (.slice (some ⟨g, 0, none⟩) n c) (u8s bs)) (hp : p < bs.length) : Sl w (.slice (some ⟨g, 0, none⟩) p c) (u8s (bs.take p)) := by
  rcases h with ⟨h, _⟩ | ⟨b, off, cap, e, hcap, hc⟩
  · have := congrArg List.length h
    rw [u8s_len, List.length_nil] at this
    omega
  · injection e with e1 e2 e3
    injection e1 with e1
    injection e1 with e4 e5 e6
    subst e3 e4 e5
    have hl : (u8s (bs.take p)).length = p := by rw [u8s_len, List.length_take]; omega
    refine Or.inr ⟨g, 0, c, by rw [hl], by rw [hl]; rw [u8s_len] at hcap; omega, ?_⟩
    intro j u hj
    refine hc j u ?_
    have hj' : j < p := by
      have := (List.getElem?_eq_some_iff.1 hj).1
      omega
    unfold u8s at hj ⊢
    rw [List.map_take, List.getElem?_take, if_pos hj'] at hj
    exact hj
theorem bytes_take {bs : List Nat} (h : Bytes bs) (p : Nat) : Bytes (bs.take p) := fun x hx => h x (List.mem_of_mem_take hx)
theorem bytes_app {a b : List Nat} (ha : Bytes a) (hb : Bytes b) : Bytes (a ++ b) := fun x hx => (List.mem_append.1 hx).elim (ha x) (hb x)
theorem own_some {w : World} {base n : Nat} {v : Value} {bs : List Nat} (h : w.ownsRow base 5 1 v n (u8s bs)) (h0 : bs ≠ []) : ∃ g c, v = .slice (some ⟨g, 0, none⟩) bs.length c ∧ bs.length ≤ c := by
  have hl := h.1
  rw [u8s_len, Nat.mul_one] at hl
  rcases h.2 with ⟨_, h⟩ | ⟨g, cap, cur, h, _, _, hc, _⟩
  · exact absurd (List.length_eq_zero_iff.1 (hl.trans h)) h0
  · rw [← hl] at h hc
    exact ⟨g, cap, h, hc⟩
theorem made_sl {Z : World} {g n : Nat} {z : Value} {e : TypeId} {vs : List Value} (hg : Z.heap.size = g) (hv : (madeCells #[z] n).toList = vs) (hl : vs.length = n) : Sl (Z.alloc (.cells (madeCells #[z] n) e)) (.slice (some ⟨g, 0, none⟩) n n) vs := by
  refine Or.inr ⟨g, 0, n, by rw [hl], by rw [hl]; exact Nat.le_refl _, ?_⟩
  intro k u hk
  rw [← hg, World.cell?_alloc_new, Nat.zero_add, ← Array.getElem?_toList, hv]
  exact hk
theorem Box.drew {w : World} {g : Nat} {x0 x1 x2 x3 x4 x5 : Value} (h : Box w g x0 x1 x2 x3 x4 x5) : Box w.drew g x0 x1 x2 x3 x4 x5 := ⟨h.c0, h.c1, h.c2, h.c3, h.c4, h.c5⟩
theorem first_kept {V wA : World} {Z : Obj} {y : Value} {n : Nat} {xs : List Value} (k : Below (V.drew.alloc Z).heap.size (V.drew.alloc Z) wA) (own : wA.ownsRow (V.drew.alloc Z).heap.size 5 1 y n xs) : wA.heap[V.heap.size]? = some Z ∧ V.heap.size < wA.heap.size ∧ y.ownBlock ≠ some V.heap.size := by
  have hs := k.size
  have e : V.drew.heap.size = V.heap.size := rfl
  rw [World.size_alloc, e] at hs
  refine ⟨(k.block _ (by rw [World.size_alloc, e]; exact Nat.lt_succ_self _)).trans (heap_alloc_new V.drew Z), hs, fun h => ?_⟩
  have := (own.lt _ h).1
  rw [World.size_alloc, e] at this
  omega
set_option maxHeartbeats 800000 in
theorem step_append_sl {ops : Array Oper} {o : Oper} {a : Act} {W : World} {K : Act → World → Prop} {Q : Exit → Act → World → Prop} {E : Prop}
    (hg : o.guard = none) (s x : Operand) (ho : o.op = .call { callee := .builtin .append, args := #[s, x], argTypes := #[29, 29] })
    (base : Nat) (v vx : Value) (bs ms : List Nat) (hs : a.eval s = v) (hx : a.eval x = vx) (hown : W.ownsRow base 5 1 v bs.length (u8s bs)) (hm : Sl W vx (u8s ms)) (hsz : bs.length + ms.length ≤ 60000) (hbase : base ≤ W.heap.size)
    (h : ∀ v' w', Sl w' v' (u8s (bs ++ ms)) → Below base W w' → (∀ j, j < W.heap.size → v.ownBlock ≠ some j → w'.heap[j]? = W.heap[j]?) → K (a.put o.dst v') w') :
    if Region.wanted o (yielded ops a.tmps) = true then Oper.wp Try.prog o a W K Q else E := by
  obtain ⟨i0, hi, hz0, hz1, hz2⟩ := info_parts Try.infoByte
  obtain ⟨y6, w6, hAp, own6, g6⟩ := run_append_sl (P := Try.prog) (w := W) base 29 o.type 5 i0 (.int .u8 0) 1 Try.underlying29 hi hz0 hz1 hz2 rfl v _ _ hown vx (u8s ms) hm (u8s_one ms) (by rw [u8s_len]; unfold maxLen; omega) (by rw [u8s_len]; omega) hbase
  rw [← u8s_app] at own6
  exact step_append_run hg s x 29 29 ho v vx hs hx y6 w6 hAp (h y6 w6 (own_sl own6) ((Below.refl base W).grown g6 hbase (fun g hg' => (hown.lt g hg').1)) (fun j hj hne => g6.block j hj (fun e => hne e.symm)))
set_option linter.unusedSimpArgs false in
set_option linter.unusedVariables false in
set_option maxRecDepth 100000 in
set_option maxHeartbeats 8000000 in
theorem short_heavy (a0 a1 a2 a3 m c : Nat) (k : Int) (a4 : List Bool) (a5 : List Nat) (av aw : Value) (so : Option Addr) (w : World) (ha : IsRq w (.agg #[.int .u8 a0, .int .u16 a1, .int .u16 a2, .int .u16 a3, av, aw]) ⟨a0, a1, a2, a3, a4, a5⟩) (hh : ¬ (a4.length ≤ 2500 ∧ a5.length ≤ 200)) :
    Calls Try.prog 4 #[.agg #[.int .u8 a0, .int .u16 a1, .int .u16 a2, .int .u16 a3, av, aw], .int .i64 k, .slice so m c] w fun e w' => e = .returned (.bool true) ∧ Below w.heap.size w w' := by
  have HA := hid_as ha
  clear ha
  have hd := decide_eq_false hh
  clear hh
  go_enter Try.func4, Try.ntmps4
  go_wp2_with fail
  refine (known_law _).mono ?_
  rintro e w1 ⟨rfl, k1⟩
  obtain ⟨k1, B1, hs1⟩ := one_box k1
  have K1 : Hid (Below w.heap.size w w1) := k1
  have H1 := hid_as (HA.out.below k1)
  have B1 : Hid (Box w1 w.heap.size (.int .u8 a0) (.int .u16 a1) (.int .u16 a2) (.int .u16 a3) av aw) := B1
  obtain ⟨c0, c1, c2, c3, c4, c5⟩ := B1.out
  clear k1
  go_wp2_with fail
  refine (light_c H1.out).mono ?_
  rintro e w2 ⟨rfl, k2⟩
  have K2 : Hid (Below w.heap.size w w2) := below_and K1.out k2
  rw [hd]
  clear k2 c0 c1 c2 c3 c4 c5
  go_wp2
  go_ret
  exact ⟨rfl, K2.out⟩
set_option linter.unusedSimpArgs false in
set_option linter.unusedVariables false in
set_option maxRecDepth 100000 in
set_option maxHeartbeats 8000000 in
theorem short_big (a0 a1 a2 a3 m c : Nat) (k : Int) (a4 : List Bool) (a5 : List Nat) (av aw : Value) (so : Option Addr) (w : World) (ha : IsRq w (.agg #[.int .u8 a0, .int .u16 a1, .int .u16 a2, .int .u16 a3, av, aw]) ⟨a0, a1, a2, a3, a4, a5⟩) (hl : a4.length ≤ 2500 ∧ a5.length ≤ 200) (hm : 50 < m) :
    Calls Try.prog 4 #[.agg #[.int .u8 a0, .int .u16 a1, .int .u16 a2, .int .u16 a3, av, aw], .int .i64 k, .slice so m c] w fun e w' => e = .returned (.bool true) ∧ Below w.heap.size w w' := by
  have HA := hid_as ha
  clear ha
  have hd := decide_eq_true hl
  have h4 : decide ((50 : Int) < (m : Int)) = true := decide_eq_true (by omega)
  clear hl hm
  go_enter Try.func4, Try.ntmps4
  go_wp2_with fail
  refine (known_law _).mono ?_
  rintro e w1 ⟨rfl, k1⟩
  obtain ⟨k1, B1, hs1⟩ := one_box k1
  have K1 : Hid (Below w.heap.size w w1) := k1
  have H1 := hid_as (HA.out.below k1)
  have B1 : Hid (Box w1 w.heap.size (.int .u8 a0) (.int .u16 a1) (.int .u16 a2) (.int .u16 a3) av aw) := B1
  obtain ⟨c0, c1, c2, c3, c4, c5⟩ := B1.out
  clear k1
  go_wp2_with fail
  refine (light_c H1.out).mono ?_
  rintro e w2 ⟨rfl, k2⟩
  have K2 : Hid (Below w.heap.size w w2) := below_and K1.out k2
  rw [hd]
  clear k2 c0 c1 c2 c3 c4 c5
  go_wp2
  go_ret
  exact ⟨rfl, K2.out⟩
set_option linter.unusedSimpArgs false in
set_option linter.unusedVariables false in
set_option maxRecDepth 100000 in
set_option maxHeartbeats 8000000 in
theorem short_no (a0 a1 a2 a3 m c : Nat) (k : Int) (a4 : List Bool) (a5 : List Nat) (av aw : Value) (so : Option Addr) (w : World) (ha : IsRq w (.agg #[.int .u8 a0, .int .u16 a1, .int .u16 a2, .int .u16 a3, av, aw]) ⟨a0, a1, a2, a3, a4, a5⟩) (hl : a4.length ≤ 2500 ∧ a5.length ≤ 200) (hm : m ≤ 50) (fa : ¬ Rq.Fits ⟨a0, a1, a2, a3, a4, a5⟩) :
    Calls Try.prog 4 #[.agg #[.int .u8 a0, .int .u16 a1, .int .u16 a2, .int .u16 a3, av, aw], .int .i64 k, .slice so m c] w fun e w' => e = .returned (.bool true) ∧ Below w.heap.size w w' := by
  have HA := hid_as ha
  clear ha
  have FA := hid_as fa
  have hd := decide_eq_true hl
  have h4 : decide ((50 : Int) < (m : Int)) = false := decide_eq_false (by omega)
  clear hl hm fa
  go_enter Try.func4, Try.ntmps4
  go_wp2_with fail
  refine (known_law _).mono ?_
  rintro e w1 ⟨rfl, k1⟩
  obtain ⟨k1, B1, hs1⟩ := one_box k1
  have K1 : Hid (Below w.heap.size w w1) := k1
  have H1 := hid_as (HA.out.below k1)
  have B1 : Hid (Box w1 w.heap.size (.int .u8 a0) (.int .u16 a1) (.int .u16 a2) (.int .u16 a3) av aw) := B1
  obtain ⟨c0, c1, c2, c3, c4, c5⟩ := B1.out
  clear k1
  go_wp2_with fail
  refine (light_c H1.out).mono ?_
  rintro e w2 ⟨rfl, k2⟩
  have K2 : Hid (Below w.heap.size w w2) := below_and K1.out k2
  rw [hd]
  have H2 := hid_as (HA.out.below K2.out)
  have hs2 : w.heap.size < w2.heap.size := Nat.lt_of_lt_of_le hs1 k2.size
  have B2 : Hid (Box w2 w.heap.size (.int .u8 a0) (.int .u16 a1) (.int .u16 a2) (.int .u16 a3) av aw) := B1.out.below k2 hs1
  clear k2 c0 c1 c2 c3 c4 c5 B1 H1
  obtain ⟨c0, c1, c2, c3, c4, c5⟩ := B2.out
  go_wp2_with fail
  refine (request_no H2.out FA.out).mono ?_
  rintro e w3 ⟨rfl, k3⟩
  have K3 : Hid (Below w.heap.size w w3) := below_and K2.out k3
  clear k3 c0 c1 c2 c3 c4 c5 B2 H2
  go_wp2
  go_ret
  exact ⟨rfl, K3.out⟩
end Go.Proofs.Ytehbbkdiekgpbab
