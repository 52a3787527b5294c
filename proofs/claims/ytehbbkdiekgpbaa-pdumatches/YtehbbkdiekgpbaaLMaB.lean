/- The walk of PduMatches: what all ways want. -/
import Derived.Test.YtehbbkdiekgpbaaKN
import Derived.Test.YtehbbkdiekgpbaaRReqAll
import Derived.Test.YtehbbkdiekgpbaaRpYes
import Derived.Test.YtehbbkdiekgpbaaHRep
import Derived.Test.YtehbbkdiekgpbaaOPc
import Derived.Test.YtehbbkdiekgpbaaApp
import Derived.Test.YtehbbkdiekgpbaaJ4
import Derived.Test.YtehbbkdiekgpbaaJ2
namespace Go.Proofs.Ytehbbkdiekgpbaa
open Go.RowKit
open Pdu
theorem Box.drew {w : World} {g : Nat} {x0 x1 x2 x3 x4 x5 : Value} (h : Box w g x0 x1 x2 x3 x4 x5) : Box w.drew g x0 x1 x2 x3 x4 x5 := ⟨h.c0, h.c1, h.c2, h.c3, h.c4, h.c5⟩
theorem step_app_sl {P : Program} {ops : Array Oper} {o : Oper} {a : Act} {W : World} {K : Act → World → Prop} {Q : Exit → Act → World → Prop} {E : Prop}
    (hg : o.guard = none) (s x : Operand) (t e : TypeId) (z : Value) (bytes : Nat) (ho : o.op = .call { callee := .builtin .append, args := #[s, x], argTypes := #[t, t] })
    (ht : P.underlying t = some (.slice e)) (hi : (P.info? e).map (fun i => (i.zero, i.size, i.bytes)) = some (some z, 1, bytes)) (hzs : z.cells.size = 1) (hb : bytes ≤ 100)
    (base : Nat) (v vx : Value) (n : Nat) (xs news : List Value) (hs : a.eval s = v) (hx : a.eval x = vx) (hown : W.ownsRow base e 1 v n xs) (hm : Sl W vx news) (h1 : ∀ u ∈ news, u.oneCell' = true) (hsz : n + news.length ≤ 60000) (hbase : base ≤ W.heap.size)
    (h : ∀ v' w', w'.ownsRow base e 1 v' (n + news.length) (xs ++ news) → Below base W w' → K (a.put o.dst v') w') :
    if Region.wanted o (yielded ops a.tmps) = true then Oper.wp P o a W K Q else E := by
  obtain ⟨i, hi, hz0, hz1, hz2⟩ := info_parts hi
  obtain ⟨y6, w6, hAp, own6, g6⟩ := run_append_sl (P := P) (w := W) base t o.type e i z bytes ht hi hz0 hz1 hz2 hzs v n xs hown vx news hm h1 (by unfold maxLen; omega) (Nat.le_trans (Nat.mul_le_mul hsz hb) (by decide)) hbase
  exact step_append_run hg s x t t ho v vx hs hx y6 w6 hAp (h y6 w6 own6 ((Below.refl base W).grown g6 hbase (fun g hg' => (hown.lt g hg').1)))
theorem step_app_zeros {P : Program} {ops : Array Oper} {o : Oper} {a : Act} {W : World} {K : Act → World → Prop} {Q : Exit → Act → World → Prop} {E : Prop}
    (hg : o.guard = none) (s x : Operand) (t tn e : TypeId) (z : Value) (bytes : Nat) (k kn : IntKind) (ho : o.op = .call { callee := .builtin .append, args := #[s, x], argTypes := #[t, tn] })
    (ht : P.underlying t = some (.slice e)) (htn : P.underlying tn = some (.int kn)) (hi : (P.info? e).map (fun i => (i.zero, i.size, i.bytes)) = some (some z, 1, bytes)) (hzs : z.cells = #[z]) (hone : z.oneCell' = true) (hb : bytes ≤ 100)
    (base : Nat) (v : Value) (n m : Nat) (xs : List Value) (hs : a.eval s = v) (hx : a.eval x = .int k m) (hown : W.ownsRow base e 1 v n xs) (hsz : n + m ≤ 60000) (hbase : base ≤ W.heap.size)
    (h : ∀ v' w', w'.ownsRow base e 1 v' (n + m) (xs ++ List.replicate m z) → Below base W w' → K (a.put o.dst v') w') :
    if Region.wanted o (yielded ops a.tmps) = true then Oper.wp P o a W K Q else E := by
  obtain ⟨i, hi, hz0, hz1, hz2⟩ := info_parts hi
  obtain ⟨y6, w6, hAp, own6, g6⟩ := run_append_zeros (P := P) (w := W) base t tn o.type e i z bytes k kn ht htn hi hz0 hz1 hz2 hzs v n xs hown m hone (by omega) hb hbase
  exact step_append_run hg s x t tn ho v (.int k m) hs hx y6 w6 hAp (h y6 w6 own6 ((Below.refl base W).grown g6 hbase (fun g hg' => (hown.lt g hg').1)))
theorem shape_rp' {w : World} {v : Value} {r : Rp} (h : IsRp w v r) : ∃ bo nb bc ro nr rc, v = .agg #[.int .u8 r.fn, .int .u8 r.exc, .int .u16 r.addr, .int .u16 r.n, .slice bo nb bc, .slice ro nr rc] := by
  obtain ⟨_, bv, rv, rfl, h1, h2⟩ := h
  obtain ⟨bo, bc, rfl⟩ := h1.shape
  obtain ⟨ro, rc, rfl⟩ := h2.shape
  exact ⟨_, _, _, _, _, _, rfl⟩
theorem own_at {w : World} {base n : Nat} {e : TypeId} {v : Value} {xs : List Value} (h : w.ownsRow base e 1 v n xs) (h0 : 0 < n) : ∃ g c, v = .slice (some ⟨g, 0, none⟩) n c ∧ n ≤ c ∧ base ≤ g ∧ Lies w g 0 xs := by
  rcases h.2 with ⟨_, h⟩ | ⟨g, cap, cur, hv, hb, _, hc, _⟩
  · omega
  · refine ⟨g, cap, hv, hc, hb, ?_⟩
    intro j u hj
    have := h.cells (g := g) (by rw [hv]; rfl) j u hj
    rw [Addr.add_lit] at this
    exact this
theorem sl_first {W : World} {g c n : Nat} {xs : List Value} (h : Lies W g 0 xs) (hn : n ≤ xs.length) (hc : n ≤ c) : Sl W (.slice (some ⟨g, 0, none⟩) n c) (xs.take n) := by
  have hl : (xs.take n).length = n := by rw [List.length_take]; omega
  refine Or.inr ⟨g, 0, c, by rw [hl], by rw [hl]; exact hc, ?_⟩
  intro j u hj
  refine h j u ?_
  have hj' : j < n := by
    have := (List.getElem?_eq_some_iff.1 hj).1
    omega
  rw [List.getElem?_take, if_pos hj'] at hj
  exact hj
theorem cut_bls (l : List Bool) (n : Nat) : ([] ++ bls l ++ List.replicate n (Value.bool false)).take n = bls ((l ++ List.replicate n false).take n) := by
  unfold bls
  rw [List.map_take, List.map_append, List.map_replicate, List.nil_append]
theorem cut_u16s (l : List Nat) (n : Nat) : ([] ++ u16s l ++ List.replicate n (Value.int .u16 0)).take n = u16s ((l ++ List.replicate n 0).take n) := by
  unfold u16s
  rw [List.map_take, List.map_append, List.map_replicate, List.nil_append]
  rfl
theorem lies_far {W : World} {g g' o : Nat} {xs : List Value} {u : Value} (h : Lies W g 0 xs) (hg : g' ≠ g) : Lies (W.setCell ⟨g', o, none⟩ u) g 0 xs := by
  intro j x hj
  rw [World.cell?_setCell_far]
  · exact h j x hj
  · intro e
    exact hg e
set_option linter.unusedSimpArgs false in
set_option linter.unusedVariables false in
set_option maxRecDepth 100000 in
set_option maxHeartbeats 8000000 in
theorem match_heavy (a0 a1 a2 a3 na ac ne ec nb bc nr rc oth x : Nat) (a4 : List Bool) (a5 : List Nat) (ao eo bo ro : Option Addr) (w : World) (ha : IsRq w (.agg #[.int .u8 a0, .int .u16 a1, .int .u16 a2, .int .u16 a3, .slice ao na ac, .slice eo ne ec]) ⟨a0, a1, a2, a3, a4, a5⟩) (hh : ¬ (a4.length ≤ 2500 ∧ a5.length ≤ 200)) :
    Calls Try.prog 7 #[.agg #[.int .u8 a0, .int .u16 a1, .int .u16 a2, .int .u16 a3, .slice ao na ac, .slice eo ne ec], .slice bo nb bc, .slice ro nr rc, .int .u8 x, .int .u8 oth] w fun e w' => e = .returned (.bool true) ∧ Below w.heap.size w w' := by
  have HA := hid_as ha
  clear ha
  have hd := decide_eq_false hh
  clear hh
  go_enter Try.func7, Try.ntmps7
  go_wp2_with fail
  refine (known_law _).mono ?_
  rintro e w1 ⟨rfl, k1⟩
  obtain ⟨k1, B1, hs1⟩ := one_box k1
  have K1 : Hid (Below w.heap.size w w1) := k1
  have H1 := hid_as (HA.out.below k1)
  have B1 : Hid (Box w1 w.heap.size (.int .u8 a0) (.int .u16 a1) (.int .u16 a2) (.int .u16 a3) (.slice ao na ac) (.slice eo ne ec)) := B1
  obtain ⟨c0, c1, c2, c3, c4, c5⟩ := B1.out
  clear k1
  go_wp2_with fail
  refine (light_c H1.out).mono ?_
  rintro e w2 ⟨rfl, k2⟩
  have K2 : Hid (Below w.heap.size w w2) := below_and K1.out k2
  rw [hd]
  clear k2 c0 c1 c2 c3 c4 c5
  go_wp2
  go_ret
  exact ⟨rfl, K2.out⟩
set_option linter.unusedSimpArgs false in
set_option linter.unusedVariables false in
set_option maxRecDepth 100000 in
set_option maxHeartbeats 8000000 in
theorem match_long (a0 a1 a2 a3 na ac ne ec nb bc nr rc oth x : Nat) (a4 : List Bool) (a5 : List Nat) (ao eo bo ro : Option Addr) (w : World) (ha : IsRq w (.agg #[.int .u8 a0, .int .u16 a1, .int .u16 a2, .int .u16 a3, .slice ao na ac, .slice eo ne ec]) ⟨a0, a1, a2, a3, a4, a5⟩) (hl : a4.length ≤ 2500 ∧ a5.length ≤ 200) (hh : 2500 < nb) :
    Calls Try.prog 7 #[.agg #[.int .u8 a0, .int .u16 a1, .int .u16 a2, .int .u16 a3, .slice ao na ac, .slice eo ne ec], .slice bo nb bc, .slice ro nr rc, .int .u8 x, .int .u8 oth] w fun e w' => e = .returned (.bool true) ∧ Below w.heap.size w w' := by
  have HA := hid_as ha
  clear ha
  have hd := decide_eq_true hl
  have h4 : decide ((2500 : Int) < (nb : Int)) = true := decide_eq_true (by omega)
  clear hh hl
  go_enter Try.func7, Try.ntmps7
  go_wp2_with fail
  refine (known_law _).mono ?_
  rintro e w1 ⟨rfl, k1⟩
  obtain ⟨k1, B1, hs1⟩ := one_box k1
  have K1 : Hid (Below w.heap.size w w1) := k1
  have H1 := hid_as (HA.out.below k1)
  have B1 : Hid (Box w1 w.heap.size (.int .u8 a0) (.int .u16 a1) (.int .u16 a2) (.int .u16 a3) (.slice ao na ac) (.slice eo ne ec)) := B1
  obtain ⟨c0, c1, c2, c3, c4, c5⟩ := B1.out
  clear k1
  go_wp2_with fail
  refine (light_c H1.out).mono ?_
  rintro e w2 ⟨rfl, k2⟩
  have K2 : Hid (Below w.heap.size w w2) := below_and K1.out k2
  rw [hd]
  clear k2 c0 c1 c2 c3 c4 c5
  go_wp2
  go_ret
  exact ⟨rfl, K2.out⟩
set_option linter.unusedSimpArgs false in
set_option linter.unusedVariables false in
set_option maxRecDepth 100000 in
set_option maxHeartbeats 8000000 in
theorem match_wide (a0 a1 a2 a3 na ac ne ec nb bc nr rc oth x : Nat) (a4 : List Bool) (a5 : List Nat) (ao eo bo ro : Option Addr) (w : World) (ha : IsRq w (.agg #[.int .u8 a0, .int .u16 a1, .int .u16 a2, .int .u16 a3, .slice ao na ac, .slice eo ne ec]) ⟨a0, a1, a2, a3, a4, a5⟩) (hl : a4.length ≤ 2500 ∧ a5.length ≤ 200) (hh : nb ≤ 2500) (hi : 200 < nr) :
    Calls Try.prog 7 #[.agg #[.int .u8 a0, .int .u16 a1, .int .u16 a2, .int .u16 a3, .slice ao na ac, .slice eo ne ec], .slice bo nb bc, .slice ro nr rc, .int .u8 x, .int .u8 oth] w fun e w' => e = .returned (.bool true) ∧ Below w.heap.size w w' := by
  have HA := hid_as ha
  clear ha
  have hd := decide_eq_true hl
  have h4 : decide ((2500 : Int) < (nb : Int)) = false := decide_eq_false (by omega)
  have h5 : decide ((200 : Int) < (nr : Int)) = true := decide_eq_true (by omega)
  clear hh hl hi
  go_enter Try.func7, Try.ntmps7
  go_wp2_with fail
  refine (known_law _).mono ?_
  rintro e w1 ⟨rfl, k1⟩
  obtain ⟨k1, B1, hs1⟩ := one_box k1
  have K1 : Hid (Below w.heap.size w w1) := k1
  have H1 := hid_as (HA.out.below k1)
  have B1 : Hid (Box w1 w.heap.size (.int .u8 a0) (.int .u16 a1) (.int .u16 a2) (.int .u16 a3) (.slice ao na ac) (.slice eo ne ec)) := B1
  obtain ⟨c0, c1, c2, c3, c4, c5⟩ := B1.out
  clear k1
  go_wp2_with fail
  refine (light_c H1.out).mono ?_
  rintro e w2 ⟨rfl, k2⟩
  have K2 : Hid (Below w.heap.size w w2) := below_and K1.out k2
  rw [hd]
  clear k2 c0 c1 c2 c3 c4 c5
  go_wp2
  go_ret
  exact ⟨rfl, K2.out⟩
set_option linter.unusedSimpArgs false in
set_option linter.unusedVariables false in
set_option maxRecDepth 100000 in
set_option maxHeartbeats 8000000 in
theorem match_no (a0 a1 a2 a3 na ac ne ec nb bc nr rc oth x : Nat) (a4 : List Bool) (a5 : List Nat) (ao eo bo ro : Option Addr) (w : World) (ha : IsRq w (.agg #[.int .u8 a0, .int .u16 a1, .int .u16 a2, .int .u16 a3, .slice ao na ac, .slice eo ne ec]) ⟨a0, a1, a2, a3, a4, a5⟩) (hl : a4.length ≤ 2500 ∧ a5.length ≤ 200) (hh : nb ≤ 2500) (hi : nr ≤ 200) (fa : ¬ Rq.Fits ⟨a0, a1, a2, a3, a4, a5⟩) :
    Calls Try.prog 7 #[.agg #[.int .u8 a0, .int .u16 a1, .int .u16 a2, .int .u16 a3, .slice ao na ac, .slice eo ne ec], .slice bo nb bc, .slice ro nr rc, .int .u8 x, .int .u8 oth] w fun e w' => e = .returned (.bool true) ∧ Below w.heap.size w w' := by
  have HA := hid_as ha
  have hd := decide_eq_true hl
  have h4 : decide ((2500 : Int) < (nb : Int)) = false := decide_eq_false (by omega)
  have h5 : decide ((200 : Int) < (nr : Int)) = false := decide_eq_false (by omega)
  have HL := hid_as hl
  have FA := hid_as fa
  have HNB := hid_as hh
  have HNR := hid_as hi
  clear ha hh hl hi fa
  go_enter Try.func7, Try.ntmps7
  go_wp2_with fail
  refine (known_law _).mono ?_
  rintro e w1 ⟨rfl, k1⟩
  obtain ⟨k1, B1, hs1⟩ := one_box k1
  have K1 : Hid (Below w.heap.size w w1) := k1
  have H1 := hid_as (HA.out.below k1)
  have B1 : Hid (Box w1 w.heap.size (.int .u8 a0) (.int .u16 a1) (.int .u16 a2) (.int .u16 a3) (.slice ao na ac) (.slice eo ne ec)) := B1
  obtain ⟨c0, c1, c2, c3, c4, c5⟩ := B1.out
  clear k1
  go_wp2_with fail
  refine (light_c H1.out).mono ?_
  rintro e w2 ⟨rfl, k2⟩
  have K2 : Hid (Below w.heap.size w w2) := below_and K1.out k2
  rw [hd]
  have H2 := hid_as (HA.out.below K2.out)
  have hs2 : w.heap.size < w2.heap.size := Nat.lt_of_lt_of_le hs1 k2.size
  have B2 : Hid (Box w2 w.heap.size (.int .u8 a0) (.int .u16 a1) (.int .u16 a2) (.int .u16 a3) (.slice ao na ac) (.slice eo ne ec)) := B1.out.below k2 hs1
  clear k2 c0 c1 c2 c3 c4 c5 B1 H1
  obtain ⟨c0, c1, c2, c3, c4, c5⟩ := B2.out
  have RR := hid_as (ref_request H2.out HL.out.1 HL.out.2)
  go_wp2_with fail
  refine RR.out.mono ?_
  rintro e w3 ⟨k3, ⟨hf, _⟩ | ⟨_, rfl⟩⟩
  · exact absurd hf FA.out
  have K3 : Hid (Below w.heap.size w w3) := below_and K2.out k3
  clear k3 c0 c1 c2 c3 c4 c5 B2 H2 RR
  go_wp2
  go_ret
  exact ⟨rfl, K3.out⟩
end Go.Proofs.Ytehbbkdiekgpbaa
