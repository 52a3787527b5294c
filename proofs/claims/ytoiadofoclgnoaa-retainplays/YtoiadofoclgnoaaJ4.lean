/- The walk of look (stage 9). -/
import Derived.Test.YtoiadofoclgnoaaJ3
namespace Go.Proofs.Ytoiadofoclgnoaa
open Go.RowKit
open Pdu
/-- What the blocks of the slots hold. -/
def Rs (s : SS) (i : Nat) : Rc := unp (s.row i)
def Bg (s : SS) : Bool := bgn (s.row 1) || bgn (s.row 2) || bgn (s.row 3)
def Rk (s : SS) (k i : Nat) : Rc := if i < k then Rs s i else r0
def bgk (s : SS) (k : Nat) : Bool := (decide (1 < k) && bgn (s.row 1)) || (decide (2 < k) && bgn (s.row 2)) || (decide (3 < k) && bgn (s.row 3))
def upd {α : Type} (f : Nat → α) (k : Nat) (x : α) : Nat → α := fun i => if i = k then x else f i
theorem Rk_step (s : SS) (k : Nat) : Rk s (k + 1) = upd (Rk s k) k (Rs s k) := by
  funext i
  unfold Rk upd
  by_cases h : i = k
  · rw [if_pos (by omega), if_pos h, h]
  · rw [if_neg h]
    by_cases h2 : i < k
    · rw [if_pos (by omega)]
      exact (if_pos h2).symm
    · rw [if_neg (by omega)]
      exact (if_neg h2).symm
theorem bgk_step {s : SS} {k : Nat} (hk : k < 4) : bgk s (k + 1) = (bgk s k || (decide (0 < k) && bgn (s.row k))) := by
  have hc : k = 0 ∨ k = 1 ∨ k = 2 ∨ k = 3 := by omega
  rcases hc with rfl | rfl | rfl | rfl <;> simp [bgk]
theorem own_set {w : World} {gv base n k : Nat} {v x : Value} {vs : List Value} {cs : Array Value} (h : w.ownsRow base 2 1 v n vs) (hg : w.heap[gv]? = some (.cells cs 64 (0, 0))) : (w.setCell ⟨gv, k, none⟩ x).ownsRow base 2 1 v n vs := by
  refine own_grown h ((Turn.refl gv w).set k x) ?_
  intro g' cs' fl e q
  obtain rfl : gv = g' := by simpa using e
  rw [hg] at q
  simp at q
theorem Vw.lay {w : World} {gv base k : Nat} {R : Nat → Rc} {V : Nat → Value} {bg : Bool} (h : Vw w gv base R V bg) (hk : k < 4) {r : Rc} {v : Value} (hv : w.ownsRow base 2 1 v r.l.length (i64s r.l)) : Vw (((w.setCell ⟨gv, k * 3, none⟩ (.int .u64 (r.t : Int))).setCell ⟨gv, k * 3 + 1, none⟩ (.int .u64 (r.s : Int))).setCell ⟨gv, k * 3 + 2, none⟩ v) gv base (upd R k r) (upd V k v) bg := by
  have b1 := set_row (k := k * 3) h.box (.int .u64 (r.t : Int))
  have b2 := set_row (k := k * 3 + 1) b1 (.int .u64 (r.s : Int))
  have b3 := set_row (k := k * 3 + 2) b2 v
  refine ⟨?_, fun i hi => ?_⟩
  · rw [b3]
    have hc : k = 0 ∨ k = 1 ∨ k = 2 ∨ k = 3 := by omega
    rcases hc with rfl | rfl | rfl | rfl <;> rfl
  · refine own_set (own_set (own_set ?_ h.box) b1) b2
    unfold upd
    by_cases e : i = k
    · rw [if_pos e, if_pos e]
      exact hv
    · rw [if_neg e, if_neg e]
      exact h.own i hi
theorem Vw.setBg {w : World} {gv base : Nat} {R : Nat → Rc} {V : Nat → Value} {bg : Bool} (h : Vw w gv base R V bg) (b : Bool) : Vw (w.setCell ⟨gv, 12, none⟩ (.bool b)) gv base R V b := by
  refine ⟨?_, fun i hi => own_set (h.own i hi) h.box⟩
  rw [set_row h.box]
  rfl
theorem Vw.cBg {w : World} {gv base : Nat} {R : Nat → Rc} {V : Nat → Value} {bg : Bool} (h : Vw w gv base R V bg) : w.cell? ⟨gv, 12, none⟩ = some (.bool bg) := cell_row h.box rfl
def zv : List Value := [.int .u64 0, .int .u64 0, .slice none 0 0, .int .u64 0, .int .u64 0, .slice none 0 0, .int .u64 0, .int .u64 0, .slice none 0 0, .int .u64 0, .int .u64 0, .slice none 0 0, .bool false]
/-- While blocks are looked at. -/
structure LkR (w wr : World) (gv gj g h : Nat) (J : JS) (s : SS) (k : Nat) (V : Nat → Value) : Prop where
  jr : Jr wr gj g h J s
  vw : Vw wr gv w.heap.size (Rk s k) V (bgk s k)
  res : wr.heap[w.heap.size]? = some (.cells zv.toArray 64 (0, 0))
  kb : Below w.heap.size w wr
  gl : w.heap.size < gv
  jl : gj < w.heap.size
  g1 : g < w.heap.size
  h1 : h < w.heap.size
theorem LkR.below {w wr u : World} {gv gj g h : Nat} {J : JS} {s : SS} {k : Nat} {V : Nat → Value} (q : LkR w wr gv gj g h J s k V) (b : Below wr.heap.size wr u) : LkR w u gv gj g h J s k V := ⟨q.jr.below b, q.vw.below b, (b.block _ (Array.getElem?_eq_some_iff.1 q.res).1).trans q.res, below_and q.kb b, q.gl, q.jl, q.g1, q.h1⟩
theorem Jr.turn {w u : World} {gv gj g h : Nat} {J : JS} {s : SS} (q : Jr w gj g h J s) (t : Turn gv w u) (h1 : gj ≠ gv) (h2 : g ≠ gv) (h3 : h ≠ gv) : Jr u gj g h J s := ⟨q.st.heap (t.block _ q.st.lt (fun e => h2 (by simpa using e))) (t.block _ q.st.lth (fun e => h3 (by simpa using e))), ⟨(t.block _ q.jn.lt (fun e => h1 (by simpa using e))).trans q.jn.box⟩, q.n1, q.n2, q.fit⟩
/-- A block is in, but not yet whether it was begun. -/
structure LkM (w wr : World) (gv gj g h : Nat) (J : JS) (s : SS) (k : Nat) (V : Nat → Value) : Prop where
  jr : Jr wr gj g h J s
  vw : Vw wr gv w.heap.size (Rk s (k + 1)) V (bgk s k)
  res : wr.heap[w.heap.size]? = some (.cells zv.toArray 64 (0, 0))
  kb : Below w.heap.size w wr
  gl : w.heap.size < gv
  jl : gj < w.heap.size
  g1 : g < w.heap.size
  h1 : h < w.heap.size
theorem LkM.below {w wr u : World} {gv gj g h : Nat} {J : JS} {s : SS} {k : Nat} {V : Nat → Value} (q : LkM w wr gv gj g h J s k V) (b : Below wr.heap.size wr u) : LkM w u gv gj g h J s k V := ⟨q.jr.below b, q.vw.below b, (b.block _ (Array.getElem?_eq_some_iff.1 q.res).1).trans q.res, below_and q.kb b, q.gl, q.jl, q.g1, q.h1⟩
theorem LkR.mid {w wr : World} {gv gj g h : Nat} {J : JS} {s : SS} {k : Nat} {V : Nat → Value} (q : LkR w wr gv gj g h J s k V) (hk : k < 4) {v : Value} (hv : wr.ownsRow w.heap.size 2 1 v (Rs s k).l.length (i64s (Rs s k).l)) :
    LkM w (((wr.setCell ⟨gv, k * 3, none⟩ (.int .u64 ((Rs s k).t : Int))).setCell ⟨gv, k * 3 + 1, none⟩ (.int .u64 ((Rs s k).s : Int))).setCell ⟨gv, k * 3 + 2, none⟩ v) gv gj g h J s k (upd V k v) := by
  have t := (((Turn.refl gv wr).set (k * 3) (.int .u64 ((Rs s k).t : Int))).set (k * 3 + 1) (.int .u64 ((Rs s k).s : Int))).set (k * 3 + 2) v
  have h1 := q.gl
  have h2 := q.jl
  have h3 := q.g1
  have h4 := q.h1
  refine ⟨q.jr.turn t (by omega) (by omega) (by omega), ?_, kept_far t q.res (by omega), q.kb.trans (t.below (by omega) q.kb.size), q.gl, q.jl, q.g1, q.h1⟩
  rw [Rk_step]
  exact q.vw.lay hk hv
theorem LkM.fin1 {w wr : World} {gv gj g h : Nat} {J : JS} {s : SS} {k : Nat} {V : Nat → Value} (q : LkM w wr gv gj g h J s k V) {b : Bool} (hb : b = bgk s (k + 1)) : LkR w (wr.setCell ⟨gv, 12, none⟩ (.bool b)) gv gj g h J s (k + 1) V := by
  subst hb
  have t := (Turn.refl gv wr).set 12 (.bool (bgk s (k + 1)))
  have h1 := q.gl
  have h2 := q.jl
  have h3 := q.g1
  have h4 := q.h1
  exact ⟨q.jr.turn t (by omega) (by omega) (by omega), q.vw.setBg _, kept_far t q.res (by omega), q.kb.trans (t.below (by omega) q.kb.size), q.gl, q.jl, q.g1, q.h1⟩
def N13 (Z : World) (gr : Nat) (R : Nat → Rc) (v0 v1 v2 v3 : Value) (bg : Bool) : World := (((((((((((((Z.setCell ⟨gr, 0, none⟩ (.int .u64 ((R 0).t : Int))).setCell ⟨gr, 1, none⟩ (.int .u64 ((R 0).s : Int))).setCell ⟨gr, 2, none⟩ v0).setCell ⟨gr, 3, none⟩ (.int .u64 ((R 1).t : Int))).setCell ⟨gr, 4, none⟩ (.int .u64 ((R 1).s : Int))).setCell ⟨gr, 5, none⟩ v1).setCell ⟨gr, 6, none⟩ (.int .u64 ((R 2).t : Int))).setCell ⟨gr, 7, none⟩ (.int .u64 ((R 2).s : Int))).setCell ⟨gr, 8, none⟩ v2).setCell ⟨gr, 9, none⟩ (.int .u64 ((R 3).t : Int))).setCell ⟨gr, 10, none⟩ (.int .u64 ((R 3).s : Int))).setCell ⟨gr, 11, none⟩ v3).setCell ⟨gr, 12, none⟩ (.bool bg))
theorem N13_turn (Z : World) (gr : Nat) (R : Nat → Rc) (v0 v1 v2 v3 : Value) (bg : Bool) : Turn gr Z (N13 Z gr R v0 v1 v2 v3 bg) := ((((((((((((((Turn.refl gr Z).set 0 _).set 1 _).set 2 _).set 3 _).set 4 _).set 5 _).set 6 _).set 7 _).set 8 _).set 9 _).set 10 _).set 11 _).set 12 _)
theorem ScOf.onto {R R' : Nat → Rc} {sc : Nat} (h : ScOf R sc) (hR : ∀ i, i < 4 → R i = R' i) : ScOf R' sc := by
  rcases h with ⟨h, h0⟩ | ⟨j, hj, hs, ht, hm⟩
  · exact Or.inl ⟨h, fun i hi => by rw [← hR i hi]; exact h0 i hi⟩
  · exact Or.inr ⟨j, hj, by rw [← hR j hj]; exact hs, by rw [← hR j hj]; exact ht, fun i hi => by rw [← hR i hi, ← hR j hj]; exact hm i hi⟩
theorem vwc_end (s : SS) (V : Nat → Value) : vwc (Rk s 4) V (bgk s 4) = vwc (Rs s) V (Bg s) := by
  simp [vwc, Rk, bgk, Bg]
theorem look_end {w w1 W : World} {gv gj g h sc : Nat} {J : JS} {s : SS} {V : Nat → Value} (q : LkR w w1 gv gj g h J s 4 V) (hsc : ScOf (Rk s 4) sc) (t : Turn w.heap.size (w1.setCell ⟨gj, 5, none⟩ (.int .u64 (sc : Int))) W) :
    (∀ i, i < 4 → W.ownsRow w.heap.size 2 1 (V i) (Rs s i).l.length (i64s (Rs s i).l)) ∧ ScOf (Rs s) sc ∧ Jr W gj g h { J with scan := sc } s ∧ Only [gj] w W := by
  have RK : ∀ i, i < 4 → Rk s 4 i = Rs s i := fun i hi => if_pos hi
  have t1 := (Turn.refl gj w1).set 5 (.int .u64 (sc : Int))
  have hl := q.jl
  have hg := q.g1
  have hh := q.h1
  have hres := kept_far t1 q.res (by omega)
  have j1 : Jr (w1.setCell ⟨gj, 5, none⟩ (.int .u64 (sc : Int))) gj g h { J with scan := sc } s := ⟨q.jr.st.heap (t1.block _ q.jr.st.lt (fun e => q.jr.n1 (by simpa using e.symm))) (t1.block _ q.jr.st.lth (fun e => q.jr.n2 (by simpa using e.symm))), q.jr.jn.setScan sc, q.jr.n1, q.jr.n2, q.jr.fit⟩
  refine ⟨fun i hi => ?_, hsc.onto RK, j1.turn t (by omega) (by omega) (by omega), ⟨t.os.trans (t1.os.trans q.kb.os), t.tape.trans (t1.tape.trans q.kb.tape), t.output.trans (t1.output.trans q.kb.output), Nat.le_trans q.kb.size (Nat.le_trans t1.size t.size), fun j hj hne => ?_⟩⟩
  · have o := q.vw.own i hi
    rw [RK i hi] at o
    refine own_grown (own_grown o t1 ?_) t ?_
    · intro g' cs' fl e z
      obtain rfl : gj = g' := by simpa using e
      rw [q.jr.jn.box] at z
      simp at z
    · intro g' cs' fl e z
      obtain rfl : w.heap.size = g' := by simpa using e
      rw [hres] at z
      simp at z
  · have hs1 := q.kb.size
    refine (t.block j (by have := t1.size; omega) (fun e => ?_)).trans ((t1.block j (by omega) (fun e => ?_)).trans (q.kb.block j hj))
    · have : j = w.heap.size := by simpa using e
      omega
    · have : j = gj := by simpa using e
      exact hne (by simp [this])
set_option maxHeartbeats 1600000 in
theorem look_c {w : World} {gj g h : Nat} {J : JS} {s : SS} (q : Jr w gj g h J s) (hd : s.dead = false) :
    Calls Try.prog 29 #[.pointer (some ⟨gj, 0, none⟩)] w fun e w' => ∃ (V : Nat → Value) (sc : Nat), e = .returned (.tuple #[.agg (vwc (Rs s) V (Bg s)).toArray, .int .i64 0]) ∧ (∀ i, i < 4 → w'.ownsRow w.heap.size 2 1 (V i) (Rs s i).l.length (i64s (Rs s i).l)) ∧ ScOf (Rs s) sc ∧ Jr w' gj g h { J with scan := sc } s ∧ Only [gj] w w' := by
  have hf := fit_is q.fit
  have hz := q.st.ok.hi
  have Q := hid_as q
  have HD := hid_as hd
  clear q hd
  go_enter Try.func29, Try.ntmps29
  go_wp2
  obtain ⟨X, hX⟩ : ∃ X, X = (w.alloc (.cells zv.toArray 64)).alloc (.cells zv.toArray 64) := ⟨_, rfl⟩
  have L0 : Hid (LkR w X (w.heap.size + 1) gj g h J s 0 (fun _ => .slice none 0 0)) := by
    have k1 := below_new (Below.refl _ w) (.cells zv.toArray 64)
    have k2 := below_new k1 (.cells zv.toArray 64)
    rw [← hX] at k2
    have z1 : (w.alloc (.cells zv.toArray 64)).heap.size = w.heap.size + 1 := World.size_alloc ..
    refine ⟨Q.out.below k2, ⟨?_, fun i _ => World.ownsRow_nil ..⟩, ?_, k2, by omega, Q.out.jn.lt, Q.out.st.lt, Q.out.st.lth⟩
    · rw [hX, ← z1, heap_alloc_new]
      rfl
    · rw [hX]
      exact kept_alloc (heap_alloc_new w _)
  have hX2 : X = (w.alloc (.cells #[.int .u64 0, .int .u64 0, .slice none 0 0, .int .u64 0, .int .u64 0, .slice none 0 0, .int .u64 0, .int .u64 0, .slice none 0 0, .int .u64 0, .int .u64 0, .slice none 0 0, .bool false] 64)).alloc (.cells #[.int .u64 0, .int .u64 0, .slice none 0 0, .int .u64 0, .int .u64 0, .slice none 0 0, .int .u64 0, .int .u64 0, .slice none 0 0, .int .u64 0, .int .u64 0, .slice none 0 0, .bool false] 64) := hX
  rw [← hX2]
  clear hX hX2 Q
  generalize w.heap.size + 1 = gv at *
  go_loopw [9] (fun i wr => ∃ k : Nat, k ≤ 4 ∧ i = .int .i64 k ∧ ∃ V, LkR w wr gv gj g h J s k V) (fun i _ => 4 - (intOf i).toNat)
  case atStart => exact ⟨0, by omega, rfl, _, L0.out⟩
  case round =>
    obtain ⟨k, hk, rfl, V, HP⟩ := hrel
    have P := hid_as HP
    clear HP L0
    by_cases hk4 : k < 4
    · have hk2 : (k : Int) < 4 := by omega
      have hi2 : k < s.rows.length := by omega
      have he : s.err (k : Int) = 0 := by unfold SS.err; rw [HD.out, if_neg (by decide), if_neg (by omega)]
      have RD := hid_as (read_yes P.out.jr.st he hi2)
      have hrl := (P.out.jr.st.ok.row hi2).1
      have hrb := (P.out.jr.st.ok.row hi2).2
      have c0 := P.out.jr.jn.c0
      clear he
      go_wp2_with fail
      refine RD.out.mono ?_
      rintro e w1 ⟨v, rfl, o1, k1⟩
      have OLD : ∃ g2 c2, v = .slice (some ⟨g2, 0, none⟩) s.sz c2 ∧ s.sz ≤ c2 ∧ Lies w1 g2 0 (u8s (s.row k)) := by
        rcases own_sl o1 with ⟨h0, _⟩ | ⟨b, off, cap, e, hcap, hl⟩
        · have := congrArg List.length h0
          rw [u8s_len, hrl] at this
          simp at this
          omega
        · rcases o1.2 with ⟨e2, h0⟩ | ⟨g2, cap2, cur, e2, _⟩
          · omega
          · rw [e2] at e
            simp only [Value.slice.injEq, Option.some.injEq, Addr.mk.injEq] at e
            obtain ⟨⟨rfl, rfl, _⟩, _, rfl⟩ := e
            rw [u8s_len, hrl] at hcap
            exact ⟨_, _, e2, hcap, hl⟩
      obtain ⟨g2, c2, rfl, hcap, hold⟩ := OLD
      have P1 := hid_as (P.out.below k1)
      have UN := hid_as (unpack_c hold hrl.symm hcap (by omega) hz hrb)
      have HO := hid_as hold
      have hg2 : gv ≠ g2 := by
        have q1 := (o1.lt g2 rfl).1
        have q2 := (Array.getElem?_eq_some_iff.1 P.out.vw.box).1
        omega
      clear o1 k1 RD P c0 hold
      go_wp2_with fail
      refine UN.out.mono ?_
      rintro e w2 ⟨vl, rfl, ol, k2⟩
      have P2 := hid_as (P1.out.below k2)
      have HO2 : Hid (Lies w2 g2 0 (u8s (s.row k))) := HO.out.below k2
      have ol2 : w2.ownsRow w.heap.size 2 1 vl (Rs s k).l.length (i64s (Rs s k).l) := own_base ol P1.out.kb.size
      obtain ⟨ao, cc, hvl⟩ : ∃ ao cc, vl = .slice ao (Rs s k).l.length cc := by
        have := (own_sl ol2).shape
        rw [i64s_len] at this
        exact this
      subst hvl
      have PM := hid_as (P2.out.mid hk4 ol2)
      have d0 := (P2.out.vw.cells hk4).1
      have d1 := (P2.out.vw.cells hk4).2.1
      have d2 := (P2.out.vw.cells hk4).2.2
      have fz : ∀ j, w2.frozen? ⟨gv, j, none⟩ = false := fun j => frozen_row P2.out.vw.box
      have ht : (unp (s.row k)).t = (Rs s k).t := rfl
      have hs : (unp (s.row k)).s = (Rs s k).s := rfl
      rw [ht, hs]
      clear ol ol2 k2 UN P1 HO ht hs
      generalize hRs : Rs s k = r at *
      obtain ⟨sh0, sh1, hsh⟩ := P2.out.vw.shape hk4
      rw [hsh] at d2
      go_upto_region 9 with fail
      obtain ⟨Y, hY⟩ : ∃ Y, Y = ((w2.setCell ⟨gv, k * 3, none⟩ (.int .u64 (r.t : Int))).setCell ⟨gv, k * 3 + 1, none⟩ (.int .u64 (r.s : Int))).setCell ⟨gv, k * 3 + 2, none⟩ (.slice ao r.l.length cc) := ⟨_, rfl⟩
      have HO3 : Hid (Lies Y g2 0 (u8s (s.row k))) := by
        rw [hY]
        refine HO2.out.kept ?_
        have t := (((Turn.refl gv w2).set (k * 3) (.int .u64 (r.t : Int))).set (k * 3 + 1) (.int .u64 (r.s : Int))).set (k * 3 + 2) (.slice ao r.l.length cc)
        exact t.block g2 (lt_of_cell (HO2.out.u8 0 (by omega))) (fun e => hg2 (by simpa using e.symm))
      rw [← hY] at PM ⊢
      clear hY d0 d1 d2 fz HO2 P2 hsh
      have bS := bgk_step (s := s) hk4
      have e12 := PM.out.vw.cBg
      have f12 : Y.frozen? ⟨gv, 12, none⟩ = false := frozen_row PM.out.vw.box
      cases hbk : bgk s k with
      | true =>
        rw [hbk] at e12 bS
        have FD := hid_as (PM.out.fin1 (b := true) (by rw [bS]; rfl))
        clear bS
        go_wp2
        go_roundw
        case rel => exact ⟨k + 1, by omega, by go_num, _, FD.out⟩
        case measure => simp [intOf]; omega
      | false =>
        rw [hbk] at e12 bS
        by_cases hk0 : k = 0
        · have FD := hid_as (PM.out.fin1 (b := false) (by rw [bS, hk0]; rfl))
          subst hk0
          clear bS
          go_wp2
          go_roundw
          case rel => exact ⟨1, by omega, by go_num, _, FD.out⟩
          case measure => simp [intOf]
        · have hk3 : (0 : Int) < (k : Int) := by omega
          have hk5 : 0 < k := by omega
          have BE := hid_as (begun_c (c := c2) HO3.out hrl.symm (by omega) (by omega))
          have FD : Hid (∀ W, Below Y.heap.size Y W → LkR w (W.setCell ⟨gv, 12, none⟩ (.bool (bgn (s.row k)))) gv gj g h J s (k + 1) (upd V k (.slice ao r.l.length cc))) := fun W kW => (PM.out.below kW).fin1 (by rw [bS]; simp [hk5])
          have FC : Hid (∀ W, Below Y.heap.size Y W → W.cell? ⟨gv, 12, none⟩ = some (.bool false) ∧ W.frozen? ⟨gv, 12, none⟩ = false) := fun W kW => ⟨keep_cell kW e12, frozen_row (PM.out.below kW).vw.box⟩
          clear bS
          go_wp2_with fail
          refine BE.out.mono ?_
          rintro e w3 ⟨rfl, k3⟩
          have FE := hid_as (FD.out _ k3)
          obtain ⟨a12, b12⟩ := FC.out _ k3
          clear FD FC k3 BE e12 f12
          generalize bgn (s.row k) = bb at *
          go_wp2
          go_roundw
          case rel => exact ⟨k + 1, by omega, by go_num, _, FE.out⟩
          case measure => simp [intOf]; omega
    · obtain rfl : k = 4 := by omega
      have SV := hid_as (scanv_c P.out.vw)
      have RK : Hid (∀ i, i < 4 → Rk s 4 i = Rs s i) := fun i hi => if_pos hi
      go_wp2_with fail
      refine SV.out.mono ?_
      rintro e w1 ⟨⟨sc, rfl, hsc⟩, k1⟩
      have P1 := hid_as (P.out.below k1)
      have c5 := P1.out.jr.jn.c5
      have f5 := P1.out.jr.jn.free 5
      have HSC := hid_as hsc
      clear hsc k1 SV P
      go_upto_region 12 with fail
      obtain ⟨Z, hZ⟩ : ∃ Z, Z = w1.setCell ⟨gj, 5, none⟩ (.int .u64 (sc : Int)) := ⟨_, rfl⟩
      have tZ : Turn gj w1 Z := by rw [hZ]; exact (Turn.refl gj w1).set 5 _
      obtain ⟨o0, q0, h0⟩ := P1.out.vw.shape (j := 0) (by decide)
      obtain ⟨o1, q1, h1⟩ := P1.out.vw.shape (j := 1) (by decide)
      obtain ⟨o2, q2, h2⟩ := P1.out.vw.shape (j := 2) (by decide)
      obtain ⟨o3, q3, h3⟩ := P1.out.vw.shape (j := 3) (by decide)
      have RX : Hid (Z.heap[w.heap.size]? = some (.cells zv.toArray 64 (0, 0))) := kept_far tZ P1.out.res (by have := P1.out.jl; omega)
      have BX : Hid (Z.heap[gv]? = some (.cells (vwc (Rk s 4) V (bgk s 4)).toArray 64 (0, 0))) := kept_far tZ P1.out.vw.box (by have := P1.out.jl; have := P1.out.gl; omega)
      have FIN : Hid (∀ W, Turn w.heap.size Z W → (∀ i, i < 4 → W.ownsRow w.heap.size 2 1 (V i) (Rs s i).l.length (i64s (Rs s i).l)) ∧ ScOf (Rs s) sc ∧ Jr W gj g h { J with scan := sc } s ∧ Only [gj] w W) := fun W t => look_end P1.out HSC.out (by rw [← hZ]; exact t)
      have HV := hid_as (vwc_end s V)
      have VV : vwc (Rk s 4) V (bgk s 4) = vwc (Rk s 4) V (bgk s 4) := rfl
      conv at VV => rhs; unfold vwc; rw [h0, h1, h2, h3]
      rw [VV] at HV BX
      rw [← hZ]
      clear hZ tZ P1 HSC c5 f5 VV h0 h1 h2 h3
      generalize (Rk s 4 0).t = t0 at *
      generalize (Rk s 4 0).s = s0 at *
      generalize (Rk s 4 0).l.length = n0 at *
      generalize (Rk s 4 1).t = t1 at *
      generalize (Rk s 4 1).s = s1 at *
      generalize (Rk s 4 1).l.length = n1 at *
      generalize (Rk s 4 2).t = t2 at *
      generalize (Rk s 4 2).s = s2 at *
      generalize (Rk s 4 2).l.length = n2 at *
      generalize (Rk s 4 3).t = t3 at *
      generalize (Rk s 4 3).s = s3 at *
      generalize (Rk s 4 3).l.length = n3 at *
      generalize bgk s 4 = bg at *
      have a0 : Z.cell? ⟨gv, 0, none⟩ = some (.int .u64 (t0 : Int)) := cell_row BX.out rfl
      have r0 : Z.cell? ⟨w.heap.size, 0, none⟩ = some (.int .u64 0) := cell_row RX.out rfl
      have a1 : Z.cell? ⟨gv, 1, none⟩ = some (.int .u64 (s0 : Int)) := cell_row BX.out rfl
      have r1 : Z.cell? ⟨w.heap.size, 1, none⟩ = some (.int .u64 0) := cell_row RX.out rfl
      have a2 : Z.cell? ⟨gv, 2, none⟩ = some (.slice o0 n0 q0) := cell_row BX.out rfl
      have r2 : Z.cell? ⟨w.heap.size, 2, none⟩ = some (.slice none 0 0) := cell_row RX.out rfl
      have a3 : Z.cell? ⟨gv, 3, none⟩ = some (.int .u64 (t1 : Int)) := cell_row BX.out rfl
      have r3 : Z.cell? ⟨w.heap.size, 3, none⟩ = some (.int .u64 0) := cell_row RX.out rfl
      have a4 : Z.cell? ⟨gv, 4, none⟩ = some (.int .u64 (s1 : Int)) := cell_row BX.out rfl
      have r4 : Z.cell? ⟨w.heap.size, 4, none⟩ = some (.int .u64 0) := cell_row RX.out rfl
      have a5 : Z.cell? ⟨gv, 5, none⟩ = some (.slice o1 n1 q1) := cell_row BX.out rfl
      have r5 : Z.cell? ⟨w.heap.size, 5, none⟩ = some (.slice none 0 0) := cell_row RX.out rfl
      have a6 : Z.cell? ⟨gv, 6, none⟩ = some (.int .u64 (t2 : Int)) := cell_row BX.out rfl
      have r6 : Z.cell? ⟨w.heap.size, 6, none⟩ = some (.int .u64 0) := cell_row RX.out rfl
      have a7 : Z.cell? ⟨gv, 7, none⟩ = some (.int .u64 (s2 : Int)) := cell_row BX.out rfl
      have r7 : Z.cell? ⟨w.heap.size, 7, none⟩ = some (.int .u64 0) := cell_row RX.out rfl
      have a8 : Z.cell? ⟨gv, 8, none⟩ = some (.slice o2 n2 q2) := cell_row BX.out rfl
      have r8 : Z.cell? ⟨w.heap.size, 8, none⟩ = some (.slice none 0 0) := cell_row RX.out rfl
      have a9 : Z.cell? ⟨gv, 9, none⟩ = some (.int .u64 (t3 : Int)) := cell_row BX.out rfl
      have r9 : Z.cell? ⟨w.heap.size, 9, none⟩ = some (.int .u64 0) := cell_row RX.out rfl
      have a10 : Z.cell? ⟨gv, 10, none⟩ = some (.int .u64 (s3 : Int)) := cell_row BX.out rfl
      have r10 : Z.cell? ⟨w.heap.size, 10, none⟩ = some (.int .u64 0) := cell_row RX.out rfl
      have a11 : Z.cell? ⟨gv, 11, none⟩ = some (.slice o3 n3 q3) := cell_row BX.out rfl
      have r11 : Z.cell? ⟨w.heap.size, 11, none⟩ = some (.slice none 0 0) := cell_row RX.out rfl
      have a12 : Z.cell? ⟨gv, 12, none⟩ = some (.bool bg) := cell_row BX.out rfl
      have r12 : Z.cell? ⟨w.heap.size, 12, none⟩ = some (.bool false) := cell_row RX.out rfl
      have yf : ∀ j, Z.frozen? ⟨w.heap.size, j, none⟩ = false := fun j => frozen_row RX.out
      have TF : Hid (Turn w.heap.size Z (((((((((((((Z.setCell ⟨w.heap.size, 0, none⟩ (.int .u64 (t0 : Int))).setCell ⟨w.heap.size, 1, none⟩ (.int .u64 (s0 : Int))).setCell ⟨w.heap.size, 2, none⟩ (.slice o0 n0 q0)).setCell ⟨w.heap.size, 3, none⟩ (.int .u64 (t1 : Int))).setCell ⟨w.heap.size, 4, none⟩ (.int .u64 (s1 : Int))).setCell ⟨w.heap.size, 5, none⟩ (.slice o1 n1 q1)).setCell ⟨w.heap.size, 6, none⟩ (.int .u64 (t2 : Int))).setCell ⟨w.heap.size, 7, none⟩ (.int .u64 (s2 : Int))).setCell ⟨w.heap.size, 8, none⟩ (.slice o2 n2 q2)).setCell ⟨w.heap.size, 9, none⟩ (.int .u64 (t3 : Int))).setCell ⟨w.heap.size, 10, none⟩ (.int .u64 (s3 : Int))).setCell ⟨w.heap.size, 11, none⟩ (.slice o3 n3 q3)).setCell ⟨w.heap.size, 12, none⟩ (.bool bg))) := ((((((((((((((Turn.refl w.heap.size Z).set 0 _).set 1 _).set 2 _).set 3 _).set 4 _).set 5 _).set 6 _).set 7 _).set 8 _).set 9 _).set 10 _).set 11 _).set 12 _)
      have EV : Hid (Value.agg #[.int .u64 (t0 : Int), .int .u64 (s0 : Int), .slice o0 n0 q0, .int .u64 (t1 : Int), .int .u64 (s1 : Int), .slice o1 n1 q1, .int .u64 (t2 : Int), .int .u64 (s2 : Int), .slice o2 n2 q2, .int .u64 (t3 : Int), .int .u64 (s3 : Int), .slice o3 n3 q3, .bool bg] = .agg (vwc (Rs s) V (Bg s)).toArray) := by
        show _ = _
        rw [← HV.out]
      clear RX BX HV
      go_wp2
      refine bodyPost_ret (v := .tuple #[.agg #[.int .u64 (t0 : Int), .int .u64 (s0 : Int), .slice o0 n0 q0, .int .u64 (t1 : Int), .int .u64 (s1 : Int), .slice o1 n1 q1, .int .u64 (t2 : Int), .int .u64 (s2 : Int), .slice o2 n2 q2, .int .u64 (t3 : Int), .int .u64 (s3 : Int), .slice o3 n3 q3, .bool bg], .int .i64 0]) (by simp [results, Try.results29, go_sem, r0, r1, r2, r3, r4, r5, r6, r7, r8, r9, r10, r11, r12]) rfl ⟨V, sc, ?_, FIN.out _ TF.out⟩
      rw [EV.out]
end Go.Proofs.Ytoiadofoclgnoaa
