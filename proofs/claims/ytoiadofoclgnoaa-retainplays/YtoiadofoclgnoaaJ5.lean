/- The walk of settle (stage 9). -/
import Derived.Test.YtoiadofoclgnoaaM5
namespace Go.Proofs.Ytoiadofoclgnoaa
open Go.RowKit
open Pdu
theorem Only.stp {S T : List Nat} {w w1 w2 : World} (h : Only S w w1) (k : Only T w1 w2) (hT : ∀ j ∈ T, j ∈ S ∨ w.heap.size ≤ j) : Only S w w2 :=
  ⟨k.os.trans h.os, k.tape.trans h.tape, k.output.trans h.output, Nat.le_trans h.size k.size, fun j hj hne => (k.block j (Nat.lt_of_lt_of_le hj h.size) (fun q => (hT j q).elim hne (by omega))).trans (h.block j hj hne)⟩
theorem Jr.lts {w : World} {gj g h : Nat} {J : JS} {s : SS} (q : Jr w gj g h J s) : gj < w.heap.size ∧ g < w.heap.size ∧ h < w.heap.size := ⟨q.jn.lt, q.st.lt, q.st.lth⟩
structure SetOut (w w' : World) (gj g h : Nat) (J J' : JS) (s s' : SS) (n T en : Nat) (o : Last) : Prop where
  jr : Jr w' gj g h J' s'
  only : Only [gj, g, h] w w'
  jn : J'.n = J.n
  laid : J'.laid = J.laid
  sz : s'.sz = s.sz
  sn : s'.n ≤ s.n + 1
  kp : en = 0 → Kp s s'
  how : (en = 0 ∧ s'.dead = false ∧ Sd s' n T J'.slot J'.turn o ∧ (s.lft < 0 → s'.lft < 0)) ∨ (en = 82 ∧ s'.dead = true ∧ Ivr s' n T o ∧ s.lft = 0)
def SetPost (w : World) (gj g h : Nat) (J : JS) (s : SS) (n T : Nat) (o : Last) (e : Ending) (w' : World) : Prop := ∃ (s' : SS) (J' : JS) (en : Nat), e = .returned (.int .i64 (en : Int)) ∧ SetOut w w' gj g h J J' s s' n T en o
set_option maxHeartbeats 400000 in
theorem settle_set {w : World} {gj g h n T : Nat} {J : JS} {s : SS} {o : Last} (q : Jr w gj g h J s) (hd : s.dead = false) (hset : J.set = true) (hsd : Sd s n T J.slot J.turn o) :
    Calls Try.prog 32 #[.pointer (some ⟨gj, 0, none⟩)] w fun e w' => SetPost w gj g h J s n T o e w' := by
  have c2 := q.jn.c2
  rw [hset] at c2
  have F : Hid (SetOut w w gj g h J J s s n T 0 o) := ⟨q, Only.refl _ _, rfl, rfl, rfl, by omega, fun _ => Kp.refl _, Or.inl ⟨rfl, hd, hsd, id⟩⟩
  clear q hsd hd
  go_enter Try.func32, Try.ntmps32
  go_wp2
  go_ret
  exact ⟨_, _, 0, rfl, F.out⟩
/-- The three fields that settle sets. -/
theorem Jr.sets {w : World} {gj g h : Nat} {J : JS} {s : SS} (q : Jr w gj g h J s) (slot turn : Nat) : Jr (((w.setCell ⟨gj, 2, none⟩ (.bool true)).setCell ⟨gj, 3, none⟩ (.int .i64 (slot : Int))).setCell ⟨gj, 4, none⟩ (.int .u64 (turn : Int))) gj g h { J with set := true, slot := slot, turn := turn } s ∧ Turn gj w (((w.setCell ⟨gj, 2, none⟩ (.bool true)).setCell ⟨gj, 3, none⟩ (.int .i64 (slot : Int))).setCell ⟨gj, 4, none⟩ (.int .u64 (turn : Int))) := by
  have t := (((Turn.refl gj w).set 2 (.bool true)).set 3 (.int .i64 (slot : Int))).set 4 (.int .u64 (turn : Int))
  exact ⟨⟨q.st.heap (t.block _ q.st.lt (fun e => q.n1 (by simpa using e.symm))) (t.block _ q.st.lth (fun e => q.n2 (by simpa using e.symm))), ((q.jn.setSet true).setSlot slot).setTurn turn, q.n1, q.n2, q.fit⟩, t⟩
theorem view_new {w1 : World} {base : Nat} {R : Nat → Rc} {V : Nat → Value} {bg : Bool} (ov : ∀ i, i < 4 → w1.ownsRow base 2 1 (V i) (R i).l.length (i64s (R i).l)) : Vw (w1.alloc (.cells (vwc R V bg).toArray 64)) w1.heap.size base R V bg :=
  ⟨heap_alloc_new w1 _, fun i hi => own64_below (ov i hi) (below_new (Below.refl _ _) _)⟩
set_option maxHeartbeats 800000 in
theorem settle_none {w : World} {gj g h n T : Nat} {J : JS} {s : SS} (q : Jr w gj g h J s) (hd : s.dead = false) (hset : J.set = false) (hn : J.n = n) (hn2 : n ≤ 1000) (hinv : InvN s) :
    Calls Try.prog 32 #[.pointer (some ⟨gj, 0, none⟩)] w fun e w' => SetPost w gj g h J s n T none e w' := by
  have c2 := q.jn.c2
  rw [hset] at c2
  have LK := hid_as (look_c q hd)
  have Q := hid_as q
  have HD := hid_as hd
  have HI := hid_as hinv
  have HN := hid_as hn
  clear q hinv hd
  go_enter Try.func32, Try.ntmps32
  go_wp2_with fail
  refine LK.out.mono ?_
  rintro e w1 ⟨V, sc, rfl, ov, _, q1, o1⟩
  obtain ⟨o0, q0, h0⟩ : ∃ ao c, V 0 = .slice ao (Rs s 0).l.length c := by have := (own_sl (ov 0 (by decide))).shape; rw [i64s_len] at this; exact this
  obtain ⟨p1, q1', h1⟩ : ∃ ao c, V 1 = .slice ao (Rs s 1).l.length c := by have := (own_sl (ov 1 (by decide))).shape; rw [i64s_len] at this; exact this
  obtain ⟨p2, q2', h2⟩ : ∃ ao c, V 2 = .slice ao (Rs s 2).l.length c := by have := (own_sl (ov 2 (by decide))).shape; rw [i64s_len] at this; exact this
  obtain ⟨p3, q3', h3⟩ : ∃ ao c, V 3 = .slice ao (Rs s 3).l.length c := by have := (own_sl (ov 3 (by decide))).shape; rw [i64s_len] at this; exact this
  obtain ⟨X, hX⟩ : ∃ X, X = w1.alloc (.cells (vwc (Rs s) V (Bg s)).toArray 64) := ⟨_, rfl⟩
  have VX : Hid (Vw X w1.heap.size w.heap.size (Rs s) V (Bg s)) := by rw [hX]; exact view_new ov
  have KX : Hid (Below w1.heap.size w1 X) := by rw [hX]; exact below_new (Below.refl _ _) _
  have Q1 := hid_as (q1.below KX.out)
  have O1 : Hid (Only [gj] w X) := o1.trans (Only.ofBelow KX.out)
  have G1 : Hid (w.heap.size ≤ w1.heap.size) := o1.size
  have VV : vwc (Rs s) V (Bg s) = vwc (Rs s) V (Bg s) := rfl
  conv at VV => rhs; unfold vwc; rw [h0, h1, h2, h3]
  rw [VV] at hX
  rw [VV]
  clear LK q1 o1 c2 VV ov
  go_upto_region 4 with fail
  rw [← hX]
  clear hX
  generalize w1.heap.size = gv at *
  have c1 := Q1.out.jn.c1
  rw [HN.out] at c1
  have N1 := hid_as (newest_c VX.out n (by omega) (by omega))
  clear h0 h1 h2 h3
  go_wp2_with fail
  refine N1.out.mono ?_
  rintro e w2 ⟨⟨a, rfl, hnw⟩, k2⟩
  obtain rfl := HI.out.nw hnw
  have V2 := hid_as (VX.out.below k2)
  have N2 := hid_as (newest_c V2.out (-1) (by omega) (by omega))
  have Q2 := hid_as (Q1.out.below k2)
  have O2 : Hid (Only [gj] w w2) := O1.out.trans (Only.ofBelow k2)
  clear k2 N1 hnw Q1 O1 VX c1
  go_wp2_with fail
  refine N2.out.mono ?_
  rintro e w3 ⟨⟨a, rfl, hnw⟩, k3⟩
  obtain rfl := HI.out.nw hnw
  have Q3 := hid_as (Q2.out.below k3)
  have O3 : Hid (Only [gj] w w3) := O2.out.trans (Only.ofBelow k3)
  have c2 := Q3.out.jn.c2
  have c3 := Q3.out.jn.c3
  have c4 := Q3.out.jn.c4
  have fz := Q3.out.jn.free
  have F := hid_as (Q3.out.sets 1 0)
  clear k3 N2 hnw Q2 O2 V2
  go_wp2
  go_ret
  refine ⟨s, _, 0, rfl, F.out.1, (O3.out.mono (by simp)).trans (Only.ofTurn F.out.2 (by simp)), rfl, rfl, rfl, by omega, fun _ => Kp.refl _, Or.inl ⟨rfl, HD.out, ⟨HI.out, rfl, rfl⟩, id⟩⟩
/-- What is common to the ways on from a slot that is whole. -/
def xo (j : Nat) : Nat := if j % 2 = 0 then j + 1 else j - 1
theorem xo_is {j : Nat} (hj : j < 4) : bits .xor .i64 (j : Int) 1 = (xo j : Int) ∧ xo j < 4 ∧ xo j ≠ j ∧ (xo j = 2 * (j / 2) ∧ j = 2 * (j / 2) + 1 ∨ xo j = 2 * (j / 2) + 1 ∧ j = 2 * (j / 2)) := by
  have hc : j = 0 ∨ j = 1 ∨ j = 2 ∨ j = 3 := by omega
  rcases hc with rfl | rfl | rfl | rfl <;> exact ⟨by decide, by decide, by decide, by decide⟩
/-- Behind pack, behind write. -/
structure PkF (w w3 : World) (gj g h gv gb : Nat) (J : JS) (s : SS) (V : Nat → Value) (r : Rc) : Prop where
  row : Row w3 gb (pk s.sz r.t r.s r.l)
  jr : Jr w3 gj g h J s
  vw : Vw w3 gv w.heap.size (Rs s) V (Bg s)
  only : Only [gj] w w3
  gb0 : w.heap.size ≤ gb
  gbv : gb ≠ gv
  gv0 : w.heap.size ≤ gv
structure WrF (w w4 : World) (gj g h gv : Nat) (J : JS) (s s' : SS) (V : Nat → Value) (r : Rc) (o en : Nat) : Prop where
  wd : Wd s s' o r en
  jr : Jr w4 gj g h J s'
  vw : Vw w4 gv w.heap.size (Rs s) V (Bg s)
  only : Only [gj, g, h] w w4
theorem PkF.write_c {w w3 : World} {gj g h gv gb o : Nat} {J : JS} {s : SS} {V : Nat → Value} {r : Rc} (q : PkF w w3 gj g h gv gb J s V r) (hlt : gj < w.heap.size ∧ g < w.heap.size ∧ h < w.heap.size) (hd : s.dead = false) (ho : o < 4) (hn9 : s.n ≤ 900000) (hI : Ints r.l) (hl : 36 + 8 * r.l.length ≤ s.sz) (ht : r.t < 18446744073709551616) (hs : r.s < 18446744073709551616) :
    Calls Try.prog 34 #[.pointer (some ⟨gj, 0, none⟩), .int .i64 (o : Int), .slice (some ⟨gb, 0, none⟩) s.sz s.sz] w3 fun e w4 => ∃ (s' : SS) (en : Nat), e = .returned (.int .i64 (en : Int)) ∧ WrF w w4 gj g h gv J s s' V r o en := by
  have hb := q.gb0
  refine (writej_c q.jr hd ho hn9 q.row (pk_len hl) (pk_bytes hl) (by omega) (by omega) (by omega)).mono ?_
  rintro e w4 ⟨s', en, p', rfl, hw, j4, _, o4⟩
  have hv0 := q.gv0
  have hgv : gv ∉ [g, h, gb] := by
    intro hm
    simp only [List.mem_cons, List.not_mem_nil, or_false] at hm
    rcases hm with e | e | e
    · omega
    · omega
    · exact q.gbv e.symm
  refine ⟨s', en, rfl, wrt_rec q.jr.st.ok q.jr.fit hd ho hI hl ht hs (fun _ => rfl) hw, j4, ⟨(o4.block gv (Array.getElem?_eq_some_iff.1 q.vw.box).1 hgv).trans q.vw.box, fun i hi => ?_⟩, (q.only.mono (by simp)).stp o4 ?_⟩
  · have own := q.vw.own i hi
    refine ⟨own.1, ?_⟩
    rcases own.2 with h' | ⟨gg, cap, cur, e, hb', hg, rr⟩
    · exact Or.inl h'
    · refine Or.inr ⟨gg, cap, cur, e, hb', (o4.block gg (own.lt gg (by rw [e]; rfl)).2 ?_).trans hg, rr⟩
      intro hm
      simp only [List.mem_cons, List.not_mem_nil, or_false] at hm
      rcases hm with e | e | e
      · omega
      · omega
      · subst e
        have z : w3.heap[gg]? = _ := q.row
        rw [hg] at z
        simp at z
  · intro k hk
    simp only [List.mem_cons, List.not_mem_nil, or_false] at hk ⊢
    rcases hk with e | e | e
    · exact Or.inl (Or.inr (Or.inl e))
    · exact Or.inl (Or.inr (Or.inr e))
    · exact Or.inr (by omega)
set_option maxHeartbeats 1600000 in
theorem settle_some {w : World} {gj g h n T : Nat} {J : JS} {s : SS} {r : Rc} (q : Jr w gj g h J s) (hd : s.dead = false) (hset : J.set = false) (hn : J.n = n) (hn2 : n ≤ 1000) (hn9 : s.n ≤ 800000) (hT : T < 18446744073709551616) (hrs : r.s < 18446744073709551616) (hI : Ints r.l) (hl : 36 + 8 * n ≤ s.sz) (hinv : InvS s n r T) :
    Calls Try.prog 32 #[.pointer (some ⟨gj, 0, none⟩)] w fun e w' => SetPost w gj g h J s n T (some (r.s, r.l)) e w' := by
  have c2 := q.jn.c2
  rw [hset] at c2
  have LK := hid_as (look_c q hd)
  have Q := hid_as q
  have HD := hid_as hd
  have HI := hid_as hinv
  have HN := hid_as hn
  clear q hinv hd
  go_enter Try.func32, Try.ntmps32
  go_wp2_with fail
  refine LK.out.mono ?_
  rintro e w1 ⟨V, sc, rfl, ov, _, q1, o1⟩
  obtain ⟨o0, q0, h0⟩ : ∃ ao c, V 0 = .slice ao (Rs s 0).l.length c := by have := (own_sl (ov 0 (by decide))).shape; rw [i64s_len] at this; exact this
  obtain ⟨p1, q1', h1⟩ : ∃ ao c, V 1 = .slice ao (Rs s 1).l.length c := by have := (own_sl (ov 1 (by decide))).shape; rw [i64s_len] at this; exact this
  obtain ⟨p2, q2', h2⟩ : ∃ ao c, V 2 = .slice ao (Rs s 2).l.length c := by have := (own_sl (ov 2 (by decide))).shape; rw [i64s_len] at this; exact this
  obtain ⟨p3, q3', h3⟩ : ∃ ao c, V 3 = .slice ao (Rs s 3).l.length c := by have := (own_sl (ov 3 (by decide))).shape; rw [i64s_len] at this; exact this
  obtain ⟨X, hX⟩ : ∃ X, X = w1.alloc (.cells (vwc (Rs s) V (Bg s)).toArray 64) := ⟨_, rfl⟩
  have VX : Hid (Vw X w1.heap.size w.heap.size (Rs s) V (Bg s)) := by rw [hX]; exact view_new ov
  have KX : Hid (Below w1.heap.size w1 X) := by rw [hX]; exact below_new (Below.refl _ _) _
  have Q1 := hid_as (q1.below KX.out)
  have O1 : Hid (Only [gj] w X) := o1.trans (Only.ofBelow KX.out)
  have G1 : Hid (w.heap.size ≤ w1.heap.size) := o1.size
  have VV : vwc (Rs s) V (Bg s) = vwc (Rs s) V (Bg s) := rfl
  conv at VV => rhs; unfold vwc; rw [h0, h1, h2, h3]
  rw [VV] at hX
  rw [VV]
  clear LK q1 o1 c2 VV ov
  go_upto_region 4 with fail
  rw [← hX]
  clear hX
  generalize w1.heap.size = gv at *
  have c1 := Q1.out.jn.c1
  rw [HN.out] at c1
  have N1 := hid_as (newest_c VX.out n (by omega) (by omega))
  clear h0 h1 h2 h3
  go_wp2_with fail
  refine N1.out.mono ?_
  rintro e w2 ⟨⟨a, rfl, hnw⟩, k2⟩
  obtain ⟨j, hj, rfl, hr⟩ := HI.out.nw (Or.inr rfl) hnw
  obtain ⟨hx1, hx2, hx3, hx4⟩ := xo_is hj
  have V2 := hid_as (VX.out.below k2)
  have N2 := hid_as (fun W (k : Below w2.heap.size w2 W) => newest_c (V2.out.below k) (-1) (by omega) (by omega))
  have Q2 := hid_as (Q1.out.below k2)
  have O2 : Hid (Only [gj] w w2) := O1.out.trans (Only.ofBelow k2)
  have HR := hid_as hr
  clear k2 N1 hnw Q1 O1 VX c1 hr
  generalize xo j = o at *
  have aj := (V2.out.cells hj).1
  have ao' := (V2.out.cells hx2).1
  have hj2 : (j : Int) < 4 := by omega
  have ho2 : (o : Int) < 4 := by omega
  have X4 := hid_as hx4
  have hj0 : ¬ (j : Int) < 0 := by omega
  clear hx4
  rw [HR.out] at aj
  obtain ⟨d, hdd⟩ : ∃ d, d = j / 2 := ⟨_, rfl⟩
  have hdv : (j : Int) / 2 = (d : Int) := by omega
  have hdt : (j : Int).tdiv 2 = (d : Int) := by rw [Int.tdiv_eq_ediv_of_nonneg (by omega)]; exact hdv
  have hd2 : d < 2 := by omega
  rw [← hdd] at X4
  have LT := hid_as Q.out.lts
  have G2 := hid_as (show w.heap.size ≤ gv from G1.out)
  have ht : r.t < 18446744073709551616 := Nat.lt_of_le_of_lt HI.out.tT hT
  clear hdd Q G1
  -- the end, whatever was written
  have FIN : Hid (∀ (W : World) (s' : SS), Jr W gj g h { J with scan := sc } s' → Only [gj, g, h] w W → s'.sz = s.sz → s'.n ≤ s.n + 1 → s'.dead = false → InvS s' n r T → Rs s' j = r → Rs s' o = r → (s.lft < 0 → s'.lft < 0) → Kp s s' → SetPost w gj g h J s n T (some (r.s, r.l)) (.returned (.int .i64 0)) (((W.setCell ⟨gj, 2, none⟩ (.bool true)).setCell ⟨gj, 3, none⟩ (.int .i64 (d : Int))).setCell ⟨gj, 4, none⟩ (.int .u64 (r.t : Int)))) := by
    intro W s' qW oW z1 z2 z3 iW rj ro lW kW
    have F := qW.sets d r.t
    refine ⟨s', _, 0, rfl, F.1, oW.trans (Only.ofTurn F.2 (by simp)), rfl, rfl, z1, z2, fun _ => kW, Or.inl ⟨rfl, z3, ⟨iW, hd2, ?_, ?_⟩, lW⟩⟩
    · rcases X4.out with ⟨e1, e2⟩ | ⟨e1, e2⟩
      · rw [← e1]; exact ro
      · rw [← e2]; exact rj
    · rcases X4.out with ⟨e1, e2⟩ | ⟨e1, e2⟩
      · rw [← e2]; exact rj
      · rw [← e1]; exact ro
  by_cases heq : (Rs s o).t = r.t
  · have ro := HI.out.uniq o hx2 heq
    rw [heq] at ao'
    have F0 := hid_as (fun (W : World) (k : Below w2.heap.size w2 W) => FIN.out W s (Q2.out.below k) ((O2.out.mono (by simp)).trans (Only.ofBelow k)) rfl (by omega) HD.out HI.out HR.out ro id (Kp.refl _))
    have CJ := hid_as (fun (W : World) (k : Below w2.heap.size w2 W) => (Q2.out.below k).jn)
    have CV := hid_as (fun (W : World) (k : Below w2.heap.size w2 W) => V2.out.below k)
    clear heq ro FIN
    go_upto_region 13 with fail
    go_quiet (fail)
    go_wp2_with fail
    refine (N2.out _ (Same.drewN _ _).below).mono ?_
    rintro e w3 ⟨⟨a, rfl, hnw⟩, k3⟩
    obtain ⟨j', hj', rfl, hr'⟩ := HI.out.nw (Or.inl rfl) hnw
    have K3 := hid_as (below_and (Same.drewN w2 _).below k3)
    have c2 := (CJ.out _ K3.out).c2
    have c3 := (CJ.out _ K3.out).c3
    have c4 := (CJ.out _ K3.out).c4
    have fz := (CJ.out _ K3.out).free
    have cv := ((CV.out _ K3.out).cells hj').1
    rw [hr'] at cv
    have hj'2 : (j' : Int) < 4 := by omega
    have F1 := hid_as (F0.out _ K3.out)
    clear k3 hnw F0 CJ CV K3 N2 hr'
    go_wp2
    go_ret
    exact F1.out
  · have hne : ((Rs s o).t : Int) ≠ (r.t : Int) := by omega
    have hb1 : (((Rs s o).t : Int) != (r.t : Int)) = true := by rw [bne_iff_ne]; exact hne
    have hb2 : (((Rs s o).t : Int) == (r.t : Int)) = false := by rw [beq_eq_false_iff_ne]; exact hne
    have hlr : r.l.length = n := HI.out.len
    have as' := (V2.out.cells hj).2.1
    have al' := (V2.out.cells hj).2.2
    obtain ⟨ov', oc', hVj⟩ := V2.out.shape hj
    rw [HR.out] at as'
    rw [HR.out, hlr] at hVj
    rw [hVj] at al'
    have c0 := Q2.out.jn.c0
    have SZ := hid_as (fun (W : World) (k : Same w2 W) => size_c (Q2.out.st.same k))
    have PKC : Hid (∀ W, Same w2 W → Calls Try.prog 33 #[.agg #[.int .u64 (r.t : Int), .int .u64 (r.s : Int), .slice ov' n oc'], .int .i64 (s.sz : Int)] W fun e w3 => ∃ gb, e = .returned (.slice (some ⟨gb, 0, none⟩) s.sz s.sz) ∧ PkF w w3 gj g h gv gb { J with scan := sc } s V r) := by
      intro W k
      have own := own64_below (V2.out.own j hj) k.below
      rw [HR.out, hVj] at own
      have hf := fit_is Q2.out.fit
      have hsz := Q2.out.st.ok.hi
      refine (pack_c (own_sl own) hI (by omega) hsz (by omega) ht hrs).mono ?_
      rintro e w3 ⟨gb, rfl, r3, k3, g3⟩
      have kk := below_and k.below k3
      have hgv := (Array.getElem?_eq_some_iff.1 V2.out.box).1
      have hW : W.heap.size = w2.heap.size := by rw [k.heap]
      exact ⟨gb, rfl, r3, Q2.out.below kk, V2.out.below kk, O2.out.trans (Only.ofBelow kk), by have := O2.out.size; omega, by omega, G2.out⟩
    have WRC := hid_as (fun (w3 : World) (gb : Nat) (q : PkF w w3 gj g h gv gb { J with scan := sc } s V r) => q.write_c LT.out HD.out hx2 (by omega) hI (by omega) ht hrs)
    have CA : Hid (∀ W, Same w2 W → W.cell? ⟨gv, j * 3, none⟩ = some (.int .u64 (r.t : Int)) ∧ W.cell? ⟨gv, j * 3 + 1, none⟩ = some (.int .u64 (r.s : Int)) ∧ W.cell? ⟨gv, j * 3 + 2, none⟩ = some (.slice ov' n oc') ∧ W.cell? ⟨gj, 0, none⟩ = some (.pointer (some ⟨g, 0, none⟩))) := fun W k => ⟨keep_cell k.below aj, keep_cell k.below as', keep_cell k.below al', keep_cell k.below c0⟩
    have CB : Hid (∀ (W : World) (J1 : JS) (s1 : SS), Vw W gv w.heap.size (Rs s) V (Bg s) → Jr W gj g h J1 s1 → W.cell? ⟨gv, j * 3, none⟩ = some (.int .u64 (r.t : Int)) ∧ W.cell? ⟨gv, j * 3 + 1, none⟩ = some (.int .u64 (r.s : Int)) ∧ W.cell? ⟨gv, j * 3 + 2, none⟩ = some (.slice ov' n oc') ∧ W.cell? ⟨gj, 0, none⟩ = some (.pointer (some ⟨g, 0, none⟩))) := fun W J1 s1 v q => by
      have z := v.cells hj
      rw [HR.out, hVj] at z
      exact ⟨z.1, z.2.1, z.2.2, q.jn.c0⟩
    have hnj : ¬ (j : Int) < 0 := hj0
    clear hne hb2 heq N2 O2
    go_upto_region 13 with fail
    go_quiet (fail)
    go_upto_region 14 with fail
    go_region_held3 (fun W => W.cell? ⟨gv, j * 3, none⟩ = some (.int .u64 (r.t : Int)) ∧ W.cell? ⟨gv, j * 3 + 1, none⟩ = some (.int .u64 (r.s : Int)) ∧ W.cell? ⟨gv, j * 3 + 2, none⟩ = some (.slice ov' n oc') ∧ W.cell? ⟨gj, 0, none⟩ = some (.pointer (some ⟨g, 0, none⟩))) (first | exact CA.out _ ((Same.drewN _ _).trans (Same.drew _)) | exact CA.out _ (Same.drewN _ _) | exact c3z | exact c4z) (first
      | (go_at_call 21; (with_reducible refine (SZ.out _ ?_).mono ?_); (first | exact (Same.drewN _ _).trans (Same.drew _)); rintro e w3 ⟨rfl, hw⟩; subst w3)
      | (go_at_call 33; (with_reducible refine (PKC.out _ ?_).mono ?_); (first | exact (Same.drewN _ _).trans (Same.drew _)); rintro e w3 ⟨gb, rfl, f3⟩; have c3z := CB.out _ _ _ f3.vw f3.jr)
      | (go_at_call 34; (with_reducible refine (WRC.out _ _ f3).mono ?_); rintro e w4 ⟨s', en, rfl, f4⟩; have c4z := CB.out _ _ _ f4.vw f4.jr))
    have WD := hid_as f4.wd
    have F4 := hid_as f4
    have rj : Rs s' j = r := by rw [WD.out.but.rs (fun e => hx3 e.symm)]; exact HR.out
    have RJ := hid_as rj
    clear f3 f4 c3z c4z rj SZ PKC WRC CA CB V2 Q2 aj ao' as' al' c0 hb1
    rcases WD.out.how with ⟨rfl, hdd, hrec, hlft⟩ | ⟨rfl, hlft, hdd, hrec⟩
    · have I4 := hid_as (HI.out.mend hj HR.out hx3 WD.out.but (Or.inr (Or.inr hrec)))
      have N4 := hid_as (newest_c F4.out.vw (-1) (by omega) (by omega))
      have FI := hid_as (fun (W : World) (k : Below w4.heap.size w4 W) => FIN.out W s' (F4.out.jr.below k) (F4.out.only.trans (Only.ofBelow k)) WD.out.sz WD.out.n hdd I4.out RJ.out hrec hlft (WD.out.kp HI.out.t0))
      have CJ := hid_as (fun (W : World) (k : Below w4.heap.size w4 W) => (F4.out.jr.below k).jn)
      have CV := hid_as (fun (W : World) (k : Below w4.heap.size w4 W) => F4.out.vw.below k)
      clear FIN hrec hlft hdd
      go_wp2_with fail
      refine N4.out.mono ?_
      rintro e w5 ⟨⟨a, rfl, hnw⟩, k5⟩
      obtain ⟨j', hj', rfl, hr'⟩ := HI.out.nw (Or.inl rfl) hnw
      have c2 := (CJ.out _ k5).c2
      have c3 := (CJ.out _ k5).c3
      have c4 := (CJ.out _ k5).c4
      have fz := (CJ.out _ k5).free
      have cv := ((CV.out _ k5).cells hj').1
      rw [hr'] at cv
      have hj'2 : (j' : Int) < 4 := by omega
      have F1 := hid_as (FI.out _ k5)
      clear k5 hnw FI CJ CV N4 hr' F4
      go_wp2
      go_ret
      exact F1.out
    · have I4 := hid_as (HI.out.mend hj HR.out hx3 WD.out.but hrec)
      have O4 := hid_as (show SetPost w gj g h J s n T (some (r.s, r.l)) (.returned (.int .i64 82)) w4 from ⟨s', _, 82, rfl, F4.out.jr, F4.out.only, rfl, rfl, WD.out.sz, WD.out.n, fun q => absurd q (by decide), Or.inr ⟨rfl, hdd, ⟨r.t, I4.out⟩, hlft⟩⟩)
      clear FIN hrec hlft hdd F4 I4
      go_wp2
      go_ret
      exact O4.out
theorem settle_c {w : World} {gj g h n T : Nat} {J : JS} {s : SS} {o : Last} (q : Jr w gj g h J s) (hd : s.dead = false) (hn : J.n = n) (hn2 : n ≤ 1000) (hn9 : s.n ≤ 800000) (hT : T < 18446744073709551616) (hl : 36 + 8 * n ≤ s.sz) (hinv : Ivr s n T o) (hset : J.set = true → Sd s n T J.slot J.turn o) (ho : ∀ x, o = some x → x.1 < 18446744073709551616 ∧ Ints x.2) :
    Calls Try.prog 32 #[.pointer (some ⟨gj, 0, none⟩)] w fun e w' => SetPost w gj g h J s n T o e w' := by
  cases hs : J.set with
  | true => exact settle_set q hd hs (hset hs)
  | false =>
    cases o with
    | none => exact settle_none q hd hs hn hn2 hinv
    | some x =>
      obtain ⟨t, hi⟩ := hinv
      exact settle_some (r := ⟨t, x.1, x.2⟩) q hd hs hn hn2 hn9 hT (ho x rfl).1 (ho x rfl).2 hl hi
end Go.Proofs.Ytoiadofoclgnoaa
