/- The walk of ImagePlays (stage 11). -/
import Derived.Test.YtlokdkpfeckdoaaDoorP1
namespace Go.Proofs.YtlokdkpfeckdoaaDoor
open Go.RowKit
open Adr
/-- Behind a copy: the old image, which goes its own ways, beside the two. -/
structure Old (w W : World) (gm gc gr bx : Nat) (s' s t : IS) (x : Stp) : Prop where
  two : Two w W gc gr s t
  b : W.heap[bx]? = some (.cells x.cs.toArray 30 (0, 0))
  bc : bx ≠ gc
  br : bx ≠ gr
  bm : bx ≠ gm
  pos : 0 < w.heap.size
  old : Im W gm s'
  nc : gc ≠ gm
  nr : gr ≠ gm
  lm : w.heap.size ≤ gm
theorem Box.copied {w W u : World} {gm gr bx : Nat} {s t : IS} {x : Stp} (h : Box w W gm gr bx s t x) (i : Im u W.heap.size s) (k : Below W.heap.size W u) : Old w u gm W.heap.size gr bx s s t x := by
  have l1 := h.two.m.lt
  have l2 := h.two.r.lt
  have l3 := h.lt
  have l4 := h.two.k.size
  exact ⟨⟨i, h.two.r.below k, by omega, l4, h.two.lr, h.two.k.trans (k.mono l4), h.two.ar.below k⟩, (k.block bx l3).trans h.b, by omega, h.br, h.bm, h.pos, h.two.m.below k, by omega, fun e => h.two.ne e.symm, h.two.lm⟩
theorem Old.oldStep {w W u : World} {gm gc gr bx : Nat} {s' s2 s t : IS} {x : Stp} (h : Old w W gm gc gr bx s' s t x) (i : Im u gm s2) (k : Turn gm W u) : Old w u gm gc gr bx s2 s t x := by
  have l3 := (Array.getElem?_eq_some_iff.1 h.b).1
  exact ⟨⟨h.two.m.turn k h.nc, h.two.r.turn k h.nr, h.two.ne, h.two.lm, h.two.lr, below_turn h.two.k k h.lm h.two.k.size, h.two.ar.turn k (by have := h.lm; have := h.pos; omega)⟩, (k.block bx l3 (fun e => h.bm (by simpa using e))).trans h.b, h.bc, h.br, h.bm, h.pos, i, h.nc, h.nr, h.lm⟩
theorem Old.both {w W u : World} {gm gc gr bx : Nat} {s' s t : IS} {x : Stp} (h : Old w W gm gc gr bx s' s t x) (i : Im u W.heap.size t) (k : Below W.heap.size W u) : Box w u gc W.heap.size bx s t x := by
  have l1 := h.two.m.lt
  have l3 := (Array.getElem?_eq_some_iff.1 h.b).1
  have l4 := h.two.k.size
  exact ⟨⟨h.two.m.below k, i, by omega, h.two.lm, l4, h.two.k.trans (k.mono l4), h.two.ar.below k⟩, (k.block bx l3).trans h.b, h.bc, by omega, h.pos⟩
/-- Behind I steps. -/
def PI (w W : World) (I : Nat) (mv rv : Value) : Prop := ∃ gm gr s, mv = .pointer (some ⟨gm, 0, none⟩) ∧ rv = .pointer (some ⟨gr, 0, none⟩) ∧ Two w W gm gr s s ∧ s.n ≤ I
set_option maxRecDepth 100000 in
set_option maxHeartbeats 8000000 in
theorem plays_w (n c : Nat) (ao : Option Addr) (L : List Stp) (w : World) (hA : AreasAt w) (hn : n = L.length) (hn9 : n ≤ 9223372036854775807)
    (hF : 0 < n → ∃ lb lo, ao = some ⟨lb, lo, none⟩ ∧ ∀ i x, L[i]? = some x → StepAt w lb lo i x) :
    Calls Tryd.prog 3 #[.slice ao n c] w fun e w' => e = .returned (.bool true) ∧ Below w.heap.size w w' := by
  have A := hid_as hA
  have X := hid_as (known_c w hA)
  have HF := hid_as hF
  have HN := hid_as hn
  have pos := hA.pos
  clear hF hn hA
  go_enter Tryd.func3, Tryd.ntmps3
  go_wp2_with fail
  refine X.out.mono ?_
  rintro e w1 ⟨rfl, k1⟩
  have K1 := hid_as k1
  clear k1 X
  by_cases h300 : 300 < n
  · have h300' : (300 : Int) < (n : Int) := by omega
    go_wp2
    go_ret
    exact ⟨rfl, K1.out⟩
  have h300' : ¬ (300 : Int) < (n : Int) := by omega
  have N1 := hid_as (new_c w1)
  go_wp2_with fail
  refine N1.out.mono ?_
  rintro e w2 ⟨rfl, i2, k2⟩
  have N2 := hid_as (rnew_c w2)
  have I2 := hid_as i2
  have K2 := hid_as k2
  clear N1 i2 k2
  go_wp2_with fail
  refine N2.out.mono ?_
  rintro e w3 ⟨rfl, i3, k3⟩
  have P3 : Hid (Two w w3 w1.heap.size w2.heap.size IS.zero IS.zero) := by
    have e1 := I2.out.lt
    have e2 := K1.out.size
    have e3 := K2.out.size
    have q := below_and (below_and K1.out K2.out) k3
    exact ⟨I2.out.below k3, i3, by omega, e2, by omega, q, A.out.below q⟩
  clear N2 i3 k3 I2 K2 K1
  generalize w1.heap.size = gm0 at *
  generalize w2.heap.size = gr0 at *
  go_wp2_with fail
  go_loopw [3, 4, 5] (fun mv rv i wr => ∃ I : Nat, i = .int .i64 (I : Int) ∧ I ≤ n ∧ PI w wr I mv rv) (fun _ _ i _ => n - (intOf i).toNat)
  case atStart => exact ⟨0, rfl, Nat.zero_le _, gm0, gr0, _, rfl, rfl, P3.out, Nat.le_refl _⟩
  case round =>
    obtain ⟨I, rfl, hI, gm, gr, s, rfl, rfl, pj, hsn⟩ := hrel
    have P := hid_as pj
    have AL := hid_as (alike_c pj.ar pj.m pj.r)
    clear pj P3
    by_cases hIn : I < n
    case neg =>
      have hI2 : ¬ ((I : Int) < (n : Int)) := by omega
      go_wp2_with fail
      refine AL.out.mono ?_
      rintro e w5 ⟨rfl, k5⟩
      have K5 := hid_as (P.out.k.trans (k5.mono P.out.k.size))
      clear AL k5
      go_wp2
      go_ret
      exact ⟨rfl, K5.out⟩
    have hI2 : (I : Int) < (n : Int) := by omega
    clear AL
    obtain ⟨lb, lo, rfl, hst⟩ := HF.out (by omega)
    obtain ⟨y, hy⟩ : ∃ y, L[I]? = some y := ⟨_, List.getElem?_eq_getElem (by rw [← HN.out]; exact hIn)⟩
    have hcs := (hst I y hy).below P.out.k
    have a0 : wr.cell? ⟨lb, lo + I * 4, none⟩ = some (.int .i64 y.what) := hcs 0 _ rfl
    have a1 : wr.cell? ⟨lb, lo + I * 4 + 1, none⟩ = some (.int .i64 y.area) := hcs 1 _ rfl
    have a2 : wr.cell? ⟨lb, lo + I * 4 + 2, none⟩ = some (.int .i64 y.off) := hcs 2 _ rfl
    have a3 : wr.cell? ⟨lb, lo + I * 4 + 3, none⟩ = some (.int .u16 (y.v : Int)) := hcs 3 _ rfl
    clear hst hcs hy
    go_upto_region 10 with fail
    have BX : Hid (Box w (wr.alloc (.cells y.cs.toArray 30)) gm gr wr.heap.size s s y) := by
      have e1 := P.out.m.lt
      have e2 := P.out.r.lt
      exact ⟨P.out.below (below_new (Below.refl _ wr) _), heap_alloc_new wr _, by omega, by omega, pos⟩
    change Code.wp _ _ _ _ (wr.alloc (.cells y.cs.toArray 30))
    generalize wr.alloc (.cells y.cs.toArray 30) = X at BX ⊢
    clear a0 a1 a2 a3
    generalize wr.heap.size = bx at BX ⊢
    clear P
    obtain ⟨what, a, n2, v⟩ := y
    have hn9s : s.n ≤ 1000 := by omega
    have x0 : X.cell? ⟨bx, 0, none⟩ = some (.int .i64 what) := BX.out.c0
    go_upto_block 2 with fail
    clear x0
    go_cut [3, 4] from 31 to 99 (fun mv rv wx => ∃ gm gr s, mv = .pointer (some ⟨gm, 0, none⟩) ∧ rv = .pointer (some ⟨gr, 0, none⟩) ∧ Box w wx gm gr bx s s ⟨what, a, n2, v⟩ ∧ s.n ≤ I + 1)
    case first =>
      by_cases h0 : what = 0
      · subst h0
        as_aux_lemma =>
          have x0 := BX.out.c0
          have JX := hid_as (BX.out.same (Same.drew X))
          have x1 : X.cell? ⟨bx, 1, none⟩ = some (.int .i64 a) := BX.out.c1
          have x2 : X.cell? ⟨bx, 2, none⟩ = some (.int .i64 n2) := BX.out.c2
          have x3 : X.cell? ⟨bx, 3, none⟩ = some (.int .u16 (v : Int)) := BX.out.c3
          have C1 := hid_as (JX.out.put a n2 v)
          have C2 := hid_as (fun (W : World) (h : Box w W gm gr bx (s.put a n2 v) s ⟨0, a, n2, v⟩) => h.rput a n2 v)
          have SN : Hid ((s.put a n2 v).n ≤ I + 1) := (by rw [put_n]; omega : (s.put a n2 v).n ≤ I + 1)
          generalize ge a n2 = y at C1 C2
          go_wp2_with fail
          go_region_held3 (fun w' => w'.cell? ⟨bx, 1, none⟩ = some (.int .i64 a) ∧ w'.cell? ⟨bx, 2, none⟩ = some (.int .i64 n2) ∧ w'.cell? ⟨bx, 3, none⟩ = some (.int .u16 (v : Int))) (first | exact ⟨x1, x2, x3⟩ | exact J2.three | exact J1.three) ((first | (go_at_call 8; refine C1.out.mono ?_; rintro e w1 ⟨rfl, J1⟩) | (go_at_call 9; refine (C2.out _ J1).mono ?_; rintro e w2 ⟨rfl, J2⟩)))
          have B2 := hid_as J2
          clear x1 x2 x3 J1 J2 JX C1 C2 BX
          go_wp2
          go_meet
          case rel => exact ⟨gm, gr, _, rfl, rfl, B2.out, SN.out⟩
      have d0 : (what == 0) = false := by rw [beq_eq_false_iff_ne]; exact h0
      clear h0
      by_cases h1 : what = 1
      · subst h1
        as_aux_lemma =>
          have x0 := BX.out.c0
          have JX := hid_as (BX.out.same (Same.drew X))
          have x1 : X.cell? ⟨bx, 1, none⟩ = some (.int .i64 a) := BX.out.c1
          have x2 : X.cell? ⟨bx, 2, none⟩ = some (.int .i64 n2) := BX.out.c2
          have x3 : X.cell? ⟨bx, 3, none⟩ = some (.int .u16 (v : Int)) := BX.out.c3
          have C1 := hid_as (JX.out.put a n2 v)
          have C2 := hid_as (fun (W : World) (h : Box w W gm gr bx (s.put a n2 v) s ⟨1, a, n2, v⟩) => h.rput a n2 v)
          have SN : Hid ((s.put a n2 v).n ≤ I + 1) := (by rw [put_n]; omega : (s.put a n2 v).n ≤ I + 1)
          generalize ge a n2 = y at C1 C2
          go_wp2_with fail
          go_region_held3 (fun w' => w'.cell? ⟨bx, 1, none⟩ = some (.int .i64 a) ∧ w'.cell? ⟨bx, 2, none⟩ = some (.int .i64 n2) ∧ w'.cell? ⟨bx, 3, none⟩ = some (.int .u16 (v : Int))) (first | exact ⟨x1, x2, x3⟩ | exact J2.three | exact J1.three) ((first | (go_at_call 8; refine C1.out.mono ?_; rintro e w1 ⟨rfl, J1⟩) | (go_at_call 9; refine (C2.out _ J1).mono ?_; rintro e w2 ⟨rfl, J2⟩)))
          have B2 := hid_as J2
          clear x1 x2 x3 J1 J2 JX C1 C2 BX
          go_wp2
          go_meet
          case rel => exact ⟨gm, gr, _, rfl, rfl, B2.out, SN.out⟩
      have d1 : (what == 1) = false := by rw [beq_eq_false_iff_ne]; exact h1
      clear h1
      by_cases h2 : what = 2
      · subst h2
        as_aux_lemma =>
          have x0 := BX.out.c0
          have JX := hid_as (BX.out.same (Same.drew X))
          have x1 : X.cell? ⟨bx, 1, none⟩ = some (.int .i64 a) := BX.out.c1
          have x2 : X.cell? ⟨bx, 2, none⟩ = some (.int .i64 n2) := BX.out.c2
          have x3 : X.cell? ⟨bx, 3, none⟩ = some (.int .u16 (v : Int)) := BX.out.c3
          have C1 := hid_as (JX.out.set a n2 v)
          have C2 := hid_as (fun (W : World) (h : Box w W gm gr bx (s.set a n2 v) s ⟨2, a, n2, v⟩) => h.rset a n2 v)
          have SN : Hid ((s.set a n2 v).n ≤ I + 1) := (by rw [set_n]; omega : (s.set a n2 v).n ≤ I + 1)
          generalize ge a n2 = y at C1 C2
          go_wp2_with fail
          go_region_held3 (fun w' => w'.cell? ⟨bx, 1, none⟩ = some (.int .i64 a) ∧ w'.cell? ⟨bx, 2, none⟩ = some (.int .i64 n2) ∧ w'.cell? ⟨bx, 3, none⟩ = some (.int .u16 (v : Int))) (first | exact ⟨x1, x2, x3⟩ | exact J2.three | exact J1.three) ((first | (go_at_call 10; refine C1.out.mono ?_; rintro e w1 ⟨rfl, J1⟩) | (go_at_call 11; refine (C2.out _ J1).mono ?_; rintro e w2 ⟨rfl, J2⟩)))
          have B2 := hid_as J2
          clear x1 x2 x3 J1 J2 JX C1 C2 BX
          go_wp2
          go_meet
          case rel => exact ⟨gm, gr, _, rfl, rfl, B2.out, SN.out⟩
      have d2 : (what == 2) = false := by rw [beq_eq_false_iff_ne]; exact h2
      clear h2
      by_cases h3 : what = 3
      · subst h3
        as_aux_lemma =>
          have x0 := BX.out.c0
          have JX := hid_as (BX.out.same (Same.drew X))
          have x1 : X.cell? ⟨bx, 1, none⟩ = some (.int .i64 a) := BX.out.c1
          have x2 : X.cell? ⟨bx, 2, none⟩ = some (.int .i64 n2) := BX.out.c2
          have x3 : X.cell? ⟨bx, 3, none⟩ = some (.int .u16 (v : Int)) := BX.out.c3
          have C1 := hid_as (JX.out.set a n2 v)
          have C2 := hid_as (fun (W : World) (h : Box w W gm gr bx (s.set a n2 v) s ⟨3, a, n2, v⟩) => h.rset a n2 v)
          have SN : Hid ((s.set a n2 v).n ≤ I + 1) := (by rw [set_n]; omega : (s.set a n2 v).n ≤ I + 1)
          generalize ge a n2 = y at C1 C2
          go_wp2_with fail
          go_region_held3 (fun w' => w'.cell? ⟨bx, 1, none⟩ = some (.int .i64 a) ∧ w'.cell? ⟨bx, 2, none⟩ = some (.int .i64 n2) ∧ w'.cell? ⟨bx, 3, none⟩ = some (.int .u16 (v : Int))) (first | exact ⟨x1, x2, x3⟩ | exact J2.three | exact J1.three) ((first | (go_at_call 10; refine C1.out.mono ?_; rintro e w1 ⟨rfl, J1⟩) | (go_at_call 11; refine (C2.out _ J1).mono ?_; rintro e w2 ⟨rfl, J2⟩)))
          have B2 := hid_as J2
          clear x1 x2 x3 J1 J2 JX C1 C2 BX
          go_wp2
          go_meet
          case rel => exact ⟨gm, gr, _, rfl, rfl, B2.out, SN.out⟩
      have d3 : (what == 3) = false := by rw [beq_eq_false_iff_ne]; exact h3
      clear h3
      by_cases h4 : what = 4
      · subst h4
        as_aux_lemma =>
          have x0 := BX.out.c0
          have C1 := hid_as (latch_c BX.out.two.m)
          go_wp2_with fail
          refine C1.out.mono ?_
          rintro e w1 ⟨rfl, i1, q1⟩
          have B1 := hid_as (BX.out.stepM i1 q1)
          have C2 := hid_as (rlatch_c B1.out.two.r)
          have SN : Hid ((s.latch).n ≤ I + 1) := (by show s.n ≤ I + 1; omega)
          clear C1 i1 q1 BX
          go_wp2_with fail
          refine C2.out.mono ?_
          rintro e w2 ⟨rfl, i2, q2⟩
          have B2 := hid_as (B1.out.stepR i2 q2)
          clear C2 i2 q2 B1
          go_wp2
          go_meet
          case rel => exact ⟨gm, gr, _, rfl, rfl, B2.out, SN.out⟩
      have d4 : (what == 4) = false := by rw [beq_eq_false_iff_ne]; exact h4
      clear h4
      by_cases h5 : what = 5
      · subst h5
        as_aux_lemma =>
          have x0 := BX.out.c0
          have C1 := hid_as (pub_c BX.out.two.m (by omega))
          go_wp2_with fail
          refine C1.out.mono ?_
          rintro e w1 ⟨rfl, i1, q1⟩
          have B1 := hid_as (BX.out.stepM i1 q1)
          have C2 := hid_as (rpub_c B1.out.two.r (by omega))
          have SN : Hid ((s.pub).n ≤ I + 1) := (by show (pubN s 4).n + 1 ≤ I + 1; rw [pubN_n]; omega)
          clear C1 i1 q1 BX
          go_wp2_with fail
          refine C2.out.mono ?_
          rintro e w2 ⟨rfl, i2, q2⟩
          have B2 := hid_as (B1.out.stepR i2 q2)
          clear C2 i2 q2 B1
          go_wp2
          go_meet
          case rel => exact ⟨gm, gr, _, rfl, rfl, B2.out, SN.out⟩
      have d5 : (what == 5) = false := by rw [beq_eq_false_iff_ne]; exact h5
      clear h5
      by_cases h6 : what = 6
      · subst h6
        as_aux_lemma =>
          have x0 := BX.out.c0
          have C1 := hid_as (drop_c BX.out.two.m)
          go_wp2_with fail
          refine C1.out.mono ?_
          rintro e w1 ⟨rfl, i1, q1⟩
          have B1 := hid_as (BX.out.stepM i1 q1)
          have C2 := hid_as (rlatch_c B1.out.two.r)
          have SN : Hid ((s.latch).n ≤ I + 1) := (by show s.n ≤ I + 1; omega)
          clear C1 i1 q1 BX
          go_wp2_with fail
          refine C2.out.mono ?_
          rintro e w2 ⟨rfl, i2, q2⟩
          have B2 := hid_as (B1.out.stepR i2 q2)
          clear C2 i2 q2 B1
          go_wp2
          go_meet
          case rel => exact ⟨gm, gr, _, rfl, rfl, B2.out, SN.out⟩
      have d6 : (what == 6) = false := by rw [beq_eq_false_iff_ne]; exact h6
      clear h6
      by_cases h7 : what = 7
      · subst h7
        as_aux_lemma =>
          have x0 := BX.out.c0
          have C1 := hid_as (copy_c BX.out.two.m)
          go_wp2_with fail
          refine C1.out.mono ?_
          rintro e w1 ⟨rfl, i1, q1⟩
          have T1 := hid_as (BX.out.copied i1 q1)
          have hgc : X.heap.size ≠ gm := by have := BX.out.two.m.lt; omega
          generalize X.heap.size = gc at *
          have C2 := hid_as (put_c 2 5 1 T1.out.two.ar T1.out.old)
          clear C1 i1 q1 BX
          go_wp2_with fail
          refine C2.out.mono ?_
          rintro e w2 ⟨rfl, i2, q2⟩
          have T2 := hid_as (T1.out.oldStep i2 q2)
          have C3 := hid_as (pub_c i2 (by rw [put_n]; omega))
          clear C2 i2 q2 T1
          go_wp2_with fail
          refine C3.out.mono ?_
          rintro e w3 ⟨rfl, i3, q3⟩
          have T3 := hid_as (T2.out.oldStep i3 q3)
          have C4 := hid_as (rcopy_c T3.out.two.r)
          clear C3 i3 q3 T2
          go_wp2_with fail
          refine C4.out.mono ?_
          rintro e w4 ⟨rfl, i4, q4⟩
          have B4 := hid_as (T3.out.both i4 q4)
          generalize w3.heap.size = gr2 at *
          clear C4 i4 q4 T3
          go_wp2
          go_meet
          case rel => exact ⟨gc, gr2, _, rfl, rfl, B4.out, by omega⟩
      have d7 : (what == 7) = false := by rw [beq_eq_false_iff_ne]; exact h7
      clear h7
      have x0 := BX.out.c0
      go_wp2
      go_meet
      case rel => exact ⟨gm, gr, s, rfl, rfl, BX.out, by omega⟩
    case rest =>
      obtain ⟨gm, gr, s, rfl, rfl, bb, hs2⟩ := hcut
      have B := hid_as bb
      have G1 := hid_as (get_c a n2 bb.two.ar bb.two.m)
      have G2 := hid_as (rget_c a n2 bb.two.r)
      have z1 := bb.c1
      have z2 := bb.c2
      have AL := hid_as (alike_c bb.two.ar bb.two.m bb.two.r)
      have y0 : ((gv s.o a n2 : Int) == (gv s.o a n2 : Int)) = true := by simp
      simp only at z1 z2
      generalize gv s.o a n2 = q1 at *
      generalize ge a n2 = q2 at *
      obtain ⟨r, hr⟩ : ∃ r, r = I % 20 := ⟨_, rfl⟩
      have hr1 : (I : Int) % 20 = (r : Int) := by omega
      have hr3 : (I : Int).tmod 20 = (r : Int) := by rw [Int.tmod_eq_emod_of_nonneg (by omega)]; exact hr1
      clear bb hr y0
      go_wp2_with fail
      refine G1.out.mono ?_
      rintro e wx ⟨rfl, hw⟩
      subst wx
      go_wp2_with fail
      refine G2.out.mono ?_
      rintro e wx ⟨rfl, hw⟩
      subst wx
      clear G1 G2
      by_cases h19 : r = 19
      · subst h19
        as_aux_lemma =>
          go_wp2_with fail
          refine AL.out.mono ?_
          rintro e w6 ⟨rfl, k6⟩
          have P6 := hid_as (B.out.two.below k6)
          clear k6 AL B z1 z2
          go_wp2
          go_roundw
          case rel => exact ⟨I + 1, by go_num, by omega, gm, gr, s, rfl, rfl, P6.out, hs2⟩
          case measure => simp [intOf]; omega
      · have h19' : ((r : Int) == 19) = false := by rw [beq_eq_false_iff_ne]; omega
        as_aux_lemma =>
          go_wp2
          go_roundw
          case rel => exact ⟨I + 1, by go_num, by omega, gm, gr, s, rfl, rfl, B.out.two, hs2⟩
          case measure => simp [intOf]; omega
end Go.Proofs.YtlokdkpfeckdoaaDoor
