/- The walk of goOn (stage 20). -/
import Derived.Test.YtkknfolahfmghaaDoorW3
namespace Go.Proofs.YtkknfolahfmghaaDoor
open Go.RowKit
open Fb Cod
/-- What an instruction that is right by itself keeps. -/
structure OkI (n : Nat) (x : Ins) : Prop where
  lo : 1 ≤ x.op
  hi : x.op ≤ 24
  pick : x.op = 24 → 0 ≤ x.a ∧ x.a < 256
  jmp : x.jmp → 0 ≤ x.a ∧ x.a < n
theorem OkI.t_le {n : Nat} {x : Ins} (h : OkI n x) : x.t ≤ 300 := by
  have := tk_le x.op.toNat
  unfold Ins.t more
  split
  · rename_i q
    have := h.pick q
    omega
  · omega
theorem OkI.p_le {n : Nat} {x : Ins} (h : OkI n x) : x.p ≤ 300 := by
  have := pt_le x.op.toNat
  unfold Ins.p more
  split
  · rename_i q
    have := h.pick q
    omega
  · omega
/-- What a walk through the code holds. -/
structure Gw (B : Nat) (w : World) (g m : Nat) (la : Option Addr) (n lc : Nat) (wv : Value) (L : List Ins) (S T : List (Nat × Nat)) (wr : Nat) : Prop where
  wy : Wy B w g m (.slice la n lc) wv S T wr
  il : Il w la L
  lb : ∀ p, la = some p → 0 < L.length → p.block < B
  tb : Tabs w
  B5 : 5 ≤ B
  hB : B ≤ w.heap.size
theorem Gw.below {B : Nat} {w u : World} {g m : Nat} {la : Option Addr} {n lc : Nat} {wv : Value} {L : List Ins} {S T : List (Nat × Nat)} {wr : Nat} (h : Gw B w g m la n lc wv L S T wr) (k : Below w.heap.size w u) : Gw B u g m la n lc wv L S T wr :=
  ⟨h.wy.below k, h.il.below k, h.lb, h.tb.below k, h.B5, Nat.le_trans h.hB k.size⟩
theorem Gw.step {B : Nat} {w u : World} {g m : Nat} {la : Option Addr} {n lc : Nat} {wv wv' : Value} {L : List Ins} {S T S' T' : List (Nat × Nat)} {wr wr' : Nat} (h : Gw B w g m la n lc wv L S T wr) (k : Below B w u) (hw : Wy B u g m (.slice la n lc) wv' S' T' wr') : Gw B u g m la n lc wv' L S' T' wr' :=
  ⟨hw, h.il.belowB h.lb k, h.lb, h.tb.belowB h.B5 k, h.B5, Nat.le_trans h.hB k.size⟩
/-- The stack's effect, from the box. -/
theorem eff_w {n : Nat} {x : Ins} (hx : OkI n x) (w : World) (hT : Tabs w) : Calls Tryd.prog 59 #[.agg #[.int .i64 x.op, .int .i64 x.a, .int .i64 x.b, .int .i64 x.c, .string x.name]] w fun e w' => e = .returned (.tuple #[.int .i64 (x.t : Nat), .int .i64 (x.p : Nat)]) ∧ Below w.heap.size w w' := effect_c x w hT hx.lo hx.hi hx.pick
/-- Ahead of the instruction's ways. -/
structure At3 (B : Nat) (w w3 : World) (g m : Nat) (la : Option Addr) (n lc : Nat) (wv : Value) (L : List Ins) (S T : List (Nat × Nat)) (wr bs X i d : Nat) (op a : Int) : Prop where
  gw : Gw B w3 g m la n lc wv L S T wr
  kb : Below w.heap.size w w3
  b0 : w3.cell? ⟨bs, 0, none⟩ = some (.int .i64 (i : Int))
  b1 : w3.cell? ⟨bs, 1, none⟩ = some (.int .i64 (d : Int))
  y0 : w3.cell? ⟨X, 0, none⟩ = some (.int .i64 op)
  y1 : w3.cell? ⟨X, 1, none⟩ = some (.int .i64 a)
  bw : bs ≠ g ∧ bs ≠ m ∧ some bs ≠ wv.ownBlock
  xw : X ≠ g ∧ X ≠ m ∧ some X ≠ wv.ownBlock
theorem At3.on {B : Nat} {w w3 w4 : World} {g m : Nat} {la : Option Addr} {n lc : Nat} {wv : Value} {L : List Ins} {S T : List (Nat × Nat)} {wr bs X i d : Nat} {op a : Int} (h : At3 B w w3 g m la n lc wv L S T wr bs X i d op a) (k : Oth w3 w4 g m wv.ownBlock) : w4.cell? ⟨bs, 0, none⟩ = some (.int .i64 (i : Int)) :=
  (World.cell?_of_block (w := w3) (a := ⟨bs, 0, none⟩) (k bs (lt_of_cell h.b0) h.bw.1 h.bw.2.1 h.bw.2.2)).trans h.b0
set_option linter.unusedVariables false
set_option maxHeartbeats 3200000 in
set_option maxRecDepth 100000 in
theorem go_bad1 {B : Nat} {w : World} {g m : Nat} {la : Option Addr} {n lc : Nat} {wv : Value} {L : List Ins} {S T : List (Nat × Nat)} {wr : Nat} {i d : Nat} {x : Ins} (G : Gw B w g m la n lc wv L S T wr) (hn : n = L.length) (hn9 : n ≤ 1000000) (hx : L[i]? = some x) (ok : OkI n x) (hd : d ≤ 256) (hT : T.length ≤ 900000000) (hb : d < x.t) :
    Calls Tryd.prog 45 #[.pointer (some ⟨g, 0, none⟩), .agg #[.int .i64 (i : Int), .int .i64 (d : Int)]] w fun e w' => e = .returned (.tuple #[]) ∧ Gw B w' g m la n lc wv L S T (min wr i) ∧ Below B w w' := by
  obtain ⟨lb, lo, hla, x0, x1, x2, x3, x4⟩ := G.il.at_ hx
  subst hla
  have hin : i < n := by rw [hn]; exact (List.getElem?_eq_some_iff.1 hx).1
  have hin' : (i : Int) < (n : Int) := by omega
  have hB0 := G.hB
  have hT9 : T.length ≤ 1000000000 := by omega
  have c0 := G.wy.c0
  have tl := ok.t_le
  have pl := ok.p_le
  obtain ⟨w1, hw1⟩ : ∃ w1, w.alloc (.cells #[.int .i64 (i : Int), .int .i64 (d : Int)] 95) = w1 := ⟨_, rfl⟩
  obtain ⟨bs, hbs⟩ : ∃ bs, bs = w.heap.size := ⟨_, rfl⟩
  have K1 : Below w.heap.size w w1 := by rw [← hw1]; exact below_new1 _ _
  have S1 : w1.heap.size = w.heap.size + 1 := by rw [← hw1]; simp
  have b0 : w1.cell? ⟨bs, 0, none⟩ = some (.int .i64 (i : Int)) := by rw [← hw1, hbs]; exact cell_row (l := [.int .i64 (i : Int), .int .i64 (d : Int)]) (k := 0) (heap_alloc_new w _) rfl
  have b1 : w1.cell? ⟨bs, 1, none⟩ = some (.int .i64 (d : Int)) := by rw [← hw1, hbs]; exact cell_row (l := [.int .i64 (i : Int), .int .i64 (d : Int)]) (k := 1) (heap_alloc_new w _) rfl
  have G1 := G.below K1
  have c0 := keep_cell K1 c0
  have x0 := keep_cell K1 x0
  have x1 := keep_cell K1 x1
  have x2 := keep_cell K1 x2
  have x3 := keep_cell K1 x3
  have x4 := keep_cell K1 x4
  have NG : g < w.heap.size ∧ m < w.heap.size ∧ ∀ h, wv.ownBlock = some h → h < w.heap.size := by
    obtain ⟨F, hF, _⟩ := G.wy.map
    exact ⟨G.wy.glt, hF.lt, fun h hh => (G.wy.own.lt h hh).2⟩
  have CE : Hid (∀ w2, w2 = (w1.alloc (.cells #[.int .i64 x.op, .int .i64 x.a, .int .i64 x.b, .int .i64 x.c, .string x.name] 41)).drew → Calls Tryd.prog 59 #[.agg #[.int .i64 x.op, .int .i64 x.a, .int .i64 x.b, .int .i64 x.c, .string x.name]] w2 fun e w3 => e = .returned (.tuple #[.int .i64 (x.t : Nat), .int .i64 (x.p : Nat)]) ∧ At3 B w w3 g m (some ⟨lb, lo, none⟩) n lc wv L S T wr bs w1.heap.size i d x.op x.a) := by
    intro w2 hw2
    have K2 : Below w1.heap.size w1 w2 := by rw [hw2]; exact new_drew _ _
    have G2 := G1.below K2
    refine (eff_w ok w2 G2.tb).mono ?_
    rintro e w3 ⟨rfl, K3⟩
    have r2 : w2.heap[w1.heap.size]? = some (.cells x.cs.toArray 41 (0, 0)) := by rw [hw2]; exact heap_alloc_new w1 _
    refine ⟨rfl, G2.below K3, below_and (below_and K1 K2) K3, keep_cell K3 (keep_cell K2 b0), keep_cell K3 (keep_cell K2 b1), keep_cell K3 (cell_row (k := 0) r2 rfl), keep_cell K3 (cell_row (k := 1) r2 rfl), ⟨fun e => by omega, fun e => by omega, fun e => ?_⟩, ⟨fun e => by omega, fun e => by omega, fun e => ?_⟩⟩
    · have := NG.2.2 _ e.symm; omega
    · have := NG.2.2 _ e.symm; omega
  have OK := hid_as ok
  have HN := hid_as hn
  have HX := hid_as hx
  clear G hn hx G1 NG K1 S1
  have hb1 : (d : Int) < (x.t : Int) := by omega
  have FX := hid_as (fun W (h : Wy B W g m (.slice (some ⟨lb, lo, none⟩) n lc) wv S T wr) => fail_c i h)
  generalize x.t = t at *
  generalize x.p = p at *
  clear ok
  obtain ⟨op, a, b, c, nm⟩ := x
  simp only at x0 x1 x2 x3 x4 CE
  go_enter Tryd.func45, Tryd.ntmps45
  go_upto_region 1 with fail
  rw [← hbs]
  clear hw1 hbs
  go_region_held3 (fun W => W.cell? ⟨g, 0, none⟩ = some (.slice (some ⟨lb, lo, none⟩) n lc) ∧ W.cell? ⟨bs, 0, none⟩ = some (.int .i64 (i : Int)) ∧ W.cell? ⟨lb, lo + i * 5, none⟩ = some (.int .i64 op) ∧ W.cell? ⟨lb, lo + i * 5 + 1, none⟩ = some (.int .i64 a) ∧ W.cell? ⟨lb, lo + i * 5 + 2, none⟩ = some (.int .i64 b) ∧ W.cell? ⟨lb, lo + i * 5 + 3, none⟩ = some (.int .i64 c) ∧ W.cell? ⟨lb, lo + i * 5 + 4, none⟩ = some (.string nm)) (go_keep) (fail)
  go_upto_region 3 with (go_at_call 59; refine (CE.out _ rfl).mono ?_; rintro e w3 ⟨rfl, A⟩)
  generalize w1.heap.size = X at *
  clear x0 x1 x2 x3 x4
  have b0 := A.b0
  have b1 := A.b1
  have y0 := A.y0
  have y1 := A.y1
  have c0 := A.gw.wy.c0
  have AA := hid_as A
  clear A CE
  go_wp2_with (go_at_call 58; refine (FX.out _ AA.out.gw.wy).mono ?_; rintro e w4 ⟨rfl, hw4, ht⟩)
  (try simp only [Exit.inBlock, Exit.then])
  refine bodyPost_ret (results_none rfl _ _ _) rfl ?_
  have A := AA.out
  have k4 : Below B w3 w4 := ht.below A.gw.wy.gB A.gw.hB
  exact ⟨rfl, A.gw.step k4 hw4, (A.kb.mono hB0).trans k4⟩
set_option maxHeartbeats 3200000 in
set_option maxRecDepth 100000 in
theorem go_bad2 {B : Nat} {w : World} {g m : Nat} {la : Option Addr} {n lc : Nat} {wv : Value} {L : List Ins} {S T : List (Nat × Nat)} {wr : Nat} {i d : Nat} {x : Ins} (G : Gw B w g m la n lc wv L S T wr) (hn : n = L.length) (hn9 : n ≤ 1000000) (hx : L[i]? = some x) (ok : OkI n x) (hd : d ≤ 256) (hT : T.length ≤ 900000000) (hb : ¬ d < x.t) (hb2 : 256 < x.dl d) :
    Calls Tryd.prog 45 #[.pointer (some ⟨g, 0, none⟩), .agg #[.int .i64 (i : Int), .int .i64 (d : Int)]] w fun e w' => e = .returned (.tuple #[]) ∧ Gw B w' g m la n lc wv L S T (min wr i) ∧ Below B w w' := by
  obtain ⟨lb, lo, hla, x0, x1, x2, x3, x4⟩ := G.il.at_ hx
  subst hla
  have hin : i < n := by rw [hn]; exact (List.getElem?_eq_some_iff.1 hx).1
  have hin' : (i : Int) < (n : Int) := by omega
  have hB0 := G.hB
  have hT9 : T.length ≤ 1000000000 := by omega
  have c0 := G.wy.c0
  have tl := ok.t_le
  have pl := ok.p_le
  obtain ⟨w1, hw1⟩ : ∃ w1, w.alloc (.cells #[.int .i64 (i : Int), .int .i64 (d : Int)] 95) = w1 := ⟨_, rfl⟩
  obtain ⟨bs, hbs⟩ : ∃ bs, bs = w.heap.size := ⟨_, rfl⟩
  have K1 : Below w.heap.size w w1 := by rw [← hw1]; exact below_new1 _ _
  have S1 : w1.heap.size = w.heap.size + 1 := by rw [← hw1]; simp
  have b0 : w1.cell? ⟨bs, 0, none⟩ = some (.int .i64 (i : Int)) := by rw [← hw1, hbs]; exact cell_row (l := [.int .i64 (i : Int), .int .i64 (d : Int)]) (k := 0) (heap_alloc_new w _) rfl
  have b1 : w1.cell? ⟨bs, 1, none⟩ = some (.int .i64 (d : Int)) := by rw [← hw1, hbs]; exact cell_row (l := [.int .i64 (i : Int), .int .i64 (d : Int)]) (k := 1) (heap_alloc_new w _) rfl
  have G1 := G.below K1
  have c0 := keep_cell K1 c0
  have x0 := keep_cell K1 x0
  have x1 := keep_cell K1 x1
  have x2 := keep_cell K1 x2
  have x3 := keep_cell K1 x3
  have x4 := keep_cell K1 x4
  have NG : g < w.heap.size ∧ m < w.heap.size ∧ ∀ h, wv.ownBlock = some h → h < w.heap.size := by
    obtain ⟨F, hF, _⟩ := G.wy.map
    exact ⟨G.wy.glt, hF.lt, fun h hh => (G.wy.own.lt h hh).2⟩
  have CE : Hid (∀ w2, w2 = (w1.alloc (.cells #[.int .i64 x.op, .int .i64 x.a, .int .i64 x.b, .int .i64 x.c, .string x.name] 41)).drew → Calls Tryd.prog 59 #[.agg #[.int .i64 x.op, .int .i64 x.a, .int .i64 x.b, .int .i64 x.c, .string x.name]] w2 fun e w3 => e = .returned (.tuple #[.int .i64 (x.t : Nat), .int .i64 (x.p : Nat)]) ∧ At3 B w w3 g m (some ⟨lb, lo, none⟩) n lc wv L S T wr bs w1.heap.size i d x.op x.a) := by
    intro w2 hw2
    have K2 : Below w1.heap.size w1 w2 := by rw [hw2]; exact new_drew _ _
    have G2 := G1.below K2
    refine (eff_w ok w2 G2.tb).mono ?_
    rintro e w3 ⟨rfl, K3⟩
    have r2 : w2.heap[w1.heap.size]? = some (.cells x.cs.toArray 41 (0, 0)) := by rw [hw2]; exact heap_alloc_new w1 _
    refine ⟨rfl, G2.below K3, below_and (below_and K1 K2) K3, keep_cell K3 (keep_cell K2 b0), keep_cell K3 (keep_cell K2 b1), keep_cell K3 (cell_row (k := 0) r2 rfl), keep_cell K3 (cell_row (k := 1) r2 rfl), ⟨fun e => by omega, fun e => by omega, fun e => ?_⟩, ⟨fun e => by omega, fun e => by omega, fun e => ?_⟩⟩
    · have := NG.2.2 _ e.symm; omega
    · have := NG.2.2 _ e.symm; omega
  have OK := hid_as ok
  have HN := hid_as hn
  have HX := hid_as hx
  clear G hn hx G1 NG K1 S1
  have hb1 : ¬ (d : Int) < (x.t : Int) := by omega
  obtain ⟨D, hD⟩ : ∃ D, D = x.dl d := ⟨_, rfl⟩
  rw [← hD] at hb2
  have e1 : (d : Int) - (x.t : Int) + (x.p : Int) = (D : Int) := by unfold Ins.dl at hD; omega
  have hb3 : (256 : Int) < (D : Int) := by omega
  have FX := hid_as (fun W (h : Wy B W g m (.slice (some ⟨lb, lo, none⟩) n lc) wv S T wr) => fail_c i h)
  generalize x.t = t at *
  generalize x.p = p at *
  clear ok hD
  obtain ⟨op, a, b, c, nm⟩ := x
  simp only at x0 x1 x2 x3 x4 CE
  go_enter Tryd.func45, Tryd.ntmps45
  go_upto_region 1 with fail
  rw [← hbs]
  clear hw1 hbs
  go_region_held3 (fun W => W.cell? ⟨g, 0, none⟩ = some (.slice (some ⟨lb, lo, none⟩) n lc) ∧ W.cell? ⟨bs, 0, none⟩ = some (.int .i64 (i : Int)) ∧ W.cell? ⟨lb, lo + i * 5, none⟩ = some (.int .i64 op) ∧ W.cell? ⟨lb, lo + i * 5 + 1, none⟩ = some (.int .i64 a) ∧ W.cell? ⟨lb, lo + i * 5 + 2, none⟩ = some (.int .i64 b) ∧ W.cell? ⟨lb, lo + i * 5 + 3, none⟩ = some (.int .i64 c) ∧ W.cell? ⟨lb, lo + i * 5 + 4, none⟩ = some (.string nm)) (go_keep) (fail)
  go_upto_region 3 with (go_at_call 59; refine (CE.out _ rfl).mono ?_; rintro e w3 ⟨rfl, A⟩)
  generalize w1.heap.size = X at *
  clear x0 x1 x2 x3 x4
  have b0 := A.b0
  have b1 := A.b1
  have y0 := A.y0
  have y1 := A.y1
  have c0 := A.gw.wy.c0
  have AA := hid_as A
  clear A CE
  go_wp2_with (go_at_call 58; refine (FX.out _ AA.out.gw.wy).mono ?_; rintro e w4 ⟨rfl, hw4, ht⟩)
  (try simp only [Exit.inBlock, Exit.then])
  refine bodyPost_ret (results_none rfl _ _ _) rfl ?_
  have A := AA.out
  have k4 : Below B w3 w4 := ht.below A.gw.wy.gB A.gw.hB
  exact ⟨rfl, A.gw.step k4 hw4, (A.kb.mono hB0).trans k4⟩
theorem Came.tlen {q : Nat × Nat} {S T : List (Nat × Nat)} {wr : Nat} {S' T' : List (Nat × Nat)} {wr' : Nat} (h : Came q S T wr S' T' wr') : T'.length ≤ T.length + 1 := by
  by_cases hq : q ∈ S
  · rw [(h.old hq).2]; omega
  · rw [(h.new hq).2, List.length_append]; simp
theorem come_g {B : Nat} {w : World} {g m : Nat} {la : Option Addr} {n lc : Nat} {wv : Value} {L : List Ins} {S T : List (Nat × Nat)} {wr k D : Nat} (h : Gw B w g m la n lc wv L S T wr) (hi : k ≤ 9000000000000000000) (hd : D ≤ 256) (hT : T.length ≤ 1000000000) :
    Calls Tryd.prog 44 #[.pointer (some ⟨g, 0, none⟩), .int .i64 (k : Int), .int .i64 (D : Int)] w fun e w' => e = .returned (.tuple #[]) ∧ ∃ wv' S' T' wr', Gw B w' g m la n lc wv' L S' T' wr' ∧ Came (k, D) S T wr S' T' wr' ∧ Below B w w' ∧ Oth w w' g m wv.ownBlock := by
  refine (come_c k D h.wy h.hB hi hd hT).mono ?_
  rintro e w' ⟨rfl, wv', S', T', wr', h1, h2, h3, h4⟩
  exact ⟨rfl, wv', S', T', wr', h.step h3 h1, h2, h3, h4⟩
set_option maxHeartbeats 3200000 in
set_option maxRecDepth 100000 in
theorem go_end {B : Nat} {w : World} {g m : Nat} {la : Option Addr} {n lc : Nat} {wv : Value} {L : List Ins} {S T : List (Nat × Nat)} {wr : Nat} {i d : Nat} {x : Ins} (G : Gw B w g m la n lc wv L S T wr) (hn : n = L.length) (hn9 : n ≤ 1000000) (hx : L[i]? = some x) (ok : OkI n x) (hd : d ≤ 256) (hT : T.length ≤ 900000000) (hb : ¬ d < x.t) (hb2 : ¬ 256 < x.dl d) (ho : x.op = 23) :
    Calls Tryd.prog 45 #[.pointer (some ⟨g, 0, none⟩), .agg #[.int .i64 (i : Int), .int .i64 (d : Int)]] w fun e w' => e = .returned (.tuple #[]) ∧ Gw B w' g m la n lc wv L S T wr ∧ Below B w w' := by
  obtain ⟨lb, lo, hla, x0, x1, x2, x3, x4⟩ := G.il.at_ hx
  subst hla
  have hin : i < n := by rw [hn]; exact (List.getElem?_eq_some_iff.1 hx).1
  have hin' : (i : Int) < (n : Int) := by omega
  have hB0 := G.hB
  have hT9 : T.length ≤ 1000000000 := by omega
  have c0 := G.wy.c0
  have tl := ok.t_le
  have pl := ok.p_le
  obtain ⟨w1, hw1⟩ : ∃ w1, w.alloc (.cells #[.int .i64 (i : Int), .int .i64 (d : Int)] 95) = w1 := ⟨_, rfl⟩
  obtain ⟨bs, hbs⟩ : ∃ bs, bs = w.heap.size := ⟨_, rfl⟩
  have K1 : Below w.heap.size w w1 := by rw [← hw1]; exact below_new1 _ _
  have S1 : w1.heap.size = w.heap.size + 1 := by rw [← hw1]; simp
  have b0 : w1.cell? ⟨bs, 0, none⟩ = some (.int .i64 (i : Int)) := by rw [← hw1, hbs]; exact cell_row (l := [.int .i64 (i : Int), .int .i64 (d : Int)]) (k := 0) (heap_alloc_new w _) rfl
  have b1 : w1.cell? ⟨bs, 1, none⟩ = some (.int .i64 (d : Int)) := by rw [← hw1, hbs]; exact cell_row (l := [.int .i64 (i : Int), .int .i64 (d : Int)]) (k := 1) (heap_alloc_new w _) rfl
  have G1 := G.below K1
  have c0 := keep_cell K1 c0
  have x0 := keep_cell K1 x0
  have x1 := keep_cell K1 x1
  have x2 := keep_cell K1 x2
  have x3 := keep_cell K1 x3
  have x4 := keep_cell K1 x4
  have NG : g < w.heap.size ∧ m < w.heap.size ∧ ∀ h, wv.ownBlock = some h → h < w.heap.size := by
    obtain ⟨F, hF, _⟩ := G.wy.map
    exact ⟨G.wy.glt, hF.lt, fun h hh => (G.wy.own.lt h hh).2⟩
  have CE : Hid (∀ w2, w2 = (w1.alloc (.cells #[.int .i64 x.op, .int .i64 x.a, .int .i64 x.b, .int .i64 x.c, .string x.name] 41)).drew → Calls Tryd.prog 59 #[.agg #[.int .i64 x.op, .int .i64 x.a, .int .i64 x.b, .int .i64 x.c, .string x.name]] w2 fun e w3 => e = .returned (.tuple #[.int .i64 (x.t : Nat), .int .i64 (x.p : Nat)]) ∧ At3 B w w3 g m (some ⟨lb, lo, none⟩) n lc wv L S T wr bs w1.heap.size i d x.op x.a) := by
    intro w2 hw2
    have K2 : Below w1.heap.size w1 w2 := by rw [hw2]; exact new_drew _ _
    have G2 := G1.below K2
    refine (eff_w ok w2 G2.tb).mono ?_
    rintro e w3 ⟨rfl, K3⟩
    have r2 : w2.heap[w1.heap.size]? = some (.cells x.cs.toArray 41 (0, 0)) := by rw [hw2]; exact heap_alloc_new w1 _
    refine ⟨rfl, G2.below K3, below_and (below_and K1 K2) K3, keep_cell K3 (keep_cell K2 b0), keep_cell K3 (keep_cell K2 b1), keep_cell K3 (cell_row (k := 0) r2 rfl), keep_cell K3 (cell_row (k := 1) r2 rfl), ⟨fun e => by omega, fun e => by omega, fun e => ?_⟩, ⟨fun e => by omega, fun e => by omega, fun e => ?_⟩⟩
    · have := NG.2.2 _ e.symm; omega
    · have := NG.2.2 _ e.symm; omega
  have OK := hid_as ok
  have HN := hid_as hn
  have HX := hid_as hx
  clear G hn hx G1 NG K1 S1
  have hb1 : ¬ (d : Int) < (x.t : Int) := by omega
  obtain ⟨D, hD⟩ : ∃ D, D = x.dl d := ⟨_, rfl⟩
  rw [← hD] at hb2
  have e1 : (d : Int) - (x.t : Int) + (x.p : Int) = (D : Int) := by unfold Ins.dl at hD; omega
  have hb3 : ¬ (256 : Int) < (D : Int) := by omega
  have hD6 : D ≤ 256 := by omega
  have CX := hid_as (fun (W : World) (wv : Value) (S T : List (Nat × Nat)) (wr k : Nat) (h : Gw B W g m (some ⟨lb, lo, none⟩) n lc wv L S T wr) (hk : k ≤ n) (hT : T.length ≤ 1000000000) => come_g (k := k) h (by omega) hD6 hT)
  have ho1 : (x.op == 23) = true := by rw [ho]; rfl
  clear CX ho
  generalize x.t = t at *
  generalize x.p = p at *
  clear ok hD
  obtain ⟨op, a, b, c, nm⟩ := x
  simp only at x0 x1 x2 x3 x4 CE
  go_enter Tryd.func45, Tryd.ntmps45
  go_upto_region 1 with fail
  rw [← hbs]
  clear hw1 hbs
  go_region_held3 (fun W => W.cell? ⟨g, 0, none⟩ = some (.slice (some ⟨lb, lo, none⟩) n lc) ∧ W.cell? ⟨bs, 0, none⟩ = some (.int .i64 (i : Int)) ∧ W.cell? ⟨lb, lo + i * 5, none⟩ = some (.int .i64 op) ∧ W.cell? ⟨lb, lo + i * 5 + 1, none⟩ = some (.int .i64 a) ∧ W.cell? ⟨lb, lo + i * 5 + 2, none⟩ = some (.int .i64 b) ∧ W.cell? ⟨lb, lo + i * 5 + 3, none⟩ = some (.int .i64 c) ∧ W.cell? ⟨lb, lo + i * 5 + 4, none⟩ = some (.string nm)) (go_keep) (fail)
  go_upto_region 3 with (go_at_call 59; refine (CE.out _ rfl).mono ?_; rintro e w3 ⟨rfl, A⟩)
  generalize w1.heap.size = X at *
  clear x0 x1 x2 x3 x4
  have b0 := A.b0
  have b1 := A.b1
  have y0 := A.y0
  have y1 := A.y1
  have c0 := A.gw.wy.c0
  have AA := hid_as A
  clear A CE
  go_wp2
  (try simp only [Exit.inBlock, Exit.then])
  refine bodyPost_ret (results_none rfl _ _ _) rfl ?_
  have A := AA.out
  exact ⟨rfl, A.gw, A.kb.mono hB0⟩
set_option maxHeartbeats 800000 in
set_option maxRecDepth 100000 in
theorem go_jump {B : Nat} {w : World} {g m : Nat} {la : Option Addr} {n lc : Nat} {wv : Value} {L : List Ins} {S T : List (Nat × Nat)} {wr : Nat} {i d : Nat} {x : Ins} (G : Gw B w g m la n lc wv L S T wr) (hn : n = L.length) (hn9 : n ≤ 1000000) (hx : L[i]? = some x) (ok : OkI n x) (hd : d ≤ 256) (hT : T.length ≤ 900000000) (hb : ¬ d < x.t) (hb2 : ¬ 256 < x.dl d) (ho : x.op = 18) (an : Nat) (hxa : x.a = (an : Int)) (hk : an ≤ n) :
    Calls Tryd.prog 45 #[.pointer (some ⟨g, 0, none⟩), .agg #[.int .i64 (i : Int), .int .i64 (d : Int)]] w fun e w' => e = .returned (.tuple #[]) ∧ ∃ wv' S' T' wr', Gw B w' g m la n lc wv' L S' T' wr' ∧ Came (an, x.dl d) S T wr S' T' wr' ∧ Below B w w' := by
  obtain ⟨lb, lo, hla, x0, x1, x2, x3, x4⟩ := G.il.at_ hx
  subst hla
  have hin : i < n := by rw [hn]; exact (List.getElem?_eq_some_iff.1 hx).1
  have hin' : (i : Int) < (n : Int) := by omega
  have hB0 := G.hB
  have hT9 : T.length ≤ 1000000000 := by omega
  have c0 := G.wy.c0
  have tl := ok.t_le
  have pl := ok.p_le
  obtain ⟨w1, hw1⟩ : ∃ w1, w.alloc (.cells #[.int .i64 (i : Int), .int .i64 (d : Int)] 95) = w1 := ⟨_, rfl⟩
  obtain ⟨bs, hbs⟩ : ∃ bs, bs = w.heap.size := ⟨_, rfl⟩
  have K1 : Below w.heap.size w w1 := by rw [← hw1]; exact below_new1 _ _
  have S1 : w1.heap.size = w.heap.size + 1 := by rw [← hw1]; simp
  have b0 : w1.cell? ⟨bs, 0, none⟩ = some (.int .i64 (i : Int)) := by rw [← hw1, hbs]; exact cell_row (l := [.int .i64 (i : Int), .int .i64 (d : Int)]) (k := 0) (heap_alloc_new w _) rfl
  have b1 : w1.cell? ⟨bs, 1, none⟩ = some (.int .i64 (d : Int)) := by rw [← hw1, hbs]; exact cell_row (l := [.int .i64 (i : Int), .int .i64 (d : Int)]) (k := 1) (heap_alloc_new w _) rfl
  have G1 := G.below K1
  have c0 := keep_cell K1 c0
  have x0 := keep_cell K1 x0
  have x1 := keep_cell K1 x1
  have x2 := keep_cell K1 x2
  have x3 := keep_cell K1 x3
  have x4 := keep_cell K1 x4
  have NG : g < w.heap.size ∧ m < w.heap.size ∧ ∀ h, wv.ownBlock = some h → h < w.heap.size := by
    obtain ⟨F, hF, _⟩ := G.wy.map
    exact ⟨G.wy.glt, hF.lt, fun h hh => (G.wy.own.lt h hh).2⟩
  have CE : Hid (∀ w2, w2 = (w1.alloc (.cells #[.int .i64 x.op, .int .i64 x.a, .int .i64 x.b, .int .i64 x.c, .string x.name] 41)).drew → Calls Tryd.prog 59 #[.agg #[.int .i64 x.op, .int .i64 x.a, .int .i64 x.b, .int .i64 x.c, .string x.name]] w2 fun e w3 => e = .returned (.tuple #[.int .i64 (x.t : Nat), .int .i64 (x.p : Nat)]) ∧ At3 B w w3 g m (some ⟨lb, lo, none⟩) n lc wv L S T wr bs w1.heap.size i d x.op x.a) := by
    intro w2 hw2
    have K2 : Below w1.heap.size w1 w2 := by rw [hw2]; exact new_drew _ _
    have G2 := G1.below K2
    refine (eff_w ok w2 G2.tb).mono ?_
    rintro e w3 ⟨rfl, K3⟩
    have r2 : w2.heap[w1.heap.size]? = some (.cells x.cs.toArray 41 (0, 0)) := by rw [hw2]; exact heap_alloc_new w1 _
    refine ⟨rfl, G2.below K3, below_and (below_and K1 K2) K3, keep_cell K3 (keep_cell K2 b0), keep_cell K3 (keep_cell K2 b1), keep_cell K3 (cell_row (k := 0) r2 rfl), keep_cell K3 (cell_row (k := 1) r2 rfl), ⟨fun e => by omega, fun e => by omega, fun e => ?_⟩, ⟨fun e => by omega, fun e => by omega, fun e => ?_⟩⟩
    · have := NG.2.2 _ e.symm; omega
    · have := NG.2.2 _ e.symm; omega
  have OK := hid_as ok
  have HN := hid_as hn
  have HX := hid_as hx
  clear G hn hx G1 NG K1 S1
  have hb1 : ¬ (d : Int) < (x.t : Int) := by omega
  obtain ⟨D, hD⟩ : ∃ D, D = x.dl d := ⟨_, rfl⟩
  rw [← hD] at hb2 ⊢
  have e1 : (d : Int) - (x.t : Int) + (x.p : Int) = (D : Int) := by unfold Ins.dl at hD; omega
  have hb3 : ¬ (256 : Int) < (D : Int) := by omega
  have hD6 : D ≤ 256 := by omega
  have CX := hid_as (fun (W : World) (wv : Value) (S T : List (Nat × Nat)) (wr k : Nat) (h : Gw B W g m (some ⟨lb, lo, none⟩) n lc wv L S T wr) (hk : k ≤ n) (hT : T.length ≤ 1000000000) => come_g (k := k) h (by omega) hD6 hT)
  have ho1 : (x.op == 23) = false := by rw [ho]; rfl
  have ho2 : (x.op == 18) = true := by rw [ho]; rfl
  clear ho
  generalize x.t = t at *
  generalize x.p = p at *
  clear ok hD
  obtain ⟨op, a, b, c, nm⟩ := x
  simp only at x0 x1 x2 x3 x4 CE hxa
  subst hxa
  go_enter Tryd.func45, Tryd.ntmps45
  go_upto_region 1 with fail
  rw [← hbs]
  clear hw1 hbs
  go_region_held3 (fun W => W.cell? ⟨g, 0, none⟩ = some (.slice (some ⟨lb, lo, none⟩) n lc) ∧ W.cell? ⟨bs, 0, none⟩ = some (.int .i64 (i : Int)) ∧ W.cell? ⟨lb, lo + i * 5, none⟩ = some (.int .i64 op) ∧ W.cell? ⟨lb, lo + i * 5 + 1, none⟩ = some (.int .i64 (an : Int)) ∧ W.cell? ⟨lb, lo + i * 5 + 2, none⟩ = some (.int .i64 b) ∧ W.cell? ⟨lb, lo + i * 5 + 3, none⟩ = some (.int .i64 c) ∧ W.cell? ⟨lb, lo + i * 5 + 4, none⟩ = some (.string nm)) (go_keep) (fail)
  go_upto_region 3 with (go_at_call 59; refine (CE.out _ rfl).mono ?_; rintro e w3 ⟨rfl, A⟩)
  generalize w1.heap.size = X at *
  clear x0 x1 x2 x3 x4
  have b0 := A.b0
  have b1 := A.b1
  have y0 := A.y0
  have y1 := A.y1
  have c0 := A.gw.wy.c0
  have AA := hid_as A
  clear A CE
  go_wp2_with (go_at_call 44; refine (CX.out w3 wv S T wr an AA.out.gw hk hT9).mono ?_; rintro e w4 ⟨rfl, wv', S', T', wr', h1, h2, h3, h4⟩)
  (try simp only [Exit.inBlock, Exit.then])
  refine bodyPost_ret (results_none rfl _ _ _) rfl ?_
  have A := AA.out
  exact ⟨rfl, wv', S', T', wr', h1, h2, (A.kb.mono hB0).trans h3⟩
set_option maxHeartbeats 800000 in
set_option maxRecDepth 100000 in
theorem go_fall1 {B : Nat} {w : World} {g m : Nat} {la : Option Addr} {n lc : Nat} {wv : Value} {L : List Ins} {S T : List (Nat × Nat)} {wr : Nat} {i d : Nat} {x : Ins} (G : Gw B w g m la n lc wv L S T wr) (hn : n = L.length) (hn9 : n ≤ 1000000) (hx : L[i]? = some x) (ok : OkI n x) (hd : d ≤ 256) (hT : T.length ≤ 900000000) (hb : ¬ d < x.t) (hb2 : ¬ 256 < x.dl d) (ho : x.op ≠ 23 ∧ x.op ≠ 18 ∧ x.op ≠ 19 ∧ x.op ≠ 20) (hl : i + 1 = n) :
    Calls Tryd.prog 45 #[.pointer (some ⟨g, 0, none⟩), .agg #[.int .i64 (i : Int), .int .i64 (d : Int)]] w fun e w' => e = .returned (.tuple #[]) ∧ Gw B w' g m la n lc wv L S T (min wr i) ∧ Below B w w' := by
  obtain ⟨lb, lo, hla, x0, x1, x2, x3, x4⟩ := G.il.at_ hx
  subst hla
  have hin : i < n := by rw [hn]; exact (List.getElem?_eq_some_iff.1 hx).1
  have hin' : (i : Int) < (n : Int) := by omega
  have hB0 := G.hB
  have hT9 : T.length ≤ 1000000000 := by omega
  have c0 := G.wy.c0
  have tl := ok.t_le
  have pl := ok.p_le
  obtain ⟨w1, hw1⟩ : ∃ w1, w.alloc (.cells #[.int .i64 (i : Int), .int .i64 (d : Int)] 95) = w1 := ⟨_, rfl⟩
  obtain ⟨bs, hbs⟩ : ∃ bs, bs = w.heap.size := ⟨_, rfl⟩
  have K1 : Below w.heap.size w w1 := by rw [← hw1]; exact below_new1 _ _
  have S1 : w1.heap.size = w.heap.size + 1 := by rw [← hw1]; simp
  have b0 : w1.cell? ⟨bs, 0, none⟩ = some (.int .i64 (i : Int)) := by rw [← hw1, hbs]; exact cell_row (l := [.int .i64 (i : Int), .int .i64 (d : Int)]) (k := 0) (heap_alloc_new w _) rfl
  have b1 : w1.cell? ⟨bs, 1, none⟩ = some (.int .i64 (d : Int)) := by rw [← hw1, hbs]; exact cell_row (l := [.int .i64 (i : Int), .int .i64 (d : Int)]) (k := 1) (heap_alloc_new w _) rfl
  have G1 := G.below K1
  have c0 := keep_cell K1 c0
  have x0 := keep_cell K1 x0
  have x1 := keep_cell K1 x1
  have x2 := keep_cell K1 x2
  have x3 := keep_cell K1 x3
  have x4 := keep_cell K1 x4
  have NG : g < w.heap.size ∧ m < w.heap.size ∧ ∀ h, wv.ownBlock = some h → h < w.heap.size := by
    obtain ⟨F, hF, _⟩ := G.wy.map
    exact ⟨G.wy.glt, hF.lt, fun h hh => (G.wy.own.lt h hh).2⟩
  have CE : Hid (∀ w2, w2 = (w1.alloc (.cells #[.int .i64 x.op, .int .i64 x.a, .int .i64 x.b, .int .i64 x.c, .string x.name] 41)).drew → Calls Tryd.prog 59 #[.agg #[.int .i64 x.op, .int .i64 x.a, .int .i64 x.b, .int .i64 x.c, .string x.name]] w2 fun e w3 => e = .returned (.tuple #[.int .i64 (x.t : Nat), .int .i64 (x.p : Nat)]) ∧ At3 B w w3 g m (some ⟨lb, lo, none⟩) n lc wv L S T wr bs w1.heap.size i d x.op x.a) := by
    intro w2 hw2
    have K2 : Below w1.heap.size w1 w2 := by rw [hw2]; exact new_drew _ _
    have G2 := G1.below K2
    refine (eff_w ok w2 G2.tb).mono ?_
    rintro e w3 ⟨rfl, K3⟩
    have r2 : w2.heap[w1.heap.size]? = some (.cells x.cs.toArray 41 (0, 0)) := by rw [hw2]; exact heap_alloc_new w1 _
    refine ⟨rfl, G2.below K3, below_and (below_and K1 K2) K3, keep_cell K3 (keep_cell K2 b0), keep_cell K3 (keep_cell K2 b1), keep_cell K3 (cell_row (k := 0) r2 rfl), keep_cell K3 (cell_row (k := 1) r2 rfl), ⟨fun e => by omega, fun e => by omega, fun e => ?_⟩, ⟨fun e => by omega, fun e => by omega, fun e => ?_⟩⟩
    · have := NG.2.2 _ e.symm; omega
    · have := NG.2.2 _ e.symm; omega
  have OK := hid_as ok
  have HN := hid_as hn
  have HX := hid_as hx
  clear G hn hx G1 NG K1 S1
  have hb1 : ¬ (d : Int) < (x.t : Int) := by omega
  obtain ⟨D, hD⟩ : ∃ D, D = x.dl d := ⟨_, rfl⟩
  rw [← hD] at hb2
  have e1 : (d : Int) - (x.t : Int) + (x.p : Int) = (D : Int) := by unfold Ins.dl at hD; omega
  have hb3 : ¬ (256 : Int) < (D : Int) := by omega
  have hD6 : D ≤ 256 := by omega
  have CX := hid_as (fun (W : World) (wv : Value) (S T : List (Nat × Nat)) (wr k : Nat) (h : Gw B W g m (some ⟨lb, lo, none⟩) n lc wv L S T wr) (hk : k ≤ n) (hT : T.length ≤ 1000000000) => come_g (k := k) h (by omega) hD6 hT)
  have FX := hid_as (fun (W : World) (wv : Value) (S T : List (Nat × Nat)) (wr : Nat) (h : Wy B W g m (.slice (some ⟨lb, lo, none⟩) n lc) wv S T wr) => fail_c i h)
  have ho1 := ne_b ho.1
  have ho2 := ne_b ho.2.1
  have ho3 := ne_b ho.2.2.1
  have ho4 := ne_b ho.2.2.2
  clear ho
  obtain ⟨j, hj⟩ : ∃ j : Nat, j = i + 1 := ⟨_, rfl⟩
  have ej : (i : Int) + 1 = (j : Int) := by omega
  have hE : ((j : Int) == (n : Int)) = true := by rw [beq_iff_eq]; omega
  clear CX
  generalize x.t = t at *
  generalize x.p = p at *
  clear ok hD
  clear hj hl
  obtain ⟨op, a, b, c, nm⟩ := x
  simp only at x0 x1 x2 x3 x4 CE
  go_enter Tryd.func45, Tryd.ntmps45
  go_upto_region 1 with fail
  rw [← hbs]
  clear hw1 hbs
  go_region_held3 (fun W => W.cell? ⟨g, 0, none⟩ = some (.slice (some ⟨lb, lo, none⟩) n lc) ∧ W.cell? ⟨bs, 0, none⟩ = some (.int .i64 (i : Int)) ∧ W.cell? ⟨lb, lo + i * 5, none⟩ = some (.int .i64 op) ∧ W.cell? ⟨lb, lo + i * 5 + 1, none⟩ = some (.int .i64 a) ∧ W.cell? ⟨lb, lo + i * 5 + 2, none⟩ = some (.int .i64 b) ∧ W.cell? ⟨lb, lo + i * 5 + 3, none⟩ = some (.int .i64 c) ∧ W.cell? ⟨lb, lo + i * 5 + 4, none⟩ = some (.string nm)) (go_keep) (fail)
  go_upto_region 3 with (go_at_call 59; refine (CE.out _ rfl).mono ?_; rintro e w3 ⟨rfl, A⟩)
  generalize w1.heap.size = X at *
  clear x0 x1 x2 x3 x4
  have b0 := A.b0
  have b1 := A.b1
  have y0 := A.y0
  have y1 := A.y1
  have c0 := A.gw.wy.c0
  have AA := hid_as A
  clear A CE
  go_upto_region 13 with fail
  go_region
  go_wp2_with (go_at_call 58; refine (FX.out w3.drew wv S T wr (AA.out.gw.wy.same (Same.drew _))).mono ?_; rintro e w4 ⟨rfl, hw4, ht⟩)
  (try simp only [Exit.inBlock, Exit.then])
  refine bodyPost_ret (results_none rfl _ _ _) rfl ?_
  have A := AA.out
  have k4 : Below B w3 w4 := ((Same.drew w3).below.mono A.gw.hB).trans (ht.below A.gw.wy.gB A.gw.hB)
  exact ⟨rfl, A.gw.step k4 hw4, (A.kb.mono hB0).trans k4⟩
set_option maxHeartbeats 800000 in
set_option maxRecDepth 100000 in
theorem go_fall2 {B : Nat} {w : World} {g m : Nat} {la : Option Addr} {n lc : Nat} {wv : Value} {L : List Ins} {S T : List (Nat × Nat)} {wr : Nat} {i d : Nat} {x : Ins} (G : Gw B w g m la n lc wv L S T wr) (hn : n = L.length) (hn9 : n ≤ 1000000) (hx : L[i]? = some x) (ok : OkI n x) (hd : d ≤ 256) (hT : T.length ≤ 900000000) (hb : ¬ d < x.t) (hb2 : ¬ 256 < x.dl d) (ho : x.op ≠ 23 ∧ x.op ≠ 18 ∧ x.op ≠ 19 ∧ x.op ≠ 20) (hl : i + 1 < n) :
    Calls Tryd.prog 45 #[.pointer (some ⟨g, 0, none⟩), .agg #[.int .i64 (i : Int), .int .i64 (d : Int)]] w fun e w' => e = .returned (.tuple #[]) ∧ ∃ wv' S' T' wr', Gw B w' g m la n lc wv' L S' T' wr' ∧ Came (i + 1, x.dl d) S T wr S' T' wr' ∧ Below B w w' := by
  obtain ⟨lb, lo, hla, x0, x1, x2, x3, x4⟩ := G.il.at_ hx
  subst hla
  have hin : i < n := by rw [hn]; exact (List.getElem?_eq_some_iff.1 hx).1
  have hin' : (i : Int) < (n : Int) := by omega
  have hB0 := G.hB
  have hT9 : T.length ≤ 1000000000 := by omega
  have c0 := G.wy.c0
  have tl := ok.t_le
  have pl := ok.p_le
  obtain ⟨w1, hw1⟩ : ∃ w1, w.alloc (.cells #[.int .i64 (i : Int), .int .i64 (d : Int)] 95) = w1 := ⟨_, rfl⟩
  obtain ⟨bs, hbs⟩ : ∃ bs, bs = w.heap.size := ⟨_, rfl⟩
  have K1 : Below w.heap.size w w1 := by rw [← hw1]; exact below_new1 _ _
  have S1 : w1.heap.size = w.heap.size + 1 := by rw [← hw1]; simp
  have b0 : w1.cell? ⟨bs, 0, none⟩ = some (.int .i64 (i : Int)) := by rw [← hw1, hbs]; exact cell_row (l := [.int .i64 (i : Int), .int .i64 (d : Int)]) (k := 0) (heap_alloc_new w _) rfl
  have b1 : w1.cell? ⟨bs, 1, none⟩ = some (.int .i64 (d : Int)) := by rw [← hw1, hbs]; exact cell_row (l := [.int .i64 (i : Int), .int .i64 (d : Int)]) (k := 1) (heap_alloc_new w _) rfl
  have G1 := G.below K1
  have c0 := keep_cell K1 c0
  have x0 := keep_cell K1 x0
  have x1 := keep_cell K1 x1
  have x2 := keep_cell K1 x2
  have x3 := keep_cell K1 x3
  have x4 := keep_cell K1 x4
  have NG : g < w.heap.size ∧ m < w.heap.size ∧ ∀ h, wv.ownBlock = some h → h < w.heap.size := by
    obtain ⟨F, hF, _⟩ := G.wy.map
    exact ⟨G.wy.glt, hF.lt, fun h hh => (G.wy.own.lt h hh).2⟩
  have CE : Hid (∀ w2, w2 = (w1.alloc (.cells #[.int .i64 x.op, .int .i64 x.a, .int .i64 x.b, .int .i64 x.c, .string x.name] 41)).drew → Calls Tryd.prog 59 #[.agg #[.int .i64 x.op, .int .i64 x.a, .int .i64 x.b, .int .i64 x.c, .string x.name]] w2 fun e w3 => e = .returned (.tuple #[.int .i64 (x.t : Nat), .int .i64 (x.p : Nat)]) ∧ At3 B w w3 g m (some ⟨lb, lo, none⟩) n lc wv L S T wr bs w1.heap.size i d x.op x.a) := by
    intro w2 hw2
    have K2 : Below w1.heap.size w1 w2 := by rw [hw2]; exact new_drew _ _
    have G2 := G1.below K2
    refine (eff_w ok w2 G2.tb).mono ?_
    rintro e w3 ⟨rfl, K3⟩
    have r2 : w2.heap[w1.heap.size]? = some (.cells x.cs.toArray 41 (0, 0)) := by rw [hw2]; exact heap_alloc_new w1 _
    refine ⟨rfl, G2.below K3, below_and (below_and K1 K2) K3, keep_cell K3 (keep_cell K2 b0), keep_cell K3 (keep_cell K2 b1), keep_cell K3 (cell_row (k := 0) r2 rfl), keep_cell K3 (cell_row (k := 1) r2 rfl), ⟨fun e => by omega, fun e => by omega, fun e => ?_⟩, ⟨fun e => by omega, fun e => by omega, fun e => ?_⟩⟩
    · have := NG.2.2 _ e.symm; omega
    · have := NG.2.2 _ e.symm; omega
  have OK := hid_as ok
  have HN := hid_as hn
  have HX := hid_as hx
  clear G hn hx G1 NG K1 S1
  have hb1 : ¬ (d : Int) < (x.t : Int) := by omega
  obtain ⟨D, hD⟩ : ∃ D, D = x.dl d := ⟨_, rfl⟩
  rw [← hD] at hb2 ⊢
  have e1 : (d : Int) - (x.t : Int) + (x.p : Int) = (D : Int) := by unfold Ins.dl at hD; omega
  have hb3 : ¬ (256 : Int) < (D : Int) := by omega
  have hD6 : D ≤ 256 := by omega
  have CX := hid_as (fun (W : World) (wv : Value) (S T : List (Nat × Nat)) (wr k : Nat) (h : Gw B W g m (some ⟨lb, lo, none⟩) n lc wv L S T wr) (hk : k ≤ n) (hT : T.length ≤ 1000000000) => come_g (k := k) h (by omega) hD6 hT)
  have ho1 := ne_b ho.1
  have ho2 := ne_b ho.2.1
  have ho3 := ne_b ho.2.2.1
  have ho4 := ne_b ho.2.2.2
  clear ho
  obtain ⟨j, hj⟩ : ∃ j : Nat, j = i + 1 := ⟨_, rfl⟩
  have ej : (i : Int) + 1 = (j : Int) := by omega
  rw [← hj] at hl ⊢
  have hE : ((j : Int) == (n : Int)) = false := by rw [beq_eq_false_iff_ne]; omega
  have hk : j ≤ n := by omega
  generalize x.t = t at *
  generalize x.p = p at *
  clear ok hD
  clear hj hl
  obtain ⟨op, a, b, c, nm⟩ := x
  simp only at x0 x1 x2 x3 x4 CE
  go_enter Tryd.func45, Tryd.ntmps45
  go_upto_region 1 with fail
  rw [← hbs]
  clear hw1 hbs
  go_region_held3 (fun W => W.cell? ⟨g, 0, none⟩ = some (.slice (some ⟨lb, lo, none⟩) n lc) ∧ W.cell? ⟨bs, 0, none⟩ = some (.int .i64 (i : Int)) ∧ W.cell? ⟨lb, lo + i * 5, none⟩ = some (.int .i64 op) ∧ W.cell? ⟨lb, lo + i * 5 + 1, none⟩ = some (.int .i64 a) ∧ W.cell? ⟨lb, lo + i * 5 + 2, none⟩ = some (.int .i64 b) ∧ W.cell? ⟨lb, lo + i * 5 + 3, none⟩ = some (.int .i64 c) ∧ W.cell? ⟨lb, lo + i * 5 + 4, none⟩ = some (.string nm)) (go_keep) (fail)
  go_upto_region 3 with (go_at_call 59; refine (CE.out _ rfl).mono ?_; rintro e w3 ⟨rfl, A⟩)
  generalize w1.heap.size = X at *
  clear x0 x1 x2 x3 x4
  have b0 := A.b0
  have b1 := A.b1
  have y0 := A.y0
  have y1 := A.y1
  have c0 := A.gw.wy.c0
  have AA := hid_as A
  clear A CE
  go_upto_region 13 with fail
  go_region
  go_wp2_with (go_at_call 44; refine (CX.out w3.drew wv S T wr j (AA.out.gw.below (Same.drew _).below) hk hT9).mono ?_; rintro e w4 ⟨rfl, wv', S', T', wr', h1, h2, h3, h4⟩)
  go_end0
  have A := AA.out
  exact ⟨rfl, wv', S', T', wr', h1, h2, (A.kb.mono hB0).trans (((Same.drew w3).below.mono A.gw.hB).trans h3)⟩
set_option maxHeartbeats 800000 in
set_option maxRecDepth 100000 in
theorem go_zero19a {B : Nat} {w : World} {g m : Nat} {la : Option Addr} {n lc : Nat} {wv : Value} {L : List Ins} {S T : List (Nat × Nat)} {wr : Nat} {i d : Nat} {x : Ins} (G : Gw B w g m la n lc wv L S T wr) (hn : n = L.length) (hn9 : n ≤ 1000000) (hx : L[i]? = some x) (ok : OkI n x) (hd : d ≤ 256) (hT : T.length ≤ 900000000) (hb : ¬ d < x.t) (hb2 : ¬ 256 < x.dl d) (ho : x.op = 19) (an : Nat) (hxa : x.a = (an : Int)) (hk : an ≤ n) (hl : i + 1 = n) :
    Calls Tryd.prog 45 #[.pointer (some ⟨g, 0, none⟩), .agg #[.int .i64 (i : Int), .int .i64 (d : Int)]] w fun e w' => e = .returned (.tuple #[]) ∧ ∃ wv' S' T' wr', Gw B w' g m la n lc wv' L S' T' (min wr' i) ∧ Came (an, x.dl d) S T wr S' T' wr' ∧ Below B w w' := by
  obtain ⟨lb, lo, hla, x0, x1, x2, x3, x4⟩ := G.il.at_ hx
  subst hla
  have hin : i < n := by rw [hn]; exact (List.getElem?_eq_some_iff.1 hx).1
  have hin' : (i : Int) < (n : Int) := by omega
  have hB0 := G.hB
  have hT9 : T.length ≤ 1000000000 := by omega
  have c0 := G.wy.c0
  have tl := ok.t_le
  have pl := ok.p_le
  obtain ⟨w1, hw1⟩ : ∃ w1, w.alloc (.cells #[.int .i64 (i : Int), .int .i64 (d : Int)] 95) = w1 := ⟨_, rfl⟩
  obtain ⟨bs, hbs⟩ : ∃ bs, bs = w.heap.size := ⟨_, rfl⟩
  have K1 : Below w.heap.size w w1 := by rw [← hw1]; exact below_new1 _ _
  have S1 : w1.heap.size = w.heap.size + 1 := by rw [← hw1]; simp
  have b0 : w1.cell? ⟨bs, 0, none⟩ = some (.int .i64 (i : Int)) := by rw [← hw1, hbs]; exact cell_row (l := [.int .i64 (i : Int), .int .i64 (d : Int)]) (k := 0) (heap_alloc_new w _) rfl
  have b1 : w1.cell? ⟨bs, 1, none⟩ = some (.int .i64 (d : Int)) := by rw [← hw1, hbs]; exact cell_row (l := [.int .i64 (i : Int), .int .i64 (d : Int)]) (k := 1) (heap_alloc_new w _) rfl
  have G1 := G.below K1
  have c0 := keep_cell K1 c0
  have x0 := keep_cell K1 x0
  have x1 := keep_cell K1 x1
  have x2 := keep_cell K1 x2
  have x3 := keep_cell K1 x3
  have x4 := keep_cell K1 x4
  have NG : g < w.heap.size ∧ m < w.heap.size ∧ ∀ h, wv.ownBlock = some h → h < w.heap.size := by
    obtain ⟨F, hF, _⟩ := G.wy.map
    exact ⟨G.wy.glt, hF.lt, fun h hh => (G.wy.own.lt h hh).2⟩
  have CE : Hid (∀ w2, w2 = (w1.alloc (.cells #[.int .i64 x.op, .int .i64 x.a, .int .i64 x.b, .int .i64 x.c, .string x.name] 41)).drew → Calls Tryd.prog 59 #[.agg #[.int .i64 x.op, .int .i64 x.a, .int .i64 x.b, .int .i64 x.c, .string x.name]] w2 fun e w3 => e = .returned (.tuple #[.int .i64 (x.t : Nat), .int .i64 (x.p : Nat)]) ∧ At3 B w w3 g m (some ⟨lb, lo, none⟩) n lc wv L S T wr bs w1.heap.size i d x.op x.a) := by
    intro w2 hw2
    have K2 : Below w1.heap.size w1 w2 := by rw [hw2]; exact new_drew _ _
    have G2 := G1.below K2
    refine (eff_w ok w2 G2.tb).mono ?_
    rintro e w3 ⟨rfl, K3⟩
    have r2 : w2.heap[w1.heap.size]? = some (.cells x.cs.toArray 41 (0, 0)) := by rw [hw2]; exact heap_alloc_new w1 _
    refine ⟨rfl, G2.below K3, below_and (below_and K1 K2) K3, keep_cell K3 (keep_cell K2 b0), keep_cell K3 (keep_cell K2 b1), keep_cell K3 (cell_row (k := 0) r2 rfl), keep_cell K3 (cell_row (k := 1) r2 rfl), ⟨fun e => by omega, fun e => by omega, fun e => ?_⟩, ⟨fun e => by omega, fun e => by omega, fun e => ?_⟩⟩
    · have := NG.2.2 _ e.symm; omega
    · have := NG.2.2 _ e.symm; omega
  have OK := hid_as ok
  have HN := hid_as hn
  have HX := hid_as hx
  clear G hn hx G1 NG K1 S1
  have hb1 : ¬ (d : Int) < (x.t : Int) := by omega
  obtain ⟨D, hD⟩ : ∃ D, D = x.dl d := ⟨_, rfl⟩
  rw [← hD] at hb2 ⊢
  have e1 : (d : Int) - (x.t : Int) + (x.p : Int) = (D : Int) := by unfold Ins.dl at hD; omega
  have hb3 : ¬ (256 : Int) < (D : Int) := by omega
  have hD6 : D ≤ 256 := by omega
  have CX := hid_as (fun (W : World) (wv : Value) (S T : List (Nat × Nat)) (wr k : Nat) (h : Gw B W g m (some ⟨lb, lo, none⟩) n lc wv L S T wr) (hk : k ≤ n) (hT : T.length ≤ 1000000000) => come_g (k := k) h (by omega) hD6 hT)
  have FX := hid_as (fun (W : World) (wv : Value) (S T : List (Nat × Nat)) (wr : Nat) (h : Wy B W g m (.slice (some ⟨lb, lo, none⟩) n lc) wv S T wr) => fail_c i h)
  have ho1 : (x.op == 23) = false := by rw [ho]; rfl
  have ho2 : (x.op == 18) = false := by rw [ho]; rfl
  have ho3 : (x.op == 19) = true := by rw [ho]; rfl
  clear ho
  obtain ⟨j, hj⟩ : ∃ j : Nat, j = i + 1 := ⟨_, rfl⟩
  have ej : (i : Int) + 1 = (j : Int) := by omega
  have hE : ((j : Int) == (n : Int)) = true := by rw [beq_iff_eq]; omega
  generalize x.t = t at *
  generalize x.p = p at *
  clear ok hD
  clear hj hl
  obtain ⟨op, a, b, c, nm⟩ := x
  simp only at x0 x1 x2 x3 x4 CE hxa
  subst hxa
  go_enter Tryd.func45, Tryd.ntmps45
  go_upto_region 1 with fail
  rw [← hbs]
  clear hw1 hbs
  go_region_held3 (fun W => W.cell? ⟨g, 0, none⟩ = some (.slice (some ⟨lb, lo, none⟩) n lc) ∧ W.cell? ⟨bs, 0, none⟩ = some (.int .i64 (i : Int)) ∧ W.cell? ⟨lb, lo + i * 5, none⟩ = some (.int .i64 op) ∧ W.cell? ⟨lb, lo + i * 5 + 1, none⟩ = some (.int .i64 (an : Int)) ∧ W.cell? ⟨lb, lo + i * 5 + 2, none⟩ = some (.int .i64 b) ∧ W.cell? ⟨lb, lo + i * 5 + 3, none⟩ = some (.int .i64 c) ∧ W.cell? ⟨lb, lo + i * 5 + 4, none⟩ = some (.string nm)) (go_keep) (fail)
  go_upto_region 3 with (go_at_call 59; refine (CE.out _ rfl).mono ?_; rintro e w3 ⟨rfl, A⟩)
  generalize w1.heap.size = X at *
  clear x0 x1 x2 x3 x4
  have b0 := A.b0
  have b1 := A.b1
  have y0 := A.y0
  have y1 := A.y1
  have c0 := A.gw.wy.c0
  have AA := hid_as A
  clear A CE
  go_upto_region 13 with (go_at_call 44; refine (CX.out w3 wv S T wr an AA.out.gw hk hT9).mono ?_; rintro e w4 ⟨rfl, wv1, S1, T1, wr1, h1, h2, h3, h4⟩; have b0' := AA.out.on h4; have c0' := h1.wy.c0; have R := hid_as (And.intro h1 (And.intro h2 h3)); clear h1 h2 h3 h4)
  go_region
  go_wp2_with (go_at_call 58; refine (FX.out w4.drew wv1 S1 T1 wr1 (R.out.1.wy.same (Same.drew _))).mono ?_; rintro e w5 ⟨rfl, hw5, ht⟩)
  (try simp only [Exit.inBlock, Exit.then])
  refine bodyPost_ret (results_none rfl _ _ _) rfl ?_
  have A := AA.out
  have k5 : Below B w4 w5 := ((Same.drew w4).below.mono R.out.1.hB).trans (ht.below A.gw.wy.gB R.out.1.hB)
  exact ⟨rfl, wv1, S1, T1, wr1, R.out.1.step k5 hw5, R.out.2.1, ((A.kb.mono hB0).trans R.out.2.2).trans k5⟩
set_option maxHeartbeats 800000 in
set_option maxRecDepth 100000 in
theorem go_zero19b {B : Nat} {w : World} {g m : Nat} {la : Option Addr} {n lc : Nat} {wv : Value} {L : List Ins} {S T : List (Nat × Nat)} {wr : Nat} {i d : Nat} {x : Ins} (G : Gw B w g m la n lc wv L S T wr) (hn : n = L.length) (hn9 : n ≤ 1000000) (hx : L[i]? = some x) (ok : OkI n x) (hd : d ≤ 256) (hT : T.length ≤ 900000000) (hb : ¬ d < x.t) (hb2 : ¬ 256 < x.dl d) (ho : x.op = 19) (an : Nat) (hxa : x.a = (an : Int)) (hk : an ≤ n) (hl : i + 1 < n) :
    Calls Tryd.prog 45 #[.pointer (some ⟨g, 0, none⟩), .agg #[.int .i64 (i : Int), .int .i64 (d : Int)]] w fun e w' => e = .returned (.tuple #[]) ∧ ∃ wv' S1 T1 wr1 S' T' wr', Gw B w' g m la n lc wv' L S' T' wr' ∧ Came (an, x.dl d) S T wr S1 T1 wr1 ∧ Came (i + 1, x.dl d) S1 T1 wr1 S' T' wr' ∧ Below B w w' := by
  obtain ⟨lb, lo, hla, x0, x1, x2, x3, x4⟩ := G.il.at_ hx
  subst hla
  have hin : i < n := by rw [hn]; exact (List.getElem?_eq_some_iff.1 hx).1
  have hin' : (i : Int) < (n : Int) := by omega
  have hB0 := G.hB
  have hT9 : T.length ≤ 1000000000 := by omega
  have c0 := G.wy.c0
  have tl := ok.t_le
  have pl := ok.p_le
  obtain ⟨w1, hw1⟩ : ∃ w1, w.alloc (.cells #[.int .i64 (i : Int), .int .i64 (d : Int)] 95) = w1 := ⟨_, rfl⟩
  obtain ⟨bs, hbs⟩ : ∃ bs, bs = w.heap.size := ⟨_, rfl⟩
  have K1 : Below w.heap.size w w1 := by rw [← hw1]; exact below_new1 _ _
  have S1 : w1.heap.size = w.heap.size + 1 := by rw [← hw1]; simp
  have b0 : w1.cell? ⟨bs, 0, none⟩ = some (.int .i64 (i : Int)) := by rw [← hw1, hbs]; exact cell_row (l := [.int .i64 (i : Int), .int .i64 (d : Int)]) (k := 0) (heap_alloc_new w _) rfl
  have b1 : w1.cell? ⟨bs, 1, none⟩ = some (.int .i64 (d : Int)) := by rw [← hw1, hbs]; exact cell_row (l := [.int .i64 (i : Int), .int .i64 (d : Int)]) (k := 1) (heap_alloc_new w _) rfl
  have G1 := G.below K1
  have c0 := keep_cell K1 c0
  have x0 := keep_cell K1 x0
  have x1 := keep_cell K1 x1
  have x2 := keep_cell K1 x2
  have x3 := keep_cell K1 x3
  have x4 := keep_cell K1 x4
  have NG : g < w.heap.size ∧ m < w.heap.size ∧ ∀ h, wv.ownBlock = some h → h < w.heap.size := by
    obtain ⟨F, hF, _⟩ := G.wy.map
    exact ⟨G.wy.glt, hF.lt, fun h hh => (G.wy.own.lt h hh).2⟩
  have CE : Hid (∀ w2, w2 = (w1.alloc (.cells #[.int .i64 x.op, .int .i64 x.a, .int .i64 x.b, .int .i64 x.c, .string x.name] 41)).drew → Calls Tryd.prog 59 #[.agg #[.int .i64 x.op, .int .i64 x.a, .int .i64 x.b, .int .i64 x.c, .string x.name]] w2 fun e w3 => e = .returned (.tuple #[.int .i64 (x.t : Nat), .int .i64 (x.p : Nat)]) ∧ At3 B w w3 g m (some ⟨lb, lo, none⟩) n lc wv L S T wr bs w1.heap.size i d x.op x.a) := by
    intro w2 hw2
    have K2 : Below w1.heap.size w1 w2 := by rw [hw2]; exact new_drew _ _
    have G2 := G1.below K2
    refine (eff_w ok w2 G2.tb).mono ?_
    rintro e w3 ⟨rfl, K3⟩
    have r2 : w2.heap[w1.heap.size]? = some (.cells x.cs.toArray 41 (0, 0)) := by rw [hw2]; exact heap_alloc_new w1 _
    refine ⟨rfl, G2.below K3, below_and (below_and K1 K2) K3, keep_cell K3 (keep_cell K2 b0), keep_cell K3 (keep_cell K2 b1), keep_cell K3 (cell_row (k := 0) r2 rfl), keep_cell K3 (cell_row (k := 1) r2 rfl), ⟨fun e => by omega, fun e => by omega, fun e => ?_⟩, ⟨fun e => by omega, fun e => by omega, fun e => ?_⟩⟩
    · have := NG.2.2 _ e.symm; omega
    · have := NG.2.2 _ e.symm; omega
  have OK := hid_as ok
  have HN := hid_as hn
  have HX := hid_as hx
  clear G hn hx G1 NG K1 S1
  have hb1 : ¬ (d : Int) < (x.t : Int) := by omega
  obtain ⟨D, hD⟩ : ∃ D, D = x.dl d := ⟨_, rfl⟩
  rw [← hD] at hb2 ⊢
  have e1 : (d : Int) - (x.t : Int) + (x.p : Int) = (D : Int) := by unfold Ins.dl at hD; omega
  have hb3 : ¬ (256 : Int) < (D : Int) := by omega
  have hD6 : D ≤ 256 := by omega
  have CX := hid_as (fun (W : World) (wv : Value) (S T : List (Nat × Nat)) (wr k : Nat) (h : Gw B W g m (some ⟨lb, lo, none⟩) n lc wv L S T wr) (hk : k ≤ n) (hT : T.length ≤ 1000000000) => come_g (k := k) h (by omega) hD6 hT)
  have ho1 : (x.op == 23) = false := by rw [ho]; rfl
  have ho2 : (x.op == 18) = false := by rw [ho]; rfl
  have ho3 : (x.op == 19) = true := by rw [ho]; rfl
  clear ho
  obtain ⟨j, hj⟩ : ∃ j : Nat, j = i + 1 := ⟨_, rfl⟩
  have ej : (i : Int) + 1 = (j : Int) := by omega
  rw [← hj] at hl ⊢
  have hE : ((j : Int) == (n : Int)) = false := by rw [beq_eq_false_iff_ne]; omega
  have hkj : j ≤ n := by omega
  generalize x.t = t at *
  generalize x.p = p at *
  clear ok hD
  clear hj hl
  have HT := hid_as hT
  obtain ⟨op, a, b, c, nm⟩ := x
  simp only at x0 x1 x2 x3 x4 CE hxa
  subst hxa
  go_enter Tryd.func45, Tryd.ntmps45
  go_upto_region 1 with fail
  rw [← hbs]
  clear hw1 hbs
  go_region_held3 (fun W => W.cell? ⟨g, 0, none⟩ = some (.slice (some ⟨lb, lo, none⟩) n lc) ∧ W.cell? ⟨bs, 0, none⟩ = some (.int .i64 (i : Int)) ∧ W.cell? ⟨lb, lo + i * 5, none⟩ = some (.int .i64 op) ∧ W.cell? ⟨lb, lo + i * 5 + 1, none⟩ = some (.int .i64 (an : Int)) ∧ W.cell? ⟨lb, lo + i * 5 + 2, none⟩ = some (.int .i64 b) ∧ W.cell? ⟨lb, lo + i * 5 + 3, none⟩ = some (.int .i64 c) ∧ W.cell? ⟨lb, lo + i * 5 + 4, none⟩ = some (.string nm)) (go_keep) (fail)
  go_upto_region 3 with (go_at_call 59; refine (CE.out _ rfl).mono ?_; rintro e w3 ⟨rfl, A⟩)
  generalize w1.heap.size = X at *
  clear x0 x1 x2 x3 x4
  have b0 := A.b0
  have b1 := A.b1
  have y0 := A.y0
  have y1 := A.y1
  have c0 := A.gw.wy.c0
  have AA := hid_as A
  clear A CE
  go_upto_region 13 with (go_at_call 44; refine (CX.out w3 wv S T wr an AA.out.gw hk hT9).mono ?_; rintro e w4 ⟨rfl, wv1, S1, T1, wr1, h1, h2, h3, h4⟩; have b0' := AA.out.on h4; have c0' := h1.wy.c0; have R := hid_as (And.intro h1 (And.intro h2 h3)); clear h1 h2 h3 h4)
  go_region
  have hT1 : T1.length ≤ 1000000000 := Nat.le_trans (Nat.le_trans R.out.2.1.tlen (Nat.succ_le_succ HT.out)) (by decide)
  go_wp2_with (go_at_call 44; refine (CX.out w4.drew wv1 S1 T1 wr1 j (R.out.1.below (Same.drew _).below) hkj hT1).mono ?_; rintro e w4 ⟨rfl, wv', S', T', wr', h1, h2, h3, h4⟩)
  go_end0
  have A := AA.out
  exact ⟨rfl, wv', S1, T1, wr1, S', T', wr', h1, R.out.2.1, h2, ((A.kb.mono hB0).trans R.out.2.2).trans (((Same.drew _).below.mono R.out.1.hB).trans h3)⟩
set_option maxHeartbeats 800000 in
set_option maxRecDepth 100000 in
theorem go_zero20a {B : Nat} {w : World} {g m : Nat} {la : Option Addr} {n lc : Nat} {wv : Value} {L : List Ins} {S T : List (Nat × Nat)} {wr : Nat} {i d : Nat} {x : Ins} (G : Gw B w g m la n lc wv L S T wr) (hn : n = L.length) (hn9 : n ≤ 1000000) (hx : L[i]? = some x) (ok : OkI n x) (hd : d ≤ 256) (hT : T.length ≤ 900000000) (hb : ¬ d < x.t) (hb2 : ¬ 256 < x.dl d) (ho : x.op = 20) (an : Nat) (hxa : x.a = (an : Int)) (hk : an ≤ n) (hl : i + 1 = n) :
    Calls Tryd.prog 45 #[.pointer (some ⟨g, 0, none⟩), .agg #[.int .i64 (i : Int), .int .i64 (d : Int)]] w fun e w' => e = .returned (.tuple #[]) ∧ ∃ wv' S' T' wr', Gw B w' g m la n lc wv' L S' T' (min wr' i) ∧ Came (an, x.dl d) S T wr S' T' wr' ∧ Below B w w' := by
  obtain ⟨lb, lo, hla, x0, x1, x2, x3, x4⟩ := G.il.at_ hx
  subst hla
  have hin : i < n := by rw [hn]; exact (List.getElem?_eq_some_iff.1 hx).1
  have hin' : (i : Int) < (n : Int) := by omega
  have hB0 := G.hB
  have hT9 : T.length ≤ 1000000000 := by omega
  have c0 := G.wy.c0
  have tl := ok.t_le
  have pl := ok.p_le
  obtain ⟨w1, hw1⟩ : ∃ w1, w.alloc (.cells #[.int .i64 (i : Int), .int .i64 (d : Int)] 95) = w1 := ⟨_, rfl⟩
  obtain ⟨bs, hbs⟩ : ∃ bs, bs = w.heap.size := ⟨_, rfl⟩
  have K1 : Below w.heap.size w w1 := by rw [← hw1]; exact below_new1 _ _
  have S1 : w1.heap.size = w.heap.size + 1 := by rw [← hw1]; simp
  have b0 : w1.cell? ⟨bs, 0, none⟩ = some (.int .i64 (i : Int)) := by rw [← hw1, hbs]; exact cell_row (l := [.int .i64 (i : Int), .int .i64 (d : Int)]) (k := 0) (heap_alloc_new w _) rfl
  have b1 : w1.cell? ⟨bs, 1, none⟩ = some (.int .i64 (d : Int)) := by rw [← hw1, hbs]; exact cell_row (l := [.int .i64 (i : Int), .int .i64 (d : Int)]) (k := 1) (heap_alloc_new w _) rfl
  have G1 := G.below K1
  have c0 := keep_cell K1 c0
  have x0 := keep_cell K1 x0
  have x1 := keep_cell K1 x1
  have x2 := keep_cell K1 x2
  have x3 := keep_cell K1 x3
  have x4 := keep_cell K1 x4
  have NG : g < w.heap.size ∧ m < w.heap.size ∧ ∀ h, wv.ownBlock = some h → h < w.heap.size := by
    obtain ⟨F, hF, _⟩ := G.wy.map
    exact ⟨G.wy.glt, hF.lt, fun h hh => (G.wy.own.lt h hh).2⟩
  have CE : Hid (∀ w2, w2 = (w1.alloc (.cells #[.int .i64 x.op, .int .i64 x.a, .int .i64 x.b, .int .i64 x.c, .string x.name] 41)).drew → Calls Tryd.prog 59 #[.agg #[.int .i64 x.op, .int .i64 x.a, .int .i64 x.b, .int .i64 x.c, .string x.name]] w2 fun e w3 => e = .returned (.tuple #[.int .i64 (x.t : Nat), .int .i64 (x.p : Nat)]) ∧ At3 B w w3 g m (some ⟨lb, lo, none⟩) n lc wv L S T wr bs w1.heap.size i d x.op x.a) := by
    intro w2 hw2
    have K2 : Below w1.heap.size w1 w2 := by rw [hw2]; exact new_drew _ _
    have G2 := G1.below K2
    refine (eff_w ok w2 G2.tb).mono ?_
    rintro e w3 ⟨rfl, K3⟩
    have r2 : w2.heap[w1.heap.size]? = some (.cells x.cs.toArray 41 (0, 0)) := by rw [hw2]; exact heap_alloc_new w1 _
    refine ⟨rfl, G2.below K3, below_and (below_and K1 K2) K3, keep_cell K3 (keep_cell K2 b0), keep_cell K3 (keep_cell K2 b1), keep_cell K3 (cell_row (k := 0) r2 rfl), keep_cell K3 (cell_row (k := 1) r2 rfl), ⟨fun e => by omega, fun e => by omega, fun e => ?_⟩, ⟨fun e => by omega, fun e => by omega, fun e => ?_⟩⟩
    · have := NG.2.2 _ e.symm; omega
    · have := NG.2.2 _ e.symm; omega
  have OK := hid_as ok
  have HN := hid_as hn
  have HX := hid_as hx
  clear G hn hx G1 NG K1 S1
  have hb1 : ¬ (d : Int) < (x.t : Int) := by omega
  obtain ⟨D, hD⟩ : ∃ D, D = x.dl d := ⟨_, rfl⟩
  rw [← hD] at hb2 ⊢
  have e1 : (d : Int) - (x.t : Int) + (x.p : Int) = (D : Int) := by unfold Ins.dl at hD; omega
  have hb3 : ¬ (256 : Int) < (D : Int) := by omega
  have hD6 : D ≤ 256 := by omega
  have CX := hid_as (fun (W : World) (wv : Value) (S T : List (Nat × Nat)) (wr k : Nat) (h : Gw B W g m (some ⟨lb, lo, none⟩) n lc wv L S T wr) (hk : k ≤ n) (hT : T.length ≤ 1000000000) => come_g (k := k) h (by omega) hD6 hT)
  have FX := hid_as (fun (W : World) (wv : Value) (S T : List (Nat × Nat)) (wr : Nat) (h : Wy B W g m (.slice (some ⟨lb, lo, none⟩) n lc) wv S T wr) => fail_c i h)
  have ho1 : (x.op == 23) = false := by rw [ho]; rfl
  have ho2 : (x.op == 18) = false := by rw [ho]; rfl
  have ho3 : (x.op == 19) = false := by rw [ho]; rfl
  have ho4 : (x.op == 20) = true := by rw [ho]; rfl
  clear ho
  obtain ⟨j, hj⟩ : ∃ j : Nat, j = i + 1 := ⟨_, rfl⟩
  have ej : (i : Int) + 1 = (j : Int) := by omega
  have hE : ((j : Int) == (n : Int)) = true := by rw [beq_iff_eq]; omega
  generalize x.t = t at *
  generalize x.p = p at *
  clear ok hD
  clear hj hl
  obtain ⟨op, a, b, c, nm⟩ := x
  simp only at x0 x1 x2 x3 x4 CE hxa
  subst hxa
  go_enter Tryd.func45, Tryd.ntmps45
  go_upto_region 1 with fail
  rw [← hbs]
  clear hw1 hbs
  go_region_held3 (fun W => W.cell? ⟨g, 0, none⟩ = some (.slice (some ⟨lb, lo, none⟩) n lc) ∧ W.cell? ⟨bs, 0, none⟩ = some (.int .i64 (i : Int)) ∧ W.cell? ⟨lb, lo + i * 5, none⟩ = some (.int .i64 op) ∧ W.cell? ⟨lb, lo + i * 5 + 1, none⟩ = some (.int .i64 (an : Int)) ∧ W.cell? ⟨lb, lo + i * 5 + 2, none⟩ = some (.int .i64 b) ∧ W.cell? ⟨lb, lo + i * 5 + 3, none⟩ = some (.int .i64 c) ∧ W.cell? ⟨lb, lo + i * 5 + 4, none⟩ = some (.string nm)) (go_keep) (fail)
  go_upto_region 3 with (go_at_call 59; refine (CE.out _ rfl).mono ?_; rintro e w3 ⟨rfl, A⟩)
  generalize w1.heap.size = X at *
  clear x0 x1 x2 x3 x4
  have b0 := A.b0
  have b1 := A.b1
  have y0 := A.y0
  have y1 := A.y1
  have c0 := A.gw.wy.c0
  have AA := hid_as A
  clear A CE
  go_upto_region 13 with (go_at_call 44; refine (CX.out w3 wv S T wr an AA.out.gw hk hT9).mono ?_; rintro e w4 ⟨rfl, wv1, S1, T1, wr1, h1, h2, h3, h4⟩; have b0' := AA.out.on h4; have c0' := h1.wy.c0; have R := hid_as (And.intro h1 (And.intro h2 h3)); clear h1 h2 h3 h4)
  go_region
  go_wp2_with (go_at_call 58; refine (FX.out w4.drew wv1 S1 T1 wr1 (R.out.1.wy.same (Same.drew _))).mono ?_; rintro e w5 ⟨rfl, hw5, ht⟩)
  (try simp only [Exit.inBlock, Exit.then])
  refine bodyPost_ret (results_none rfl _ _ _) rfl ?_
  have A := AA.out
  have k5 : Below B w4 w5 := ((Same.drew w4).below.mono R.out.1.hB).trans (ht.below A.gw.wy.gB R.out.1.hB)
  exact ⟨rfl, wv1, S1, T1, wr1, R.out.1.step k5 hw5, R.out.2.1, ((A.kb.mono hB0).trans R.out.2.2).trans k5⟩
set_option maxHeartbeats 800000 in
set_option maxRecDepth 100000 in
theorem go_zero20b {B : Nat} {w : World} {g m : Nat} {la : Option Addr} {n lc : Nat} {wv : Value} {L : List Ins} {S T : List (Nat × Nat)} {wr : Nat} {i d : Nat} {x : Ins} (G : Gw B w g m la n lc wv L S T wr) (hn : n = L.length) (hn9 : n ≤ 1000000) (hx : L[i]? = some x) (ok : OkI n x) (hd : d ≤ 256) (hT : T.length ≤ 900000000) (hb : ¬ d < x.t) (hb2 : ¬ 256 < x.dl d) (ho : x.op = 20) (an : Nat) (hxa : x.a = (an : Int)) (hk : an ≤ n) (hl : i + 1 < n) :
    Calls Tryd.prog 45 #[.pointer (some ⟨g, 0, none⟩), .agg #[.int .i64 (i : Int), .int .i64 (d : Int)]] w fun e w' => e = .returned (.tuple #[]) ∧ ∃ wv' S1 T1 wr1 S' T' wr', Gw B w' g m la n lc wv' L S' T' wr' ∧ Came (an, x.dl d) S T wr S1 T1 wr1 ∧ Came (i + 1, x.dl d) S1 T1 wr1 S' T' wr' ∧ Below B w w' := by
  obtain ⟨lb, lo, hla, x0, x1, x2, x3, x4⟩ := G.il.at_ hx
  subst hla
  have hin : i < n := by rw [hn]; exact (List.getElem?_eq_some_iff.1 hx).1
  have hin' : (i : Int) < (n : Int) := by omega
  have hB0 := G.hB
  have hT9 : T.length ≤ 1000000000 := by omega
  have c0 := G.wy.c0
  have tl := ok.t_le
  have pl := ok.p_le
  obtain ⟨w1, hw1⟩ : ∃ w1, w.alloc (.cells #[.int .i64 (i : Int), .int .i64 (d : Int)] 95) = w1 := ⟨_, rfl⟩
  obtain ⟨bs, hbs⟩ : ∃ bs, bs = w.heap.size := ⟨_, rfl⟩
  have K1 : Below w.heap.size w w1 := by rw [← hw1]; exact below_new1 _ _
  have S1 : w1.heap.size = w.heap.size + 1 := by rw [← hw1]; simp
  have b0 : w1.cell? ⟨bs, 0, none⟩ = some (.int .i64 (i : Int)) := by rw [← hw1, hbs]; exact cell_row (l := [.int .i64 (i : Int), .int .i64 (d : Int)]) (k := 0) (heap_alloc_new w _) rfl
  have b1 : w1.cell? ⟨bs, 1, none⟩ = some (.int .i64 (d : Int)) := by rw [← hw1, hbs]; exact cell_row (l := [.int .i64 (i : Int), .int .i64 (d : Int)]) (k := 1) (heap_alloc_new w _) rfl
  have G1 := G.below K1
  have c0 := keep_cell K1 c0
  have x0 := keep_cell K1 x0
  have x1 := keep_cell K1 x1
  have x2 := keep_cell K1 x2
  have x3 := keep_cell K1 x3
  have x4 := keep_cell K1 x4
  have NG : g < w.heap.size ∧ m < w.heap.size ∧ ∀ h, wv.ownBlock = some h → h < w.heap.size := by
    obtain ⟨F, hF, _⟩ := G.wy.map
    exact ⟨G.wy.glt, hF.lt, fun h hh => (G.wy.own.lt h hh).2⟩
  have CE : Hid (∀ w2, w2 = (w1.alloc (.cells #[.int .i64 x.op, .int .i64 x.a, .int .i64 x.b, .int .i64 x.c, .string x.name] 41)).drew → Calls Tryd.prog 59 #[.agg #[.int .i64 x.op, .int .i64 x.a, .int .i64 x.b, .int .i64 x.c, .string x.name]] w2 fun e w3 => e = .returned (.tuple #[.int .i64 (x.t : Nat), .int .i64 (x.p : Nat)]) ∧ At3 B w w3 g m (some ⟨lb, lo, none⟩) n lc wv L S T wr bs w1.heap.size i d x.op x.a) := by
    intro w2 hw2
    have K2 : Below w1.heap.size w1 w2 := by rw [hw2]; exact new_drew _ _
    have G2 := G1.below K2
    refine (eff_w ok w2 G2.tb).mono ?_
    rintro e w3 ⟨rfl, K3⟩
    have r2 : w2.heap[w1.heap.size]? = some (.cells x.cs.toArray 41 (0, 0)) := by rw [hw2]; exact heap_alloc_new w1 _
    refine ⟨rfl, G2.below K3, below_and (below_and K1 K2) K3, keep_cell K3 (keep_cell K2 b0), keep_cell K3 (keep_cell K2 b1), keep_cell K3 (cell_row (k := 0) r2 rfl), keep_cell K3 (cell_row (k := 1) r2 rfl), ⟨fun e => by omega, fun e => by omega, fun e => ?_⟩, ⟨fun e => by omega, fun e => by omega, fun e => ?_⟩⟩
    · have := NG.2.2 _ e.symm; omega
    · have := NG.2.2 _ e.symm; omega
  have OK := hid_as ok
  have HN := hid_as hn
  have HX := hid_as hx
  clear G hn hx G1 NG K1 S1
  have hb1 : ¬ (d : Int) < (x.t : Int) := by omega
  obtain ⟨D, hD⟩ : ∃ D, D = x.dl d := ⟨_, rfl⟩
  rw [← hD] at hb2 ⊢
  have e1 : (d : Int) - (x.t : Int) + (x.p : Int) = (D : Int) := by unfold Ins.dl at hD; omega
  have hb3 : ¬ (256 : Int) < (D : Int) := by omega
  have hD6 : D ≤ 256 := by omega
  have CX := hid_as (fun (W : World) (wv : Value) (S T : List (Nat × Nat)) (wr k : Nat) (h : Gw B W g m (some ⟨lb, lo, none⟩) n lc wv L S T wr) (hk : k ≤ n) (hT : T.length ≤ 1000000000) => come_g (k := k) h (by omega) hD6 hT)
  have ho1 : (x.op == 23) = false := by rw [ho]; rfl
  have ho2 : (x.op == 18) = false := by rw [ho]; rfl
  have ho3 : (x.op == 19) = false := by rw [ho]; rfl
  have ho4 : (x.op == 20) = true := by rw [ho]; rfl
  clear ho
  obtain ⟨j, hj⟩ : ∃ j : Nat, j = i + 1 := ⟨_, rfl⟩
  have ej : (i : Int) + 1 = (j : Int) := by omega
  rw [← hj] at hl ⊢
  have hE : ((j : Int) == (n : Int)) = false := by rw [beq_eq_false_iff_ne]; omega
  have hkj : j ≤ n := by omega
  generalize x.t = t at *
  generalize x.p = p at *
  clear ok hD
  clear hj hl
  have HT := hid_as hT
  obtain ⟨op, a, b, c, nm⟩ := x
  simp only at x0 x1 x2 x3 x4 CE hxa
  subst hxa
  go_enter Tryd.func45, Tryd.ntmps45
  go_upto_region 1 with fail
  rw [← hbs]
  clear hw1 hbs
  go_region_held3 (fun W => W.cell? ⟨g, 0, none⟩ = some (.slice (some ⟨lb, lo, none⟩) n lc) ∧ W.cell? ⟨bs, 0, none⟩ = some (.int .i64 (i : Int)) ∧ W.cell? ⟨lb, lo + i * 5, none⟩ = some (.int .i64 op) ∧ W.cell? ⟨lb, lo + i * 5 + 1, none⟩ = some (.int .i64 (an : Int)) ∧ W.cell? ⟨lb, lo + i * 5 + 2, none⟩ = some (.int .i64 b) ∧ W.cell? ⟨lb, lo + i * 5 + 3, none⟩ = some (.int .i64 c) ∧ W.cell? ⟨lb, lo + i * 5 + 4, none⟩ = some (.string nm)) (go_keep) (fail)
  go_upto_region 3 with (go_at_call 59; refine (CE.out _ rfl).mono ?_; rintro e w3 ⟨rfl, A⟩)
  generalize w1.heap.size = X at *
  clear x0 x1 x2 x3 x4
  have b0 := A.b0
  have b1 := A.b1
  have y0 := A.y0
  have y1 := A.y1
  have c0 := A.gw.wy.c0
  have AA := hid_as A
  clear A CE
  go_upto_region 13 with (go_at_call 44; refine (CX.out w3 wv S T wr an AA.out.gw hk hT9).mono ?_; rintro e w4 ⟨rfl, wv1, S1, T1, wr1, h1, h2, h3, h4⟩; have b0' := AA.out.on h4; have c0' := h1.wy.c0; have R := hid_as (And.intro h1 (And.intro h2 h3)); clear h1 h2 h3 h4)
  go_region
  have hT1 : T1.length ≤ 1000000000 := Nat.le_trans (Nat.le_trans R.out.2.1.tlen (Nat.succ_le_succ HT.out)) (by decide)
  go_wp2_with (go_at_call 44; refine (CX.out w4.drew wv1 S1 T1 wr1 j (R.out.1.below (Same.drew _).below) hkj hT1).mono ?_; rintro e w4 ⟨rfl, wv', S', T', wr', h1, h2, h3, h4⟩)
  go_end0
  have A := AA.out
  exact ⟨rfl, wv', S1, T1, wr1, S', T', wr', h1, R.out.2.1, h2, ((A.kb.mono hB0).trans R.out.2.2).trans (((Same.drew _).below.mono R.out.1.hB).trans h3)⟩
end Go.Proofs.YtkknfolahfmghaaDoor
