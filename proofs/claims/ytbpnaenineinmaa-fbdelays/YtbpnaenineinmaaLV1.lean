/- Rows of rows of numbers; a life in memory (stage 17). -/
import Derived.Test.YtbpnaenineinmaaRN
namespace Go.Proofs.Ytbpnaenineinmaa
open Go.RowKit
open Fb
/-- A block's state behind so many steps. -/
def lif (k : Nat) (L : Nat → List Int) (T : Nat → Int) : Nat → Rs
  | 0 => ⟨[], 0, 0, 0⟩
  | j + 1 => stp k (L j) (lif k L T j).o (lif k L T j).k0 (lif k L T j).k1 (lif k L T j).k2 (T j)
/-- Numbers: none yet, or a row. -/
def Ov (w : World) (v : Value) (l : List Int) : Prop := (v = .slice none 0 0 ∧ l = []) ∨ ∃ b, v = .slice (some ⟨b, 0, none⟩) l.length l.length ∧ Row64 w b l
theorem Ov.sl {w : World} {v : Value} {l : List Int} (h : Ov w v l) : Sl w v (i64s l) := by
  rcases h with ⟨rfl, rfl⟩ | ⟨b, rfl, h⟩
  · exact Sl.nil w
  · exact row_sl h rfl
theorem Ov.shape {w : World} {v : Value} {l : List Int} (h : Ov w v l) : ∃ ao, v = .slice ao l.length l.length := by
  rcases h with ⟨rfl, rfl⟩ | ⟨b, rfl, _⟩
  · exact ⟨_, rfl⟩
  · exact ⟨_, rfl⟩
/-- All rows of numbers that there were are as they were. -/
def Keeps (w u : World) : Prop := ∀ b l, Row64 w b l → Row64 u b l
theorem Keeps.below {w u : World} (k : Below w.heap.size w u) : Keeps w u := fun _ _ r => row_below r k
theorem Keeps.trans {a b c : World} (h : Keeps a b) (k : Keeps b c) : Keeps a c := fun x l r => k x l (h x l r)
theorem Ov.keeps {w u : World} {v : Value} {l : List Int} (h : Ov w v l) (k : Keeps w u) : Ov u v l := by
  rcases h with h | ⟨b, h1, h2⟩
  · exact Or.inl h
  · exact Or.inr ⟨b, h1, k _ _ h2⟩
theorem types_ne : (2 : TypeId) ≠ 23 ∧ (2 : TypeId) ≠ 22 ∧ (23 : TypeId) ≠ 22 := by decide
/-- A keep's store leaves rows of numbers alone. -/
theorem Keeps.keep {W : World} {g : Nat} {a b c : Int} (h : Kr W g a b c) (x y z : Int) : Keeps W (st3 W g x y z) := by
  intro q l r
  refine ((st3_turn W g x y z).block q (row_lt r) (fun e => ?_)).trans r
  have e' : q = g := by simpa using e
  subst e'
  have := r.symm.trans h
  simp only [Option.some.injEq, Obj.cells.injEq] at this
  exact types_ne.1 this.2.1
theorem Kr.keep {W : World} {g g' : Nat} {a b c : Int} (h : Kr W g a b c) (hne : g ≠ g') (x y z : Int) : Kr (st3 W g' x y z) g a b c := ((st3_turn W g' x y z).block g h.lt (fun e => hne (by simpa using e))).trans h
theorem Kr.st3 {W : World} {g : Nat} {a b c : Int} (h : Kr W g a b c) (x y z : Int) : Kr (st3 W g x y z) g x y z := ((h.set0 x).set1 y).set2 z
/-- A row of rows of numbers, its own. -/
def Rows2 (w : World) (base : Nat) (v : Value) (n : Nat) (L : Nat → List Int) : Prop := ∃ vs : List Value, w.ownsRow base 22 1 v n vs ∧ ∀ i, i < n → ∃ b, vs[i]? = some (.slice (some ⟨b, 0, none⟩) (L i).length (L i).length) ∧ Row64 w b (L i)
theorem Rows2.nil (w : World) (base : Nat) (L : Nat → List Int) : Rows2 w base (.slice none 0 0) 0 L := ⟨[], World.ownsRow_nil .., fun i h => by omega⟩
theorem own_ne {w : World} {base n g : Nat} {v : Value} {vs : List Value} (h : w.ownsRow base 22 1 v n vs) (hv : v.ownBlock = some g) : ∃ cur, w.heap[g]? = some (.cells cur 22 (0, 0)) := by
  rcases h.2 with ⟨rfl, _⟩ | ⟨g', cap, cur, rfl, _, hg, _⟩
  · simp [Value.ownBlock] at hv
  · simp [Value.ownBlock] at hv
    subst hv
    exact ⟨_, hg⟩
/-- What grows a row of rows leaves rows of numbers, and keeps, alone. -/
theorem Keeps.grown {w u : World} {base n : Nat} {v : Value} {vs : List Value} (h : w.ownsRow base 22 1 v n vs) (k : w.grownBy u v.ownBlock) : Keeps w u := by
  intro q l r
  refine (k.block q (row_lt r) (fun e => ?_)).trans r
  obtain ⟨cur, hc⟩ := own_ne h e.symm
  have := r.symm.trans hc
  simp only [Option.some.injEq, Obj.cells.injEq] at this
  exact types_ne.2.1 this.2.1
theorem Kr.grown {w u : World} {base n g : Nat} {a b c : Int} {v : Value} {vs : List Value} (q : Kr w g a b c) (h : w.ownsRow base 22 1 v n vs) (k : w.grownBy u v.ownBlock) : Kr u g a b c := by
  refine (k.block g q.lt (fun e => ?_)).trans q
  obtain ⟨cur, hc⟩ := own_ne h e.symm
  have := q.symm.trans hc
  simp only [Option.some.injEq, Obj.cells.injEq] at this
  exact types_ne.2.2 this.2.1
theorem own_turn {w u : World} {base n g : Nat} {a b c : Int} {v : Value} {vs : List Value} (h : w.ownsRow base 22 1 v n vs) (q : Kr w g a b c) (k : Turn g w u) : u.ownsRow base 22 1 v n vs := by
  refine ⟨h.1, ?_⟩
  rcases h.2 with h' | ⟨g', cap, cur, rfl, hb, hg, r⟩
  · exact Or.inl h'
  · refine Or.inr ⟨g', cap, cur, rfl, hb, (k.block g' (Array.getElem?_eq_some_iff.1 hg).1 (fun e => ?_)).trans hg, r⟩
    have e' : g' = g := by simpa using e
    subst e'
    have := q.symm.trans hg
    simp only [Option.some.injEq, Obj.cells.injEq] at this
    exact types_ne.2.2 this.2.1
theorem Rows2.below {w u : World} {base n : Nat} {v : Value} {L : Nat → List Int} (h : Rows2 w base v n L) (k : Below w.heap.size w u) : Rows2 u base v n L := by
  obtain ⟨vs, h1, h2⟩ := h
  refine ⟨vs, own_below h1 k (Nat.le_refl _), fun i hi => ?_⟩
  obtain ⟨b, e, r⟩ := h2 i hi
  exact ⟨b, e, row_below r k⟩
theorem Rows2.keep {w : World} {base n g : Nat} {v : Value} {L : Nat → List Int} {a b c : Int} (h : Rows2 w base v n L) (q : Kr w g a b c) (x y z : Int) : Rows2 (st3 w g x y z) base v n L := by
  obtain ⟨vs, h1, h2⟩ := h
  refine ⟨vs, own_turn h1 q (st3_turn w g x y z), fun i hi => ?_⟩
  obtain ⟨b, e, r⟩ := h2 i hi
  exact ⟨b, e, Keeps.keep q x y z _ _ r⟩
theorem Rows2.shape {w : World} {base n : Nat} {v : Value} {L : Nat → List Int} (h : Rows2 w base v n L) : ∃ ao c, v = .slice ao n c := by
  obtain ⟨vs, h1, _⟩ := h
  exact own_shape h1
theorem Rows2.at {w : World} {base n i : Nat} {ao : Option Addr} {c : Nat} {L : Nat → List Int} (h : Rows2 w base (.slice ao n c) n L) (hi : i < n) : ∃ g b, ao = some ⟨g, 0, none⟩ ∧ w.cell? ⟨g, i, none⟩ = some (.slice (some ⟨b, 0, none⟩) (L i).length (L i).length) ∧ Row64 w b (L i) := by
  obtain ⟨vs, h1, h2⟩ := h
  obtain ⟨b, e, r⟩ := h2 i hi
  rcases h1.2 with ⟨hv, h0⟩ | ⟨g, cap, cur, hv, hb, hg, hn, hm, hs, ht⟩
  · omega
  · simp only [Value.slice.injEq] at hv
    obtain ⟨rfl, -, rfl⟩ := hv
    refine ⟨g, b, rfl, ?_, r⟩
    rw [h1.cellAt i (by omega), e]
theorem Try.infoS : (Try.prog.info? 22).map (fun i => (i.zero, i.size, i.bytes)) = some (some (.slice none 0 0), 1, 24) := by kernel_rfl
/-- One row more. -/
theorem Rows2.push {w : World} {base n b : Nat} {v : Value} {L : Nat → List Int} (h : Rows2 w base v n L) (hb : base ≤ w.heap.size) (hn : n ≤ 10000) (r : Row64 w b (L n)) :
    ∃ v' w', (Builtin.append_ #[35, 35] 35 #[v, .slice (some ⟨w.heap.size, 0, none⟩) 1 1]).run Try.prog (w.alloc (.cells #[.slice (some ⟨b, 0, none⟩) (L n).length (L n).length] 22)) = .ok v' w' ∧ Rows2 w' base v' (n + 1) L ∧ Keeps w w' ∧ Below base w w' ∧ (∀ g a b c, Kr w g a b c → Kr w' g a b c) := by
  obtain ⟨vs, h1, h2⟩ := h
  obtain ⟨i0, hi, hz0, hz1, hz2⟩ := info_parts Try.infoS
  have k0 := below_new (Below.refl _ w) (.cells #[.slice (some ⟨b, 0, none⟩) (L n).length (L n).length] 22)
  have h1' := own_below h1 k0 (Nat.le_refl _)
  have hl : vs.length = n := by simpa using h1.1
  obtain ⟨v', w', e1, e2, e3⟩ := run_append_sl (P := Try.prog) (w := w.alloc (.cells #[.slice (some ⟨b, 0, none⟩) (L n).length (L n).length] 22)) base 35 35 22 i0 (.slice none 0 0) 24 Try.underlying35 hi hz0 hz1 hz2 rfl v n vs h1' (.slice (some ⟨w.heap.size, 0, none⟩) 1 1) [.slice (some ⟨b, 0, none⟩) (L n).length (L n).length]
    (Or.inr ⟨w.heap.size, 0, 1, rfl, Nat.le_refl _, fun k u hk => by match k, hk with | 0, hk => simp at hk; subst hk; simp⟩) (by intro u hu; simp at hu; subst hu; rfl) (by unfold maxLen; simp; omega) (by simp; omega) (by simp; omega)
  have kp : Keeps w w' := (Keeps.below k0).trans (Keeps.grown h1' e3)
  refine ⟨v', w', e1, ⟨_, e2, fun i hi' => ?_⟩, kp, (k0.mono hb).trans ((Below.refl base _).grown e3 (by simp; omega) (fun g hg => (h1'.lt g hg).1)), fun g a b c q => (q.below k0).grown h1' e3⟩
  by_cases hin : i < n
  · obtain ⟨b', e, r'⟩ := h2 i hin
    exact ⟨b', by rw [List.getElem?_append_left (by omega)]; exact e, kp _ _ r'⟩
  · obtain rfl : i = n := by omega
    exact ⟨b, by rw [List.getElem?_append_right (by omega), hl]; simp, kp _ _ r⟩
/-- A life: both keeps, both outputs, all that was told. -/
structure Lw (w wr : World) (kb kc : Nat) (v p a : Value) (j : Nat) (S : Nat → Rs) : Prop where
  k1 : Kr wr kb (S j).k0 (S j).k1 (S j).k2
  k2 : Kr wr kc (S j).k0 (S j).k1 (S j).k2
  o1 : Ov wr v (S j).o
  o2 : Ov wr p (S j).o
  al : Rows2 wr w.heap.size a j (fun i => (S (i + 1)).o)
  ne : kb ≠ kc
  g1 : w.heap.size ≤ kb
  g2 : w.heap.size ≤ kc
  bl : Below w.heap.size w wr
/-- In the midst of a round: the program's step is done. -/
structure Lm (w wr : World) (kb kc : Nat) (v p a : Value) (j : Nat) (S : Nat → Rs) : Prop where
  k1 : Kr wr kb (S (j + 1)).k0 (S (j + 1)).k1 (S (j + 1)).k2
  k2 : Kr wr kc (S j).k0 (S j).k1 (S j).k2
  o1 : Ov wr v (S (j + 1)).o
  o2 : Ov wr p (S j).o
  al : Rows2 wr w.heap.size a j (fun i => (S (i + 1)).o)
  ne : kb ≠ kc
  g1 : w.heap.size ≤ kb
  g2 : w.heap.size ≤ kc
  bl : Below w.heap.size w wr
/-- Both steps are done. -/
structure Ln (w wr : World) (kb kc : Nat) (v p a : Value) (j : Nat) (S : Nat → Rs) : Prop where
  k1 : Kr wr kb (S (j + 1)).k0 (S (j + 1)).k1 (S (j + 1)).k2
  k2 : Kr wr kc (S (j + 1)).k0 (S (j + 1)).k1 (S (j + 1)).k2
  o1 : Ov wr v (S (j + 1)).o
  o2 : Ov wr p (S (j + 1)).o
  al : Rows2 wr w.heap.size a j (fun i => (S (i + 1)).o)
  ne : kb ≠ kc
  g1 : w.heap.size ≤ kb
  g2 : w.heap.size ≤ kc
  bl : Below w.heap.size w wr
theorem Lw.step {w wr W : World} {kb kc b : Nat} {v p a : Value} {j : Nat} {S : Nat → Rs} (h : Lw w wr kb kc v p a j S) (k : Below wr.heap.size wr W) (r : Row64 W b (S (j + 1)).o) : Lm w (st3 W kb (S (j + 1)).k0 (S (j + 1)).k1 (S (j + 1)).k2) kb kc (.slice (some ⟨b, 0, none⟩) (S (j + 1)).o.length (S (j + 1)).o.length) p a j S :=
  have q := h.k1.below k
  ⟨q.st3 _ _ _, (h.k2.below k).keep (fun e => h.ne e.symm) _ _ _, Or.inr ⟨b, rfl, Keeps.keep q _ _ _ _ _ r⟩, (h.o2.keeps (Keeps.below k)).keeps (Keeps.keep q _ _ _), (h.al.below k).keep q _ _ _, h.ne, h.g1, h.g2, (h.bl.trans (k.mono h.bl.size)).trans ((st3_turn W kb _ _ _).below h.g1 (by have := h.bl.size; have := k.size; omega))⟩
theorem Lm.step {w wr W : World} {kb kc b : Nat} {v p a : Value} {j : Nat} {S : Nat → Rs} (h : Lm w wr kb kc v p a j S) (k : Below wr.heap.size wr W) (r : Row64 W b (S (j + 1)).o) : Ln w (st3 W kc (S (j + 1)).k0 (S (j + 1)).k1 (S (j + 1)).k2) kb kc v (.slice (some ⟨b, 0, none⟩) (S (j + 1)).o.length (S (j + 1)).o.length) a j S :=
  have q := h.k2.below k
  ⟨(h.k1.below k).keep h.ne _ _ _, q.st3 _ _ _, (h.o1.keeps (Keeps.below k)).keeps (Keeps.keep q _ _ _), Or.inr ⟨b, rfl, Keeps.keep q _ _ _ _ _ r⟩, (h.al.below k).keep q _ _ _, h.ne, h.g1, h.g2, (h.bl.trans (k.mono h.bl.size)).trans ((st3_turn W kc _ _ _).below h.g2 (by have := h.bl.size; have := k.size; omega))⟩
set_option maxRecDepth 100000 in
set_option maxHeartbeats 4000000 in
theorem lives_c {w : World} {lo tao : Option Addr} {n lc tc base : Nat} {L : Nat → List Int} {T : List Int} (k : Nat) (hk : k < 10) (hL : Rows2 w base (.slice lo n lc) n L) (hT : Sl w (.slice tao n tc) (i64s T)) (hn : n = T.length) (h9 : n ≤ 1000) (hl9 : ∀ i, (L i).length ≤ 100) :
    Calls Try.prog 16 #[.string (nm k), .slice lo n lc, .slice tao n tc] w fun e w' => ∃ a, e = .returned (.tuple #[a, .bool true]) ∧ Rows2 w' w.heap.size a n (fun i => (lif k L (fun j => T.getD j 0) (i + 1)).o) ∧ Below w.heap.size w w' := by
  have HLR := hid_as hL
  have HTS := hid_as hT
  have HN := hid_as hn
  obtain ⟨S, hS⟩ : ∃ S, S = lif k L (fun j => T.getD j 0) := ⟨_, rfl⟩
  have SN : Hid (∀ j, S (j + 1) = stp k (L j) (S j).o (S j).k0 (S j).k1 (S j).k2 (T.getD j 0)) := fun j => by rw [hS]; rfl
  have S0 : Hid (S 0 = ⟨[], 0, 0, 0⟩) := by rw [hS]; rfl
  have SL : Hid (∀ j, (S j).o.length ≤ 3) := fun j => by
    cases j with
    | zero => rw [S0.out]; decide
    | succ j => rw [SN.out j, stp_len]; exact pO_le3 k
  rw [← hS]
  clear hL hT hn hS
  have L0 : Hid (Lw w ((w.alloc (.cells #[.int .i64 0, .int .i64 0, .int .i64 0] 23)).alloc (.cells #[.int .i64 0, .int .i64 0, .int .i64 0] 23)) w.heap.size (w.heap.size + 1) (.slice none 0 0) (.slice none 0 0) (.slice none 0 0) 0 S) := by
    refine ⟨?_, ?_, Or.inl ⟨rfl, by rw [S0.out]⟩, Or.inl ⟨rfl, by rw [S0.out]⟩, Rows2.nil _ _ _, by omega, Nat.le_refl _, by omega, below_new (below_new (Below.refl _ _) _) _⟩
    · rw [S0.out]; exact (two_new w _ _).1
    · rw [S0.out]; exact (two_new w _ _).2.1
  obtain ⟨N, hN⟩ : ∃ N, N = nm k := ⟨_, rfl⟩
  rw [← hN]
  have HNM := hid_as hN
  clear hN
  go_enter Try.func16, Try.ntmps16
  go_upto_region 6 with fail
  generalize ((w.alloc (.cells #[.int .i64 0, .int .i64 0, .int .i64 0] 23)).alloc (.cells #[.int .i64 0, .int .i64 0, .int .i64 0] 23)) = W0 at *
  obtain ⟨kb, hkb⟩ : ∃ kb, kb = w.heap.size := ⟨_, rfl⟩
  obtain ⟨kc, hkc⟩ : ∃ kc, kc = w.heap.size + 1 := ⟨_, rfl⟩
  have L1 : Hid (Lw w W0 kb kc (.slice none 0 0) (.slice none 0 0) (.slice none 0 0) 0 S) := by rw [hkb, hkc]; exact L0.out
  rw [← hkc, ← hkb]
  clear L0 hkb hkc
  go_wp2
  go_loopw [8, 10, 11, 13] (fun v a p i wr => ∃ j : Nat, j ≤ n ∧ i = .int .i64 j ∧ Lw w wr kb kc v p a j S) (fun _ _ _ i _ => n - (intOf i).toNat)
  case atStart => exact ⟨0, by omega, rfl, L1.out⟩
  case round =>
  obtain ⟨j, hj, rfl, hE⟩ := hrel
  have E := hid_as hE
  obtain ⟨av, rfl⟩ := hE.o1.shape
  obtain ⟨ap, rfl⟩ := hE.o2.shape
  obtain ⟨aa, ac, rfl⟩ := hE.al.shape
  clear hE L1
  by_cases hjn : j < n
  · have hjn' : (j : Int) < (n : Int) := by omega
    have sl1 := SL.out j
    have sl2 := SL.out (j + 1)
    obtain ⟨g, lb, rfl, _, _⟩ := HLR.out.at hjn
    obtain ⟨tb, tof, rfl, _⟩ := sl64_at HTS.out (k := j) (by rw [← HN.out]; exact hjn)
    have CL := hid_as (fun U (b : Below w.heap.size w U) => (⟨(HLR.out.below b).at hjn, sl64_at (HTS.out.below b) (k := j) (by rw [← HN.out]; exact hjn)⟩ : _ ∧ _))
    obtain ⟨x, hx⟩ : ∃ x, x = L j := ⟨_, rfl⟩
    obtain ⟨t, ht⟩ : ∃ t, t = T.getD j 0 := ⟨_, rfl⟩
    have CM : Hid (∃ lb, ∀ U, Below w.heap.size w U → U.cell? ⟨g, j, none⟩ = some (.slice (some ⟨lb, 0, none⟩) x.length x.length) ∧ Row64 U lb x ∧ U.cell? ⟨tb, tof + j, none⟩ = some (.int .i64 t)) := by
      obtain ⟨⟨g', lb', e1, c1, r1⟩, tb', tf', e2, c2⟩ := CL.out w (Below.refl _ _)
      simp only [Option.some.injEq, Addr.mk.injEq, and_true] at e1 e2
      obtain ⟨rfl, -⟩ := e1
      obtain ⟨rfl, rfl⟩ := e2
      refine ⟨lb', fun U b => ⟨?_, ?_, ?_⟩⟩
      · rw [hx]; exact (b.cell (lt_of_cell c1)).trans c1
      · rw [hx]; exact row_below r1 b
      · rw [ht]; exact (b.cell (lt_of_cell c2)).trans c2
    have SJ : Hid (S (j + 1) = stp k x (S j).o (S j).k0 (S j).k1 (S j).k2 t) := by rw [hx, ht]; exact SN.out j
    have hx9 : x.length ≤ 100 := by rw [hx]; exact hl9 j
    clear CL hx ht
    obtain ⟨lb, CM⟩ := CM.out
    have CM := hid_as CM
    have X := hid_as (fun U (q : Same wr U) => (show Calls Try.prog 10 #[.string (nm k), .slice (some ⟨lb, 0, none⟩) x.length x.length, .agg #[.int .i64 (S j).k0, .int .i64 (S j).k1, .int .i64 (S j).k2], .slice av (S j).o.length (S j).o.length, .int .i64 t] U (StepEnd U (S (j + 1))) by
      rw [SJ.out]
      exact step_any k hk _ _ _ _ (row_sl (row_below (CM.out wr E.out.bl).2.1 q.below) rfl) rfl (by omega) (E.out.o1.sl.same q) rfl (by omega)))
    rw [← HNM.out] at X
    obtain ⟨c1, _, c2⟩ := CM.out wr E.out.bl
    obtain ⟨y0, y1, y2, _⟩ := E.out.k1.cells
    go_upto_region 9 with fail
    go_cut [8] from 26 to 40 (fun v wx => ∃ b, v = .slice (some ⟨b, 0, none⟩) (S (j + 1)).o.length (S (j + 1)).o.length ∧ Lm w wx kb kc v (.slice ap (S j).o.length (S j).o.length) (.slice aa j ac) j S)
    case first =>
      go_region_with (go_at_call 10; (with_reducible refine (X.out _ (Same.drew _)).mono ?_); rintro e w7 ⟨b7, rfl, hb7, r7, k7⟩; have k8 := (Same.drew wr).below.trans (k7.mono (Nat.le_refl _)); obtain ⟨d0, d1, d2, dz⟩ := (E.out.k1.below k8).cells)
      all_goals
        go_wp2
        go_meet
        exact ⟨b7, rfl, E.out.step k8 r7⟩
    case rest =>
    obtain ⟨b1, rfl, hM⟩ := hcut
    have M := hid_as hM
    clear hM E X c1 c2 y0 y1 y2
    rename World => V1
    have Y := hid_as (fun U (q : Same V1 U) => (show Calls Try.prog 11 #[.string (nm k), .slice (some ⟨lb, 0, none⟩) x.length x.length, .agg #[.int .i64 (S j).k0, .int .i64 (S j).k1, .int .i64 (S j).k2], .slice ap (S j).o.length (S j).o.length, .int .i64 t] U (StepEnd U (S (j + 1))) by
      rw [SJ.out]
      exact rstep_any k hk _ _ _ _ (row_sl (row_below (CM.out V1 M.out.bl).2.1 q.below) rfl) rfl (M.out.o2.sl.same q) rfl))
    rw [← HNM.out] at Y
    obtain ⟨c1, _, c2⟩ := CM.out V1 M.out.bl
    obtain ⟨y0, y1, y2, _⟩ := M.out.k2.cells
    go_upto_region 10 with fail
    go_cut [11] from 41 to 55 (fun v wx => ∃ b, v = .slice (some ⟨b, 0, none⟩) (S (j + 1)).o.length (S (j + 1)).o.length ∧ Ln w wx kb kc (.slice (some ⟨b1, 0, none⟩) (S (j + 1)).o.length (S (j + 1)).o.length) v (.slice aa j ac) j S)
    case first =>
      go_region_with (go_at_call 11; (with_reducible refine (Y.out _ (Same.drew _)).mono ?_); rintro e w7 ⟨b7, rfl, hb7, r7, k7⟩; have k8 := (Same.drew V1).below.trans (k7.mono (Nat.le_refl _)); obtain ⟨d0, d1, d2, dz⟩ := (M.out.k2.below k8).cells)
      all_goals
        go_wp2
        go_meet
        exact ⟨b7, rfl, M.out.step k8 r7⟩
    case rest =>
    obtain ⟨b2, rfl, hM⟩ := hcut
    clear M Y c1 c2 y0 y1 y2
    have M := hid_as hM
    clear hM
    rename World => V2
    have NA := hid_as (nums_c M.out.o1.sl M.out.o2.sl (by omega))
    simp only [decide_true] at NA
    have hE := eq3_yes (S (j + 1)).k0 (S (j + 1)).k1 (S (j + 1)).k2
    have CA := hid_as (fun U (k : Same V2 U) => (⟨(M.out.k1.below k.below).cells, (M.out.k2.below k.below).cells⟩ : _ ∧ _))
    go_wp2_with fail
    refine NA.out.mono ?_
    rintro e w9 ⟨rfl, s9⟩
    obtain ⟨⟨p0, p1, p2, _⟩, t0, t1, t2, _⟩ := CA.out _ s9
    have R1 : Hid (Row64 w9 b1 ((fun i => (S (i + 1)).o) j)) := by
      rcases M.out.o1 with ⟨h, _⟩ | ⟨b, h, r⟩
      · cases h
      · simp only [Value.slice.injEq, Option.some.injEq, Addr.mk.injEq, and_true] at h
        rw [h]; exact row_below r s9.below
    obtain ⟨va, w10, ha, hr, hkp, hbl, hkr⟩ := (M.out.al.below s9.below).push (by have := M.out.bl.size; have := s9.below.size; omega) (by omega) R1.out
    have HA := hid_as ha
    have NX : Hid (Lw w w10 kb kc (.slice (some ⟨b1, 0, none⟩) (S (j + 1)).o.length (S (j + 1)).o.length) (.slice (some ⟨b2, 0, none⟩) (S (j + 1)).o.length (S (j + 1)).o.length) va (j + 1) S) :=
      ⟨hkr _ _ _ _ (M.out.k1.below s9.below), hkr _ _ _ _ (M.out.k2.below s9.below), (M.out.o1.keeps (Keeps.below s9.below)).keeps hkp, (M.out.o2.keeps (Keeps.below s9.below)).keeps hkp, hr, M.out.ne, M.out.g1, M.out.g2, (below_and M.out.bl s9.below).trans hbl⟩
    clear NA CA s9 ha hr hkp hbl hkr R1 M CM SJ
    go_wp2_with (at_builtin; refine Lib.wpList_append_run (w9.alloc (.cells #[.slice (some ⟨b1, 0, none⟩) (S (j + 1)).o.length (S (j + 1)).o.length] 22)) rfl _ _ _ _ rfl _ _ rfl rfl _ _ HA.out ?_)
    go_roundw
    case rel => exact ⟨j + 1, by omega, by go_num, NX.out⟩
    case measure => simp [intOf]; omega
  · obtain rfl : n = j := by omega
    go_wp2
    go_ret2
    exact ⟨_, rfl, E.out.al, E.out.bl⟩
end Go.Proofs.Ytbpnaenineinmaa
