/- What LinePlays keeps, step by step. -/
import Derived.Test.YtgmbboimndepnaaPL1
namespace Go.Proofs.Ytgmbboimndepnaa
open Go.RowKit
open Pdu
theorem LI.gB {w W : World} {g u s B t : Nat} {H : List Nat} {fs : List Fr} (I : LI w W g u s B t H fs) : g < B := by
  obtain ⟨l, a⟩ := I.la
  exact a.lt
theorem LI.belowB {w W W' : World} {g u s B C t : Nat} {H : List Nat} {fs : List Fr} (I : LI w W g u s B t H fs) (k : Below C W W') (hC : B ≤ C) : LI w W' g u s B t H fs := by
  have hg := I.gB
  have hw := I.gw
  have hb := I.BW
  have hs := k.size
  obtain ⟨l, a⟩ := I.la
  exact ⟨I.k.trans (k.mono (by omega)), ⟨l, a.below (k.mono hC)⟩, I.gw, by omega⟩
theorem LI.mono {w W : World} {g u s B B' t : Nat} {H : List Nat} {fs : List Fr} (I : LI w W g u s B t H fs) (h : B ≤ B') (hW : B' ≤ W.heap.size) : LI w W g u s B' t H fs := by
  obtain ⟨l, a⟩ := I.la
  exact ⟨I.k, ⟨l, a.mono h⟩, I.gw, hW⟩
theorem LI.grown {w W W' : World} {g u s B t : Nat} {H : List Nat} {fs : List Fr} {row : Option Nat} (I : LI w W g u s B t H fs) (k : W.grownBy W' row) (hr : ∀ j, row = some j → w.heap.size ≤ j ∧ ∃ cs, W.heap[j]? = some (.cells cs 37 (0, 0))) : LI w W' g u s B t H fs := by
  obtain ⟨l, a⟩ := I.la
  refine ⟨I.k.grown k I.k.size (fun j hj => (hr j hj).1), ⟨l, ?_⟩, I.gw, Nat.le_trans I.BW k.size⟩
  have hg : W'.heap[g]? = W.heap[g]? := by
    refine k.block g a.ln.lt (fun e => ?_)
    obtain ⟨_, cs, hc⟩ := hr g e.symm
    rw [a.ln.row] at hc
    simp at hc
  refine ⟨a.ln.heap hg, a.eu, a.es, a.et, a.held, a.num, a.wait.carried fun _ _ p => p.grown k (fun j cs fl e hj => ?_), a.lt⟩
  obtain ⟨_, cs', hc⟩ := hr j e
  rw [hc] at hj
  simp at hj
/-- The line, the bytes that are held beside it, the frames that wait beside it. -/
structure PJ (w W : World) (g u s B t : Nat) (H : List Nat) (fs : List Fr) (hv wv : Value) : Prop where
  li : LI w W g u s B t H fs
  ct : Cut B W hv H
  cf : CutF w.heap.size B W wv fs
  fb : ∀ fr ∈ fs, Bytes fr.pdu
theorem PJ.below {w W W' : World} {g u s B t : Nat} {H : List Nat} {fs : List Fr} {hv wv : Value} (P : PJ w W g u s B t H fs hv wv) (k : Below W.heap.size W W') : PJ w W' g u s B t H fs hv wv :=
  ⟨P.li.below k, P.ct.below k, P.cf.below (k.mono P.li.BW), P.fb⟩
theorem PJ.turnC {w W W' : World} {g u s B t : Nat} {H : List Nat} {fs : List Fr} {hv wv : Value} (P : PJ w W g u s B t H fs hv wv) (k : Turn g W W') : Cut B W' hv H ∧ CutF w.heap.size B W' wv fs := by
  obtain ⟨l, a⟩ := P.li.la
  exact ⟨P.ct.turn k P.li.gB, P.cf.turn a.ln k⟩
theorem PJ.fed {w wx w2 w3 w4 : World} {g u s B t t' : Nat} {H H' : List Nat} {fs : List Fr} {hv wv : Value} (P : PJ w wx g u s B t H fs hv wv) (k2 : Below wx.heap.size wx w2) (k3 : Turn g w2 w3) (I3 : LI w w3 g u s B t' H' fs) (k4 : Below wx.heap.size w3 w4) :
    LI w w4 g u s B t' H' fs ∧ Cut B w4 hv H ∧ CutF w.heap.size B w4 wv fs ∧ Turn g wx w4 := by
  have T : Turn g wx w4 := by
    refine ⟨(k4.os.trans k3.os).trans k2.os, (k4.tape.trans k3.tape).trans k2.tape, (k4.output.trans k3.output).trans k2.output, Nat.le_trans k2.size (Nat.le_trans k3.size k4.size), fun j hj hne => ?_⟩
    have h2 := k2.size
    exact ((k4.block j hj).trans (k3.block j (by omega) hne)).trans (k2.block j hj)
  exact ⟨I3.belowB k4 P.li.BW, (P.turnC T).1, (P.turnC T).2, T⟩
theorem sl_turn {g n cap : Nat} {ao : Option Addr} {w w' : World} {vs : List Value} (h : Sl w (.slice ao n cap) vs) (k : Turn g w w') (hne : vs ≠ [] → ∀ a, ao = some a → a.block ≠ g) : Sl w' (.slice ao n cap) vs := by
  rcases h with h | ⟨b, off, cap', e, hc, hl⟩
  · exact Or.inl h
  · simp only [Value.slice.injEq] at e
    obtain ⟨rfl, e3, rfl⟩ := e
    by_cases h0 : vs = []
    · subst h0
      exact Or.inl ⟨rfl, _, _, by rw [e3]; rfl, fun h => by cases h⟩
    · have h00 : 0 < vs.length := List.length_pos_iff.2 h0
      have hb : b < w.heap.size := lt_of_cell (hl 0 _ (List.getElem?_eq_getElem h00))
      exact Or.inr ⟨b, off, cap, by rw [e3], hc, hl.kept (k.block b hb (fun e => hne h0 _ rfl (by simp at e; exact e)))⟩
theorem sl_block {n cap : Nat} {ao : Option Addr} {w : World} {vs : List Value} (h : Sl w (.slice ao n cap) vs) (h0 : vs ≠ []) : ∀ a, ao = some a → a.block < w.heap.size := by
  rintro a rfl
  rcases h with h | ⟨b, off, cap', e, hc, hl⟩
  · exact absurd h.1 h0
  · simp only [Value.slice.injEq, Option.some.injEq] at e
    obtain ⟨rfl, _, _⟩ := e
    exact lt_of_cell (hl 0 _ (List.getElem?_eq_getElem (List.length_pos_iff.2 h0)))
/-- The bytes have been fed, and laid behind those that are held. -/
theorem pj_held {w w4 w5 : World} {g u s B k : Nat} {H bs : List Nat} {fs : List Fr} {hv wv : Value} {ho : Option Addr} {n c : Nat} (I4 : LI w w4 g u s B 0 ((H ++ bs).take 257) fs) (c4 : Cut B w4 hv H) (f4 : CutF w.heap.size B w4 wv fs) (c5 : Cut B w5 (.slice ho n c) (H ++ bs)) (hn : n = (H ++ bs).length) (g5 : w4.grownBy w5 hv.ownBlock) (hk : (n ≤ 257 ∧ k = n) ∨ (257 < n ∧ k = 257)) (fb : ∀ fr ∈ fs, Bytes fr.pdu) :
    PJ w w5 g u s B 0 ((H ++ bs).take 257) fs (.slice ho k c) wv := by
  have k5 : Below B w4 w5 := (Below.refl B w4).grown g5 I4.BW (fun j hj => (c4.own j hj).1)
  refine ⟨I4.belowB k5 (Nat.le_refl _), ?_, f4.below k5, fb⟩
  have := c5.take hn (k := k) (by omega)
  have e : (H ++ bs).take k = (H ++ bs).take 257 := by
    rcases hk with ⟨h1, rfl⟩ | ⟨_, rfl⟩
    · rw [List.take_of_length_le (by omega), List.take_of_length_le (by omega)]
    · rfl
  rw [e] at this
  exact this
/-- The state at the loop's head. -/
def PI (w W : World) (g u s I : Nat) (hv wv q : Value) : Prop := ∃ (B t : Nat) (H : List Nat) (fs : List Fr), q = .int .i64 (t : Int) ∧ t ≤ I ∧ PJ w W g u s B t H fs hv wv
theorem pi_start {w0 w w1 : World} {u s : Nat} (ln : Ln w1 w.heap.size (new0 u s)) (k0 : Below w0.heap.size w0 w) (k1 : Below w.heap.size w w1) (sz : w1.heap.size = w.heap.size + 1) : PI w0 w1 w.heap.size u s 0 (.slice none 0 0) (.slice none 0 0) (.int .i64 0) :=
  ⟨_, 0, [], [], rfl, Nat.le_refl _, li_start ln k0 k1 sz, Cut.nil _ _, CutF.nil _ _ _, fun fr h => by cases h⟩
theorem PJ.len {w W : World} {g u s B t : Nat} {H : List Nat} {fs : List Fr} {hv wv : Value} (P : PJ w W g u s B t H fs hv wv) : H.length ≤ 257 ∧ fs.length ≤ 8 := P.li.len
/-- The silence's last tick, no frame more. -/
theorem pj_no {w W w5 w6 : World} {g u s B t : Nat} {H : List Nat} {fs : List Fr} {hv wv : Value} (P : PJ w W g u s B t H fs hv wv) (k : Turn g W w5) (I5 : LI w w5 g u s w5.heap.size (t + 1) [] (tickW u fs H)) (k6 : Below w5.heap.size w5 w6) (hno : tickW u fs H = fs) : PJ w w6 g u s w5.heap.size (t + 1) [] fs (.slice none 0 0) wv := by
  rw [hno] at I5
  refine ⟨I5.below k6, Cut.nil _ _, ?_, P.fb⟩
  exact ((P.turnC k).2.mono (Nat.le_trans P.li.BW k.size)).below k6
/-- The silence's last tick, a frame more. -/
theorem pj_yes {w W w5 w6 : World} {g u s B t unit : Nat} {H pdu : List Nat} {fs : List Fr} {hv wv : Value} {po : Option Addr} {pc : Nat} (P : PJ w W g u s B t H fs hv wv) (k : Turn g W w5) (I5 : LI w w5 g u s w5.heap.size (t + 1) [] (tickW u fs H)) (k6 : Below w5.heap.size w5 w6) (own : w6.ownsRow w5.heap.size 5 1 (.slice po pdu.length pc) pdu.length (u8s pdu)) (hyes : tickW u fs H = fs ++ [⟨unit, pdu⟩]) (hpb : Bytes pdu) :
    ∃ v7 w7, (Builtin.append_ #[29, 29] 29 #[wv, .slice (some ⟨w6.heap.size, 0, none⟩) 1 1]).run Try.prog (w6.alloc (.cells #[.int .u8 (unit : Int), .slice po pdu.length pc] 37)) = .ok v7 w7 ∧ PJ w w7 g u s w7.heap.size (t + 1) [] (fs ++ [⟨unit, pdu⟩]) (.slice none 0 0) v7 := by
  rw [hyes] at I5
  have hBW := P.li.BW
  have s5 := k.size
  have s6 := k6.size
  have hlen := P.len.2
  have f6 : CutF w.heap.size w5.heap.size w6 wv fs := ((P.turnC k).2.mono (by omega)).below k6
  obtain ⟨v7, w7, hr, f7, g7⟩ := cutf_push (fr := ⟨unit, pdu⟩) f6 (by omega) (Nat.le_trans I5.k.size s6) s6 (pd_own own)
  refine ⟨v7, w7, hr, ?_, Cut.nil _ _, f7, fun fr h => ?_⟩
  case refine_2 =>
    rcases List.mem_append.1 h with h | h
    · exact P.fb fr h
    · simp at h; subst h; exact hpb
  have I7 := ((I5.below k6).new (.cells #[.int .u8 (unit : Int), .slice po pdu.length pc] 37)).grown g7 (fun j hj => by
    obtain ⟨h1, h2, cs, h3⟩ := f6.row j hj
    exact ⟨h1, cs, (Below.heap_alloc w6 _ j (by omega)).trans h3⟩)
  have s7 := g7.size
  rw [World.size_alloc] at s7
  exact I7.mono (by omega) (Nat.le_refl _)
theorem PJ.tickI {w W w5 : World} {g u s B B5 t : Nat} {H : List Nat} {fs : List Fr} {hv wv : Value} (P : PJ w W g u s B t H fs hv wv) (k : Turn g W w5) (I5 : LI w w5 g u s B5 (tkT t H) (tkH s t H) (tkF u s t H fs)) (hB : B5 = B) (hw : H = [] ∨ t + 1 < s) : PJ w w5 g u s B (tkT t H) H fs hv wv := by
  subst hB
  have e1 : tkH s t H = H := by
    unfold tkH
    rcases hw with rfl | h
    · split <;> rfl
    · rw [if_pos h]
  have e2 : tkF u s t H fs = fs := by
    unfold tkF
    rcases hw with rfl | h
    · rw [if_pos rfl]
    · rw [if_pos h]
      split <;> rfl
  rw [e1, e2] at I5
  exact ⟨I5, (P.turnC k).1, (P.turnC k).2, P.fb⟩
theorem LI.tickE {w w5 : World} {g u s B5 t : Nat} {H : List Nat} {fs : List Fr} (I5 : LI w w5 g u s B5 (tkT t H) (tkH s t H) (tkF u s t H fs)) (hH : H ≠ []) (ht : ¬ (t + 1 < s)) (hB : B5 = w5.heap.size) : LI w w5 g u s w5.heap.size (t + 1) [] (tickW u fs H) := by
  subst hB
  unfold tkT tkH tkF at I5
  rw [if_neg hH, if_neg ht, if_neg hH, if_neg ht] at I5
  exact I5
theorem PJ.byt {w W : World} {g u s B t : Nat} {H : List Nat} {fs : List Fr} {hv wv : Value} (P : PJ w W g u s B t H fs hv wv) : Bytes H := by
  obtain ⟨l, a⟩ := P.li.la
  exact a.byt
theorem cut_some {base : Nat} {W : World} {v : Value} {bs : List Nat} (h : Cut base W v bs) (h0 : bs ≠ []) : ∃ gg off cap, v = .slice (some ⟨gg, off, none⟩) bs.length cap ∧ bs.length ≤ cap := by
  rcases h with ⟨_, h⟩ | ⟨g, off, cap, cur, e, hb, hg, h1, _⟩
  · exact absurd h h0
  · exact ⟨g, off, cap, e, h1⟩
/-- One of the steps. -/
structure Stp where
  what : Int
  n : Int
  b : List Nat
def StepAt (W : World) (lb lo i : Nat) (x : Stp) : Prop := Bytes x.b ∧ ∃ po pc, W.cell? ⟨lb, lo + i * 3, none⟩ = some (.int .i64 x.what) ∧ W.cell? ⟨lb, lo + i * 3 + 1, none⟩ = some (.int .i64 x.n) ∧ W.cell? ⟨lb, lo + i * 3 + 2, none⟩ = some (.slice po x.b.length pc) ∧ Sl W (.slice po x.b.length pc) (u8s x.b)
theorem StepAt.below {W W' : World} {lb lo i : Nat} {x : Stp} (h : StepAt W lb lo i x) (k : Below W.heap.size W W') : StepAt W' lb lo i x := by
  obtain ⟨h1, po, pc, a, b, c, d⟩ := h
  exact ⟨h1, po, pc, keep_cell k a, keep_cell k b, keep_cell k c, d.below k⟩
/-- So many steps and bytes. -/
def tot : List Stp → Nat
  | [] => 0
  | x :: r => 1 + x.b.length + tot r
theorem tot_app (a b : List Stp) : tot (a ++ b) = tot a + tot b := by
  induction a with
  | nil => simp [tot]
  | cons x a ih => simp only [List.cons_append, tot, ih]; omega
theorem tot_take {L : List Stp} {k : Nat} {x : Stp} (h : L[k]? = some x) : tot (L.take (k + 1)) = tot (L.take k) + (1 + x.b.length) := by
  rw [List.take_add_one, h, tot_app]
  simp [tot]
theorem tot_mem {L : List Stp} {x : Stp} (h : x ∈ L) : x.b.length ≤ tot L := by
  induction L with
  | nil => cases h
  | cons y L ih =>
    simp only [tot]
    rcases List.mem_cons.1 h with rfl | h
    · omega
    · have := ih h
      omega
end Go.Proofs.Ytgmbboimndepnaa
