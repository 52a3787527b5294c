/- Code as an argument: from what is read of it to the rows in memory (stage 20). -/
import Derived.Test.YtkknfolahfmghaaDoorCB
import Derived.ProofKit
import Derived.OpenShut
import Derived.Deep.Matrix
import Derived.Deep.Grids
import Derived.Lib.SmallJoins
import Derived.SizedLaws
namespace Go.Proofs.YtkknfolahfmghaaDoor
open Go.ChangeShapes Go.WideShapes Go.ChangeAt Go.RowKit Go.Deep Go.Joins
open Fb Cod
theorem i64_wf {z : Int} (h : (Lit.int .i64 z).wf = true) : -9223372036854775808 ≤ z ∧ z ≤ 9223372036854775807 := by
  simpa [Lit.wf, IntKind.min, IntKind.max, IntKind.signed, IntKind.bits] using h
/-- A slice value whose cells are these values. -/
theorem sl_of {W : World} {a : Addr} {len cap : Nat} {vs : List Value} (hl : len = vs.length) (hc : len ≤ cap) (hcell : ∀ i u, vs[i]? = some u → W.cell? (a.add i) = some u) : Sl W (.slice (some a) len cap) vs := by
  by_cases h0 : vs = []
  · subst h0
    subst hl
    exact Or.inl ⟨rfl, some a, cap, rfl, fun h => by simp at h⟩
  · obtain ⟨b, off, spot⟩ := a
    have hpos : 0 < vs.length := List.length_pos_iff.2 h0
    have hspot : spot = none := by simpa [Addr.add] using World.cell?_spot (hcell 0 _ (List.getElem?_eq_getElem hpos))
    subst hspot
    refine Or.inr ⟨b, off, cap, by rw [hl], by omega, fun k u hk => ?_⟩
    have hplain : (⟨b, off, none⟩ : Addr).add k = ⟨b, off + k, none⟩ := by unfold Addr.add; split <;> simp_all
    rw [← hplain]
    exact hcell k u hk
theorem cells1I : Tryd.prog.cellsOf 3 = 1 := by kernel_rfl
theorem cells5I : Tryd.prog.cellsOf 41 = 5 := by kernel_rfl
theorem fld_int {H : Type} {enc : TypeId × Value → H} {W : World} {fuel : Nat} {v : Value} {y : DataW H × List MemPlace} (hf : DataW.trod enc Tryd.prog W 0 (fun _ => true) true fuel 3 [v] = some y) : ∃ x : Int, v = .int .i64 x ∧ (-9223372036854775808 ≤ x ∧ x ≤ 9223372036854775807) := by
  obtain ⟨a, e0, _, wa⟩ := DataW.trod_int Tryd.underlying3 hf
  exact ⟨a, by simpa using e0, i64_wf wa⟩
theorem fld_i64 {H : Type} {enc : TypeId × Value → H} {W : World} {fuel : Nat} {v : Value} {y : DataW H × List MemPlace} (hf : DataW.trod enc Tryd.prog W 0 (fun _ => true) true fuel 2 [v] = some y) : ∃ x : Int, v = .int .i64 x ∧ (-9223372036854775808 ≤ x ∧ x ≤ 9223372036854775807) := by
  obtain ⟨a, e0, _, wa⟩ := DataW.trod_int Tryd.underlying2 hf
  exact ⟨a, by simpa using e0, i64_wf wa⟩
theorem fld_str {H : Type} {enc : TypeId × Value → H} {W : World} {fuel : Nat} {v : Value} {y : DataW H × List MemPlace} (hf : DataW.trod enc Tryd.prog W 0 (fun _ => true) true fuel 9 [v] = some y) : ∃ s : ByteArray, v = .string s ∧ y.1 = .lit (.string s.data.toList) := by
  obtain ⟨a, e0, e1, wa⟩ := DataW.trod_string Tryd.underlying9 hf
  exact ⟨a, by simpa using e0, by rw [e1]⟩
/-- Numbers that fit in 64 bits; a name that may be. -/
structure Fit (x : Ins) : Prop where
  op : -9223372036854775808 ≤ x.op ∧ x.op ≤ 9223372036854775807
  a : -9223372036854775808 ≤ x.a ∧ x.a ≤ 9223372036854775807
  b : -9223372036854775808 ≤ x.b ∧ x.b ≤ 9223372036854775807
  c : -9223372036854775808 ≤ x.c ∧ x.c ≤ 9223372036854775807
  nm : x.name.size ≤ 140737488355328
theorem wall_mem {H : Type} {P : Program} {e : TypeId} : ∀ {l : List (DataW H)} {d : DataW H} {m : Nat}, d ∈ l → m ∈ d.weights P e → m ∈ DataW.weightsAll P e l
  | [], _, _, h, _ => by cases h
  | a :: l, d, m, h, hm => by
    rw [DataW.weightsAll, List.mem_append]
    rcases List.mem_cons.1 h with rfl | h
    · exact Or.inl hm
    · exact Or.inr (wall_mem h hm)
theorem w_slice {H : Type} {P : Program} {t e : TypeId} {elems spare : List (DataW H)} (ht : P.underlying t = some (.slice e)) : (DataW.slice elems spare).weights P t = (elems.length + spare.length) * P.bytesOf e :: (DataW.weightsAll P e elems ++ DataW.weightsAll P e spare) := by
  rw [DataW.weights]; simp [ht]
theorem w_struct {H : Type} {P : Program} {t : TypeId} {fs : Array Field} {parts : List (DataW H)} (ht : P.underlying t = some (.struct fs)) : (DataW.agg parts).weights P t = DataW.weightsEach P (fs.toList.map (·.type)) parts := by
  rw [DataW.weights]; simp [ht]
set_option maxRecDepth 100000 in
theorem open_ins {H : Type} {enc : TypeId × Value → H} {W : World} {fuel : Nat} {cs : List Value} {y : DataW H × List MemPlace} (hf : DataW.trod enc Tryd.prog W 0 (fun _ => true) true fuel 23 cs = some y) (hz : ∀ m ∈ y.1.weights Tryd.prog 23, m ≤ reachBytes) :
    ∃ la n lc L, cs = [.slice la n lc] ∧ n = L.length ∧ n ≤ 140737488355328 ∧ Il W la L ∧ (la = none → n = 0 ∧ lc = 0) ∧ ∀ x ∈ L, Fit x := by
  rcases open_slice Tryd.underlying23 hf with ⟨hcs, _⟩ | ⟨a, len, cap, m, nf, D, Pl, hcs, _, hl, hm, hmm, hx, hr⟩
  · exact ⟨none, 0, 0, [], hcs, rfl, Nat.zero_le _, Or.inl rfl, fun _ => ⟨rfl, rfl⟩, fun x h => (List.not_mem_nil h).elim⟩
  · simp only [if_true] at hmm
    rw [cells5I] at hr
    have hy : y.1 = .slice ((List.range len).map D) ((List.range (m - len)).map fun j => D (len + j)) := by rw [hx]
    rw [hy, w_slice Tryd.underlying23] at hz
    have hbig := hz _ (List.mem_cons_self ..)
    rw [List.length_map, List.length_map, List.length_range, List.length_range, show Tryd.prog.bytesOf 41 = 48 by kernel_rfl] at hbig
    have hbig : (len + (m - len)) * 48 ≤ 140737488351232 := hbig
    have hsm : ∀ i, i < len → ∀ q ∈ (D i).weights Tryd.prog 41, q ≤ reachBytes := fun i hi q hq => hz q (List.mem_cons_of_mem _ (List.mem_append.2 (Or.inl (wall_mem (List.mem_map.2 ⟨i, List.mem_range.2 hi, rfl⟩) hq))))
    by_cases h00 : len = 0
    · subst h00
      exact ⟨_, _, _, [], hcs, rfl, Nat.zero_le _, Or.inl rfl, (fun e => by cases e), fun x h => (List.not_mem_nil h).elim⟩
    obtain ⟨b, off, spot⟩ := a
    have hspot : spot = none := by
      obtain ⟨cs', h1, _⟩ := hr 0 (by omega)
      obtain ⟨_, hlen, hcell⟩ := World.cells?_some h1
      have := hcell 0 (by omega)
      match cs', hlen with
      | [c0, c1, c2, c3, c4], _ =>
        have h2 := World.cell?_spot (w := W) (v := c0) (by simpa using this)
        simpa [Addr.add] using h2
    subst hspot
    have hp : ∀ q, (⟨b, off, none⟩ : Addr).add q = ⟨b, off + q, none⟩ := fun q => by unfold Addr.add; split <;> simp_all
    have each : ∀ i, i < len → ∃ x : Ins, InsAt W b off i x ∧ Fit x := by
      intro i hi
      obtain ⟨cs', h1, h2⟩ := hr i (by omega)
      obtain ⟨_, hlen, hcell⟩ := World.cells?_some h1
      obtain ⟨xs, n2, _, hxe, _, hxl, hff⟩ := DataW.trod_struct Tryd.underlying41 h2
      match cs', hlen with
      | [c0, c1, c2, c3, c4], _ =>
        match xs, hxl with
        | [y0, y1, y2, y3, y4], _ =>
          have f0 := hff 0 _ rfl
          have f1 := hff 1 _ rfl
          have f2 := hff 2 _ rfl
          have f3 := hff 3 _ rfl
          have f4 := hff 4 _ rfl
          have g0 : DataW.trod enc Tryd.prog W 0 (fun _ => true) true n2 3 [c0] = some y0 := f0
          have g1 : DataW.trod enc Tryd.prog W 0 (fun _ => true) true n2 3 [c1] = some y1 := f1
          have g2 : DataW.trod enc Tryd.prog W 0 (fun _ => true) true n2 3 [c2] = some y2 := f2
          have g3 : DataW.trod enc Tryd.prog W 0 (fun _ => true) true n2 2 [c3] = some y3 := f3
          have g4 : DataW.trod enc Tryd.prog W 0 (fun _ => true) true n2 9 [c4] = some y4 := f4
          obtain ⟨x0, rfl, w0⟩ := fld_int g0
          obtain ⟨x1, rfl, w1⟩ := fld_int g1
          obtain ⟨x2, rfl, w2⟩ := fld_int g2
          obtain ⟨x3, rfl, w3⟩ := fld_i64 g3
          obtain ⟨x4, rfl, e4⟩ := fld_str g4
          have w4 : x4.size ≤ 140737488355328 := by
            have ed : D i = .agg [y0.1, y1.1, y2.1, y3.1, y4.1] := congrArg Prod.fst hxe
            have q := hsm i hi x4.data.toList.length (by
              rw [ed, w_struct Tryd.underlying41]
              refine DataW.weights_mem_each (j := 4) (t := 9) (d := y4.1) rfl rfl _ ?_
              rw [e4, DataW.weights]
              exact List.mem_singleton.2 rfl)
            have e5 : x4.data.toList.length = x4.size := Array.length_toList
            have : reachBytes = 140737488351232 := rfl
            omega
          refine ⟨⟨x0, x1, x2, x3, x4⟩, fun k u hk => ?_, ⟨w0, w1, w2, w3, w4⟩⟩
          have hk6 : k < 5 := by have := (List.getElem?_eq_some_iff.1 hk).1; simpa [Ins.cs] using this
          have q := hcell k (by omega)
          rw [add_add, hp] at q
          rw [Nat.add_assoc]
          rw [q, ← hk]
          simp [Ins.cs]
    obtain ⟨F, hF⟩ := @choose_lt Ins ⟨⟨0, 0, 0, 0, ⟨#[]⟩⟩⟩ len _ each
    refine ⟨_, _, _, (List.range len).map F, hcs, by simp, by omega, Or.inr ⟨b, off, rfl, fun i f hi => ?_⟩, (fun e => by cases e), fun x hx => ?_⟩
    · have hil : i < len := by have := (List.getElem?_eq_some_iff.1 hi).1; simpa using this
      rw [List.getElem?_map, List.getElem?_range hil] at hi
      simp at hi
      subst hi
      exact (hF i hil).1
    · simp only [List.mem_map, List.mem_range] at hx
      obtain ⟨i, hi, rfl⟩ := hx
      exact (hF i hi).2
set_option maxRecDepth 100000 in
theorem open_kinds {H : Type} {enc : TypeId × Value → H} {W : World} {fuel : Nat} {cs : List Value} {y : DataW H × List MemPlace} (hf : DataW.trod enc Tryd.prog W 0 (fun _ => true) true fuel 22 cs = some y) (hz : ∀ m ∈ y.1.weights Tryd.prog 22, m ≤ reachBytes) :
    ∃ va n c K, cs = [.slice va n c] ∧ n = K.length ∧ n ≤ 140737488355328 ∧ Sl W (.slice va n c) (i64s K) ∧ (∀ x ∈ K, -9223372036854775808 ≤ x ∧ x ≤ 9223372036854775807) := by
  rcases open_ints Tryd.underlying22 Tryd.underlying3 cells1I hf with ⟨hcs, _⟩ | ⟨a, len, cap, zs, hcs, _, hl, hm, hz', hy, hcell, hwz⟩
  · exact ⟨none, 0, 0, [], hcs, rfl, Nat.zero_le _, Sl.nil W, fun x h => (List.not_mem_nil h).elim⟩
  · simp only [if_true] at hz'
    have hlen : (zs.take len).length = len := by simp; omega
    have hn9 : len ≤ 140737488355328 := by
      have hy1 : y.1 = .slice (lits .i64 (zs.take len)) (lits .i64 (zs.drop len)) := by rw [hy]
      rw [hy1, w_slice Tryd.underlying22] at hz
      have hbig := hz _ (List.mem_cons_self ..)
      rw [show Tryd.prog.bytesOf 3 = 8 by kernel_rfl] at hbig
      have e1 : (lits (H := H) .i64 (zs.take len)).length = len := by unfold lits; rw [List.length_map, hlen]
      rw [e1] at hbig
      have : reachBytes = 140737488351232 := rfl
      omega
    refine ⟨_, _, _, zs.take len, hcs, hlen.symm, hn9, sl_of (by rw [i64s_len, hlen]) (by omega) fun i u hi => ?_, fun x hx => i64_wf (hwz x (List.mem_of_mem_take hx))⟩
    have hil : i < len := by have := (List.getElem?_eq_some_iff.1 hi).1; rw [i64s_len, hlen] at this; exact this
    rw [i64s_at _ i (by rw [hlen]; exact hil)] at hi
    have e : (zs.take len).getD i 0 = zs.getD i 0 := by
      simp only [List.getD_eq_getElem?_getD, List.getElem?_take, if_pos hil]
    rw [hcell i (by omega), ← hi, e]
set_option maxRecDepth 100000 in
theorem open_code {H : Type} {enc : TypeId × Value → H} {W : World} {base : Nat} {v : Value} {d : DataW H} {p : List MemPlace} (hok : Value.okWide Tryd.prog W .any base 25 v) (h : DataW.Trod enc Tryd.prog W 0 (fun _ => true) true 25 v d p) (hz : ∀ m ∈ d.weights Tryd.prog 25, m ≤ reachBytes) :
    ∃ va kn kc la n lc K L, v = .agg #[.slice va kn kc, .slice la n lc] ∧ kn = K.length ∧ kn ≤ 140737488355328 ∧ Sl W (.slice va kn kc) (i64s K) ∧ n = L.length ∧ n ≤ 140737488355328 ∧ Il W la L ∧ (la = none → n = 0 ∧ lc = 0) ∧ ∀ x ∈ L, Fit x := by
  simp only [Value.okWide, Tryd.underlying25] at hok
  obtain ⟨cs, rfl, h2, _⟩ := hok
  rw [show Tryd.prog.cellsOf 25 = 2 by kernel_rfl] at h2
  obtain ⟨l⟩ := cs
  match l, h2, h with
  | [c0, c1], _, ⟨fuel, hf⟩ =>
    obtain ⟨xs, n2, _, hxe, _, hxl, hff⟩ := DataW.trod_struct Tryd.underlying25 (show DataW.trod enc Tryd.prog W 0 (fun _ => true) true fuel 25 [c0, c1] = some (d, p) from hf)
    match xs, hxl with
    | [y0, y1], _ =>
      have f0 := hff 0 _ rfl
      have f1 := hff 1 _ rfl
      have g0 : DataW.trod enc Tryd.prog W 0 (fun _ => true) true n2 22 [c0] = some y0 := f0
      have g1 : DataW.trod enc Tryd.prog W 0 (fun _ => true) true n2 23 [c1] = some y1 := f1
      have ed : d = .agg [y0.1, y1.1] := congrArg Prod.fst hxe
      rw [ed, w_struct Tryd.underlying25] at hz
      obtain ⟨va, kn, kc, K, e0, k1, k2, k3, _⟩ := open_kinds g0 (fun m hm => hz m (DataW.weights_mem_each (j := 0) (t := 22) (d := y0.1) rfl rfl _ hm))
      obtain ⟨la, n, lc, L, e1, l1, l2, l3, l4, l5⟩ := open_ins g1 (fun m hm => hz m (DataW.weights_mem_each (j := 1) (t := 23) (d := y1.1) rfl rfl _ hm))
      simp at e0 e1
      subst e0 e1
      exact ⟨va, kn, kc, la, n, lc, K, L, rfl, k1, k2, k3, l1, l2, l3, l4, l5⟩
end Go.Proofs.YtkknfolahfmghaaDoor
