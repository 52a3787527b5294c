/- Small walks: copies, appends, cuts (stage 9). -/
import Derived.Test.YtoiadofoclgnoaaB1
namespace Go.Proofs.Ytoiadofoclgnoaa
open Go.RowKit
open Pdu
theorem u8s_nil {l : List Nat} (h : u8s l = []) : l = [] := by
  have := congrArg List.length h
  rw [u8s_len] at this
  exact List.length_eq_zero_iff.1 (by simpa using this)
theorem one_cell (w : World) (e : TypeId) (x : Value) : ∀ j u, [x][j]? = some u → (w.alloc (.cells #[x] e)).cell? ((⟨w.heap.size, 0, none⟩ : Addr).add j) = some u := by
  intro j u hj
  match j, hj with
  | 0, hj => simp at hj; subst hj; simp [Addr.add]
theorem one_int (k : IntKind) (x : Int) : ∀ u ∈ [Value.int k x], u.oneCell' = true := by
  intro u hu
  simp at hu
  subst hu
  rfl
def ints (bs : List Nat) : List Int := bs.map fun (x : Nat) => (x : Int)
theorem str_none (a : Addr) (c : Nat) (w : World) : (convert 69 9 (.slice (some a) 0 c)).run Try.prog w = .ok (.string (strOfNums [])) w := by
  rw [run_convert_bytes_string w 69 9 5 _ 0 c Try.underlying69 Try.underlying5 Try.underlying9]
  have hl : (loadCells a 0).run Try.prog w = .ok (([] : List Int).map (Value.int .u8)).toArray w := rfl
  rw [run_bytesToString w _ 0 c [] hl]
  rfl
theorem str_c {v : Value} {bs : List Nat} {w : World} (h : Sl w v (u8s bs)) : (convert 69 9 v).run Try.prog w = .ok (.string (strOfNums (ints bs))) w := by
  rcases h with ⟨h, ao, cap, rfl, h0⟩ | ⟨c, off, cap, rfl, _, hc⟩
  · obtain rfl := u8s_nil h
    match ao with
    | none => exact run_convert_bytes_nil w 69 5 Try.underlying69 Try.underlying5 0 cap 9 Try.underlying9
    | some a => exact str_none a cap w
  · rw [u8s_len]
    refine run_convert_bytes_arg w 69 5 Try.underlying69 Try.underlying5 c off bs.length cap (ints bs) (by simp [ints]) (fun i hi => ?_) 9 Try.underlying9
    rw [hc.u8 i hi]
    simp [ints, List.getD, List.getElem?_eq_getElem hi]
theorem str_eq {xs ys : List Nat} (ha : Bytes xs) (hb : Bytes ys) : ((strOfNums (ints xs)).toList == (strOfNums (ints ys)).toList) = decide (xs = ys) := by
  have h : ∀ zs : List Nat, Bytes zs → (zs.map fun x => UInt8.ofNat x).map UInt8.toNat = zs := by
    intro zs hz
    rw [List.map_map]
    conv => rhs; rw [← List.map_id zs]
    apply List.map_congr_left
    intro x hx
    have := hz x hx
    simp [UInt8.toNat_ofNat']
    omega
  have e : ∀ zs : List Nat, (strOfNums (ints zs)).toList = zs.map fun x => UInt8.ofNat x := by
    intro zs
    rw [ByteArray.toList_eq, strOfNums_data]
    simp [ints]
  rw [e, e]
  by_cases hxy : xs = ys
  · subst hxy; simp
  · rw [decide_eq_false hxy, beq_eq_false_iff_ne]
    intro h'
    apply hxy
    rw [← h xs ha, ← h ys hb, h']
theorem run_append_sl {P : Program} {w : World} (base : Nat) (t ty e : TypeId) (i : TypeInfo) (z : Value) (bytes : Nat) (ht : P.underlying t = some (.slice e)) (hi : P.info? e = some i) (hz : i.zero = some z)
    (hsize : i.size = 1) (hby : i.bytes = bytes) (hzs : z.cells.size = 1) (v : Value) (n : Nat) (xs : List Value) (hown : w.ownsRow base e 1 v n xs)
    (x : Value) (news : List Value) (hx : Sl w x news) (h1 : ∀ u ∈ news, u.oneCell' = true) (h63 : n + news.length ≤ maxLen) (hbytes : (n + news.length) * bytes ≤ 140737488355328) (hbase : base ≤ w.heap.size) :
    ∃ v' w', (Builtin.append_ #[t, t] ty #[v, x]).run P w = .ok v' w' ∧ w'.ownsRow base e 1 v' (n + news.length) (xs ++ news) ∧ w.grownBy w' v.ownBlock := by
  rcases hx with ⟨rfl, ao, cap, rfl, h0⟩ | ⟨b, off, cap, rfl, hcap, hc⟩
  · match ao, h0 with
    | none, h0 =>
      rw [h0 rfl]
      refine ⟨v, w, run_append_owned_none (P := P) (w := w) base t ty e i 1 ht hi v n xs hown, ?_, ⟨rfl, rfl, rfl, Nat.le_refl _, fun _ _ _ => rfl⟩⟩
      rw [List.length_nil, Nat.add_zero, List.append_nil]
      exact hown
    | some a, _ =>
      obtain ⟨v', w', hr, h2, h3, _⟩ := run_append_own (P := P) w base t ty e i z 1 bytes ht hi hz hsize hby hzs (by decide) v n xs hown a 0 cap [] rfl (fun j u hj => by simp at hj) (fun u hu => by simp at hu) (by simpa using h63) (by simpa using hbytes) hbase
      exact ⟨v', w', hr, h2, h3⟩
  · obtain ⟨v', w', hr, h2, h3, _⟩ := run_append_own (P := P) w base t ty e i z 1 bytes ht hi hz hsize hby hzs (by decide) v n xs hown ⟨b, off, none⟩ news.length cap news (by rw [Nat.mul_one]) hc.news h1 h63 hbytes hbase
    exact ⟨v', w', hr, h2, h3⟩
theorem step_append_run {P : Program} {ops : Array Oper} {o : Oper} {a : Act} {w : World} {K : Act → World → Prop} {Q : Exit → Act → World → Prop} {E : Prop}
    (hg : o.guard = none) (s x : Operand) (t tn : TypeId) (ho : o.op = .call { callee := .builtin .append, args := #[s, x], argTypes := #[t, tn] }) (vs vx : Value) (hs : a.eval s = vs) (hx : a.eval x = vx)
    (v' : Value) (w' : World) (hr : (Builtin.append_ #[t, tn] o.type #[vs, vx]).run P w = .ok v' w') (h : K (a.put o.dst v') w') :
    if Region.wanted o (yielded ops a.tmps) = true then Oper.wp P o a w K Q else E := by
  rw [if_pos (by simp [Region.wanted, hg])]
  exact Lib.wp_append_run w s x t tn ho vs vx hs hx v' w' hr h
theorem sl_cut {w : World} {g : Nat} {bs : List Nat} {n c p : Nat} (h : Sl w (.slice (some ⟨g, 0, none⟩) n c) (u8s bs)) (hp : p < bs.length) : Sl w (.slice (some ⟨g, 0, none⟩) p c) (u8s (bs.take p)) := by
  rcases h with ⟨h, _⟩ | ⟨b, off, cap, e, hcap, hc⟩
  · have := congrArg List.length h
    rw [u8s_len, List.length_nil] at this
    omega
  · injection e with e1 e2 e3
    injection e1 with e1
    injection e1 with e4 e5 e6
    subst e3 e4 e5
    have hl : (u8s (bs.take p)).length = p := by rw [u8s_len, List.length_take]; omega
    refine Or.inr ⟨g, 0, c, by rw [hl], by rw [hl]; rw [u8s_len] at hcap; omega, ?_⟩
    intro j u hj
    refine hc j u ?_
    have hj' : j < p := by
      have := (List.getElem?_eq_some_iff.1 hj).1
      omega
    unfold u8s at hj ⊢
    rw [List.map_take, List.getElem?_take, if_pos hj'] at hj
    exact hj
theorem own_some {w : World} {base n : Nat} {v : Value} {bs : List Nat} (h : w.ownsRow base 5 1 v n (u8s bs)) (h0 : bs ≠ []) : ∃ g c, v = .slice (some ⟨g, 0, none⟩) bs.length c ∧ bs.length ≤ c := by
  have hl := h.1
  rw [u8s_len, Nat.mul_one] at hl
  rcases h.2 with ⟨_, h⟩ | ⟨g, cap, cur, h, _, _, hc, _⟩
  · exact absurd (List.length_eq_zero_iff.1 (hl.trans h)) h0
  · rw [← hl] at h hc
    exact ⟨g, cap, h, hc⟩
set_option maxHeartbeats 800000 in
theorem step_append_sl {ops : Array Oper} {o : Oper} {a : Act} {W : World} {K : Act → World → Prop} {Q : Exit → Act → World → Prop} {E : Prop}
    (hg : o.guard = none) (s x : Operand) (ho : o.op = .call { callee := .builtin .append, args := #[s, x], argTypes := #[69, 69] })
    (base : Nat) (v vx : Value) (bs ms : List Nat) (hs : a.eval s = v) (hx : a.eval x = vx) (hown : W.ownsRow base 5 1 v bs.length (u8s bs)) (hm : Sl W vx (u8s ms)) (hsz : bs.length + ms.length ≤ 60000) (hbase : base ≤ W.heap.size)
    (h : ∀ v' w', Sl w' v' (u8s (bs ++ ms)) → Below base W w' → (∀ j, j < W.heap.size → v.ownBlock ≠ some j → w'.heap[j]? = W.heap[j]?) → K (a.put o.dst v') w') :
    if Region.wanted o (yielded ops a.tmps) = true then Oper.wp Try.prog o a W K Q else E := by
  obtain ⟨i0, hi, hz0, hz1, hz2⟩ := info_parts Try.infoByte
  obtain ⟨y6, w6, hAp, own6, g6⟩ := run_append_sl (P := Try.prog) (w := W) base 69 o.type 5 i0 (.int .u8 0) 1 Try.underlying69 hi hz0 hz1 hz2 rfl v _ _ hown vx (u8s ms) hm (u8s_one ms) (by rw [u8s_len]; unfold maxLen; omega) (by rw [u8s_len]; omega) hbase
  rw [← u8s_app] at own6
  exact step_append_run hg s x 69 69 ho v vx hs hx y6 w6 hAp (h y6 w6 (own_sl own6) ((Below.refl base W).grown g6 hbase (fun g hg' => (hown.lt g hg').1)) (fun j hj hne => g6.block j hj (fun e => hne e.symm)))
set_option maxHeartbeats 1600000 in
theorem place_c (k : Int) (n : Nat) (hn : 0 < n) (hm : n ≤ 1000000) (w : World) : Calls Try.prog 11 #[.int .i64 k, .int .i64 n] w fun e w' => (∃ p : Nat, p < n ∧ e = .returned (.int .i64 p)) ∧ w' = w := by
  have hne : ¬ (n : Int) = 0 := by omega
  obtain ⟨t, ht⟩ : ∃ t, k.tmod n = t := ⟨_, rfl⟩
  have hb : t.natAbs < n := by
    rw [← ht, Int.natAbs_tmod]
    exact Nat.mod_lt _ (by omega)
  by_cases h0 : t < 0
  · have h1 : -(n : Int) < t := by omega
    clear hb
    go_enter Try.func11, Try.ntmps11
    go_wp2
    go_ret
    exact ⟨⟨(t + n).toNat, by omega, by rw [Int.toNat_of_nonneg (by omega)]; rfl⟩, rfl⟩
  · have h1 : t < n := by omega
    clear hb
    go_enter Try.func11, Try.ntmps11
    go_wp2
    go_ret
    exact ⟨⟨t.toNat, by omega, by rw [Int.toNat_of_nonneg (by omega)]; rfl⟩, rfl⟩
set_option maxHeartbeats 800000 in
theorem step_append_own2 {ops : Array Oper} {o : Oper} {a : Act} {W : World} {K : Act → World → Prop} {Q : Exit → Act → World → Prop} {E : Prop}
    (hg : o.guard = none) (s x : Operand) (ho : o.op = .call { callee := .builtin .append, args := #[s, x], argTypes := #[69, 69] })
    (base : Nat) (v vx : Value) (bs ms : List Nat) (hs : a.eval s = v) (hx : a.eval x = vx) (hown : W.ownsRow base 5 1 v bs.length (u8s bs)) (hm : Sl W vx (u8s ms)) (hsz : bs.length + ms.length ≤ 60000) (hbase : base ≤ W.heap.size)
    (h : ∀ v' w', w'.ownsRow base 5 1 v' (bs ++ ms).length (u8s (bs ++ ms)) → Below base W w' → K (a.put o.dst v') w') :
    if Region.wanted o (yielded ops a.tmps) = true then Oper.wp Try.prog o a W K Q else E := by
  obtain ⟨i0, hi, hz0, hz1, hz2⟩ := info_parts Try.infoByte
  obtain ⟨y6, w6, hAp, own6, g6⟩ := run_append_sl (P := Try.prog) (w := W) base 69 o.type 5 i0 (.int .u8 0) 1 Try.underlying69 hi hz0 hz1 hz2 rfl v _ _ hown vx (u8s ms) hm (u8s_one ms) (by rw [u8s_len]; unfold maxLen; omega) (by rw [u8s_len]; omega) hbase
  rw [← u8s_app, u8s_len, ← List.length_append] at own6
  exact step_append_run hg s x 69 69 ho v vx hs hx y6 w6 hAp (h y6 w6 own6 ((Below.refl base W).grown g6 hbase (fun g hg' => (hown.lt g hg').1)))
theorem made_own (X : World) (c base : Nat) (hb : base ≤ X.heap.size) (hc : c ≤ 1000000) : (X.alloc (.cells (madeCells #[.int .u8 0] c) 5)).ownsRow base 5 1 (.slice (some ⟨X.heap.size, 0, none⟩) 0 c) ([] : List Nat).length (u8s []) :=
  World.ownsRow_made X _ c hb (by unfold maxLen; omega) (by rw [size_madeCells, Nat.mul_one])
theorem lit_sl (w : World) (x : Nat) : Sl (w.alloc (.cells #[.int .u8 x] 5)) (.slice (some ⟨w.heap.size, 0, none⟩) 1 1) (u8s [x]) := own_sl (lit_own w x)
theorem Lies.drewN {w : World} {b off : Nat} {vs : List Value} (h : Lies w b off vs) (d : Nat) : Lies (w.drewN d) b off vs := h
theorem below_drewN {B : Nat} {w u : World} (h : Below B w u) (d : Nat) : Below B w (u.drewN d) := ⟨h.os, h.tape, h.output, h.size, h.block⟩
theorem sub_sl {W : World} {b off : Nat} {bs : List Nat} (h : Lies W b off (u8s bs)) (i m c : Nat) (hi : i + m ≤ bs.length) (hc : m ≤ c) : Sl W (.slice (some ⟨b, off + i, none⟩) m c) (u8s ((bs.drop i).take m)) := by
  have hl : (u8s ((bs.drop i).take m)).length = m := by rw [u8s_len, List.length_take, List.length_drop]; omega
  refine Or.inr ⟨b, off + i, c, by rw [hl], by rw [hl]; exact hc, ?_⟩
  intro j u hj
  refine h.drop i j u ?_
  have hj' : j < m := by
    have := (List.getElem?_eq_some_iff.1 hj).1
    omega
  unfold u8s at hj ⊢
  rw [List.map_take, List.getElem?_take, if_pos hj', List.map_drop] at hj
  exact hj
theorem kept_block {Y w2 : World} {d g : Nat} {o : Obj} (k : Below (Y.drewN d).heap.size (Y.drewN d) w2) (h : g < Y.heap.size) (hY : Y.heap[g]? = some o) : w2.heap[g]? = some o := (k.block g h).trans hY
theorem kept_cell {Y w2 : World} {d b i : Nat} {v : Value} (k : Below (Y.drewN d).heap.size (Y.drewN d) w2) (h : b < Y.heap.size) (hY : Y.cell? ⟨b, i, none⟩ = some v) : w2.cell? ⟨b, i, none⟩ = some v := (k.cell (p := ⟨b, i, none⟩) h).trans hY
theorem kept_below {w Y w2 : World} {d : Nat} (h : Below w.heap.size w Y) (k : Below (Y.drewN d).heap.size (Y.drewN d) w2) : Below w.heap.size w w2 := below_and (below_drewN h d) k
theorem lit_bytes (w : World) (l : List Nat) (a : Array Value) (n : Nat) (ha : a.toList = u8s l) (hn : n = l.length) : Sl (w.alloc (.cells a 5)) (.slice (some ⟨w.heap.size, 0, none⟩) n n) (u8s l) := by
  refine Or.inr ⟨w.heap.size, 0, n, by rw [u8s_len, hn], by rw [u8s_len, hn]; exact Nat.le_refl _, fun k u hk => ?_⟩
  rw [World.cell?_alloc_new, Nat.zero_add, ← Array.getElem?_toList, ha]
  exact hk
end Go.Proofs.Ytoiadofoclgnoaa
