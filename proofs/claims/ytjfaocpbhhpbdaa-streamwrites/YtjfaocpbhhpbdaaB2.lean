/- Small walks: words, copies, appends (stage 6). -/
import Derived.Test.YtjfaocpbhhpbdaaB1
namespace Go.Proofs.Ytjfaocpbhhpbdaa
open Go.RowKit
open Pdu
theorem u8s_nil {l : List Nat} (h : u8s l = []) : l = [] := by
  have := congrArg List.length h
  rw [u8s_len] at this
  exact List.length_eq_zero_iff.1 (by simpa using this)
theorem one_cell (w : World) (e : TypeId) (x : Value) : ∀ j u, [x][j]? = some u → (w.alloc (.cells #[x] e)).cell? ((⟨w.heap.size, 0, none⟩ : Addr).add j) = some u := by
  intro j u hj
  match j, hj with
  | 0, hj => simp at hj; subst hj; simp [Addr.add]
theorem one_int (k : IntKind) (x : Int) : ∀ u ∈ [Value.int k x], u.oneCell' = true := by
  intro u hu
  simp at hu
  subst hu
  rfl
theorem Put.drew {base lb k : Nat} {w wr : World} {v : Value} {bs l : List Nat} (h : Put base lb w wr v bs l k) : Put base lb w wr.drew v bs l k := ⟨h.1.drew, h.2.1.drew, h.2.2⟩
set_option maxHeartbeats 1600000 in
theorem two_at (base lb lo m lc : Nat) (bv : Value) (bs l : List Nat) (w : World) (hl : m = l.length) (hw : Words l) (hsz : bs.length + 2 * m ≤ 1000000)
    (hown : w.ownsRow base 5 1 bv bs.length (u8s bs)) (hlies : Lies w lb lo (u16s l)) (hoff : lb < base ∨ ∃ cs fl, w.heap[lb]? = some (.cells cs 27 fl)) (hlb : lb < w.heap.size) (hbase : base ≤ w.heap.size) :
    Calls Try.prog 22 #[bv, .slice (some ⟨lb, lo, none⟩) m lc] w fun e w' => ∃ v', e = .returned v' ∧ w'.ownsRow base 5 1 v' (bs.length + 2 * m) (u8s (bs ++ wds l)) ∧ Below base w w' := by
  obtain ⟨i0, hi, hz0, hz1, hz2⟩ := info_parts Try.infoByte
  have HN : Hid (m = l.length) := hl
  have HL : Hid (Lies w lb lo (u16s l)) := hlies
  have HO : Hid (w.ownsRow base 5 1 bv bs.length (u8s bs)) := hown
  have HF : Hid (lb < base ∨ ∃ cs fl, w.heap[lb]? = some (.cells cs 27 fl)) := hoff
  clear hl hlies hown hoff
  go_enter Try.func22, Try.ntmps22
  go_wp2
  go_loopw [0, 5] (fun v i wr => ∃ k : Nat, k ≤ m ∧ i = .int .i64 k ∧ Put base lb w wr v bs l k) (fun _ i _ => m - (intOf i).toNat)
  case atStart => exact ⟨0, by omega, rfl, by simpa [wds] using HO.out, Below.refl _ _, rfl⟩
  case round =>
    obtain ⟨k, hk, rfl, HP⟩ := hrel
    obtain ⟨x, hx⟩ : ∃ x, x = l.getD k 0 := ⟨_, rfl⟩
    have hx16 : x < 65536 := by rw [hx]; exact hw.at k
    have hcell : k < m → wr.cell? ⟨lb, lo + k, none⟩ = some (.int .u16 x) := fun h => by
      have hk' : k < l.length := by rw [← (show m = _ from HN)]; exact h
      rw [hx, World.cell?_of_block (w := w) (a := ⟨lb, lo + k, none⟩) HP.2.2]
      exact HL.out.u16 k hk'
    have HX : Hid (x = l.getD k 0) := hx
    have HP : Hid (Put base lb w wr u0 bs l k) := HP
    clear hx
    have hsize : base ≤ wr.heap.size := by have := HP.out.2.1.size; omega
    go_wp2
    · have hkm : k < m := by assumption
      have hc := hcell hkm
      have e1 : IntKind.u8.wrap ((x : Int) / 256) = (x : Int) / 256 := by rw [IntKind.wrap_u8]; omega
      have e2 : IntKind.u8.wrap (x : Int) = (x : Int) % 256 := by rw [IntKind.wrap_u8]
      clear hcell
      go_region_law (refine step_append_own rfl (.tmp 12) (.tmp 24) 22 rfl base 5 i0 (.int .u8 0) 1 1 Try.underlying22 hi hz0 hz1 hz2 rfl (by decide) _ (bs.length + 2 * k) _ rfl (HP.out.1.alloc _).drew ⟨wr.heap.size, 0, none⟩ 2 2 [.int .u8 ((x : Int) / 256), .int .u8 ((x : Int) % 256)] rfl rfl (two_cells wr _ _ _) (two_one _ _ _) (by unfold maxLen; omega) (by omega) (by simp; omega) ?_; intro v' w1 hown' hgrow hnil)
      all_goals
        have hg : (wr.alloc (.cells #[.int .u8 ((x : Int) / 256), .int .u8 ((x : Int) % 256)] 5)).grownBy w1 u0.ownBlock := ⟨hgrow.os, hgrow.tape, hgrow.output, hgrow.size, hgrow.block⟩
        have HR : Hid (Put base lb w w1 v' bs l (k + 1)) := put_step HF hlb hbase (by rw [← (show m = _ from HN)]; exact hkm) HX HP (by rw [wd_u8s]; exact hown') hg
        clear hown' hgrow hg hnil HP hc
        go_wp2
        go_roundw
        case rel => exact ⟨k + 1, by omega, by go_num, HR⟩
        case measure => simp [intOf]; omega
    · obtain rfl : k = m := by omega
      go_ret
      have hm : k = l.length := HN
      refine ⟨_, rfl, ?_, HP.out.2.1⟩
      have h1 := HP.out.1
      rw [hm, List.take_length, ← hm] at h1
      exact h1
set_option maxHeartbeats 1600000 in
theorem two_none (bv : Value) (ao : Option Addr) (c : Nat) (w : World) : Calls Try.prog 22 #[bv, .slice ao 0 c] w fun e w' => e = .returned bv ∧ w' = w := by
  go_enter Try.func22, Try.ntmps22
  go_wp2
  go_loop [0, 5] (fun v i => i = .int .i64 0 ∧ v = bv) (fun _ _ => 0)
  case atStart => exact ⟨rfl, rfl⟩
  case round =>
    obtain ⟨rfl, rfl⟩ := hrel
    go_wp2
    go_ret
    exact ⟨rfl, rfl⟩
theorem two_c {base : Nat} {bv v : Value} {bs l : List Nat} {w : World} (hw : Words l) (hsz : bs.length + 2 * l.length ≤ 1000000)
    (hown : w.ownsRow base 5 1 bv bs.length (u8s bs)) (hl : Sl w v (u16s l)) (hoff : Off base w v (u16s l)) (hbase : base ≤ w.heap.size) :
    Calls Try.prog 22 #[bv, v] w fun e w' => ∃ v', e = .returned v' ∧ w'.ownsRow base 5 1 v' (bs ++ wds l).length (u8s (bs ++ wds l)) ∧ Below base w w' := by
  have hlen : (bs ++ wds l).length = bs.length + 2 * l.length := by rw [List.length_append, wds_length]
  by_cases hne : l = []
  · subst hne
    obtain ⟨ao, c, rfl⟩ := hl.shape
    refine (two_none bv ao c w).mono ?_
    rintro e w' ⟨rfl, rfl⟩
    exact ⟨_, rfl, by simpa [wds] using hown, Below.refl _ _⟩
  · have h0 : 0 < l.length := List.length_pos_iff.2 hne
    rcases hl with ⟨h, _⟩ | ⟨b, off, cap, rfl, _, hc⟩
    · have := congrArg List.length h; rw [u16s_len] at this; simp at this; exact absurd this hne
    · have hne' : u16s l ≠ [] := fun e => by have := congrArg List.length e; rw [u16s_len] at this; simp at this; exact hne this
      rw [hlen]
      rw [u16s_len]
      exact two_at base b off l.length cap bv bs l w rfl hw hsz hown hc (hoff hne' _ _ _ rfl) (lt_of_cell (hc.u16 0 h0)) hbase
theorem next_two {base : Nat} {bv : Value} {bs l : List Nat} {w : World} {a : Array Value} {n : Nat} (ha : a.toList = u16s l) (hn : n = l.length) (hw : Words l) (hsz : bs.length + 2 * l.length ≤ 1000000) (hown : w.ownsRow base 5 1 bv bs.length (u8s bs)) (hbase : base ≤ w.heap.size) :
    Calls Try.prog 22 #[bv, .slice (some ⟨w.heap.size, 0, none⟩) n n] (w.alloc (.cells a 27)) fun e w' => ∃ v', e = .returned v' ∧ w'.ownsRow base 5 1 v' (bs ++ wds l).length (u8s (bs ++ wds l)) ∧ Below base w w' := by
  refine (two_c hw hsz (hown.alloc _) (lit_words w l a n ha hn) (lit_off w base a n n _) (by simp; omega)).mono ?_
  rintro e w' ⟨v', rfl, h1, h2⟩
  exact ⟨v', rfl, h1, ((Below.refl base w).alloc hbase _).trans h2⟩
theorem next_two_d {base : Nat} {bv : Value} {bs l : List Nat} {w : World} {a : Array Value} {n : Nat} (ha : a.toList = u16s l) (hn : n = l.length) (hw : Words l) (hsz : bs.length + 2 * l.length ≤ 1000000) (hown : w.ownsRow base 5 1 bv bs.length (u8s bs)) (hbase : base ≤ w.heap.size) :
    Calls Try.prog 22 #[bv, .slice (some ⟨w.heap.size, 0, none⟩) n n] (w.alloc (.cells a 27)).drew fun e w' => ∃ v', e = .returned v' ∧ w'.ownsRow base 5 1 v' (bs ++ wds l).length (u8s (bs ++ wds l)) ∧ Below base w w' :=
  (next_two (w := w.drew) ha hn hw hsz hown hbase).mono fun _ _ ⟨v', h1, h2, h3⟩ => ⟨v', h1, h2, ⟨h3.os, h3.tape, h3.output, h3.size, h3.block⟩⟩
/-- One byte laid behind bytes, as a step of a region that draws. -/
theorem step_push {ops : Array Oper} {o : Oper} {a : Act} {Y : World} {K : Act → World → Prop} {Q : Exit → Act → World → Prop} {E : Prop}
    (hg : o.guard = none) (s x : Operand) (ho : o.op = .call { callee := .builtin .append, args := #[s, x], argTypes := #[22, 22] })
    (base : Nat) (v : Value) (bs : List Nat) (z : Nat) (zi : Int) (hz : zi = (z : Int)) (hs : a.eval s = v) (hx : a.eval x = .slice (some ⟨Y.heap.size, 0, none⟩) 1 1)
    (hown : Y.ownsRow base 5 1 v bs.length (u8s bs)) (hsz : bs.length ≤ 60000) (hbase : base ≤ Y.heap.size)
    (h : ∀ v' w', w'.ownsRow base 5 1 v' (bs ++ [z]).length (u8s (bs ++ [z])) → Below base Y w' → K (a.put o.dst v') w') :
    if Region.wanted o (yielded ops a.tmps) = true then Oper.wp Try.prog o a (Y.alloc (.cells #[.int .u8 zi] 5)).drew K Q else E := by
  obtain ⟨i0, hi, hz0, hz1, hz2⟩ := info_parts Try.infoByte
  refine step_append_own hg s x 22 ho base 5 i0 (.int .u8 0) 1 1 Try.underlying22 hi hz0 hz1 hz2 rfl (by decide) v bs.length _ hs (hown.alloc _).drew ⟨Y.heap.size, 0, none⟩ 1 1 [.int .u8 zi] hx rfl (one_cell Y _ _) (one_int _ _) (by unfold maxLen; omega) (by omega) (by simp; omega) ?_
  intro v' w' h1 h2 _
  refine h v' w' ?_ (own_grow hown hbase ⟨h2.os, h2.tape, h2.output, h2.size, h2.block⟩)
  rw [u8s_app, List.length_append]
  subst hz
  exact h1
/-- Bytes laid behind bytes, as a step of a region that draws. -/
theorem step_join {ops : Array Oper} {o : Oper} {a : Act} {Y : World} {K : Act → World → Prop} {Q : Exit → Act → World → Prop} {E : Prop}
    (hg : o.guard = none) (s x : Operand) (ho : o.op = .call { callee := .builtin .append, args := #[s, x], argTypes := #[22, 22] })
    (base : Nat) (v : Value) (bs ys : List Nat) (g m c : Nat) (hs : a.eval s = v) (hx : a.eval x = .slice (some ⟨g, 0, none⟩) m c) (hm : ys.length = m)
    (hown : Y.ownsRow base 5 1 v bs.length (u8s bs)) (hl : ∀ j u, (u8s ys)[j]? = some u → Y.cell? ((⟨g, 0, none⟩ : Addr).add j) = some u) (hsz : bs.length + ys.length ≤ 60000) (hbase : base ≤ Y.heap.size)
    (h : ∀ v' w', w'.ownsRow base 5 1 v' (bs ++ ys).length (u8s (bs ++ ys)) → Below base Y w' → K (a.put o.dst v') w') :
    if Region.wanted o (yielded ops a.tmps) = true then Oper.wp Try.prog o a Y K Q else E := by
  obtain ⟨i0, hi, hz0, hz1, hz2⟩ := info_parts Try.infoByte
  refine step_append_own hg s x 22 ho base 5 i0 (.int .u8 0) 1 1 Try.underlying22 hi hz0 hz1 hz2 rfl (by decide) v bs.length _ hs hown ⟨g, 0, none⟩ m c (u8s ys) hx (by rw [u8s_len, hm, Nat.mul_one]) hl (u8s_one _) (by unfold maxLen; omega) (by omega) hbase ?_
  intro v' w' h1 h2 _
  refine h v' w' ?_ ((Below.refl base Y).grown h2 hbase (fun g hg' => (hown.lt g hg').1))
  rw [u8s_app, List.length_append, hm]
  exact h1
theorem words_two {x y : Nat} (h : x < 65536) (h2 : y < 65536) : Words [x, y] := by intro t ht; simp at ht; omega
def ints (bs : List Nat) : List Int := bs.map fun (x : Nat) => (x : Int)
theorem str_none (a : Addr) (c : Nat) (w : World) : (convert 22 9 (.slice (some a) 0 c)).run Try.prog w = .ok (.string (strOfNums [])) w := by
  rw [run_convert_bytes_string w 22 9 5 _ 0 c Try.underlying22 Try.underlying5 Try.underlying9]
  have hl : (loadCells a 0).run Try.prog w = .ok (([] : List Int).map (Value.int .u8)).toArray w := rfl
  rw [run_bytesToString w _ 0 c [] hl]
  rfl
theorem str_c {v : Value} {bs : List Nat} {w : World} (h : Sl w v (u8s bs)) : (convert 22 9 v).run Try.prog w = .ok (.string (strOfNums (ints bs))) w := by
  rcases h with ⟨h, ao, cap, rfl, h0⟩ | ⟨c, off, cap, rfl, _, hc⟩
  · obtain rfl := u8s_nil h
    match ao with
    | none => exact run_convert_bytes_nil w 22 5 Try.underlying22 Try.underlying5 0 cap 9 Try.underlying9
    | some a => exact str_none a cap w
  · rw [u8s_len]
    refine run_convert_bytes_arg w 22 5 Try.underlying22 Try.underlying5 c off bs.length cap (ints bs) (by simp [ints]) (fun i hi => ?_) 9 Try.underlying9
    rw [hc.u8 i hi]
    simp [ints, List.getD, List.getElem?_eq_getElem hi]
theorem str_eq {xs ys : List Nat} (ha : Bytes xs) (hb : Bytes ys) : ((strOfNums (ints xs)).toList == (strOfNums (ints ys)).toList) = decide (xs = ys) := by
  have h : ∀ zs : List Nat, Bytes zs → (zs.map fun x => UInt8.ofNat x).map UInt8.toNat = zs := by
    intro zs hz
    rw [List.map_map]
    conv => rhs; rw [← List.map_id zs]
    apply List.map_congr_left
    intro x hx
    have := hz x hx
    simp [UInt8.toNat_ofNat']
    omega
  have e : ∀ zs : List Nat, (strOfNums (ints zs)).toList = zs.map fun x => UInt8.ofNat x := by
    intro zs
    rw [ByteArray.toList_eq, strOfNums_data]
    simp [ints]
  rw [e, e]
  by_cases hxy : xs = ys
  · subst hxy; simp
  · rw [decide_eq_false hxy, beq_eq_false_iff_ne]
    intro h'
    apply hxy
    rw [← h xs ha, ← h ys hb, h']
set_option maxHeartbeats 1600000 in
theorem bytes_c {v u : Value} {xs ys : List Nat} {w : World} (h : Sl w v (u8s xs)) (k : Sl w u (u8s ys)) (ha : Bytes xs) (hb : Bytes ys) : Calls Try.prog 19 #[v, u] w fun e w' => e = .returned (.bool (decide (xs = ys))) ∧ w' = w := by
  have h1 := str_c h
  have h2 := str_c k
  have h3 := str_eq ha hb
  clear h k
  go_enter Try.func19, Try.ntmps19
  go_wp2
  go_ret
  exact ⟨rfl, rfl⟩
theorem bytes_t {v u : Value} {xs : List Nat} {w : World} (h : Sl w v (u8s xs)) (k : Sl w u (u8s xs)) (ha : Bytes xs) : Calls Try.prog 19 #[v, u] w fun e w' => e = .returned (.bool true) ∧ w' = w := by
  have h1 := bytes_c h k ha ha
  rw [decide_eq_true (rfl : xs = xs)] at h1
  exact h1
set_option maxHeartbeats 1600000 in
theorem copy_none (w : World) : Calls Try.prog 16 #[.slice none 0 0] w fun e w' => e = .returned (.slice none 0 0) ∧ w' = w := by
  obtain ⟨i0, hi, hz0, hz1, hz2⟩ := info_parts Try.infoByte
  go_enter Try.func16, Try.ntmps16
  go_wp2_with (at_builtin; refine wpList_append_own_none rfl _ _ 22 rfl w.heap.size 5 i0 1 Try.underlying22 hi _ 0 [] rfl (World.ownsRow_nil ..) rfl ?_)
  go_ret
  exact ⟨rfl, rfl⟩
set_option maxHeartbeats 1600000 in
theorem copy_at (a : Addr) (m c : Nat) (news : List Value) (w : World) (hl : news.length = m) (hnews : ∀ j u, news[j]? = some u → w.cell? (a.add j) = some u) (h1 : ∀ u ∈ news, u.oneCell' = true) (hm : m ≤ 1000000) :
    Calls Try.prog 16 #[.slice (some a) m c] w fun e w' => ∃ v', e = .returned v' ∧ w'.ownsRow w.heap.size 5 1 v' m news ∧ Below w.heap.size w w' := by
  obtain ⟨i0, hi, hz0, hz1, hz2⟩ := info_parts Try.infoByte
  go_enter Try.func16, Try.ntmps16
  go_wp2_with (at_builtin; refine wpList_append_own _ rfl _ _ 22 rfl w.heap.size 5 i0 (.int .u8 0) 1 1 Try.underlying22 hi hz0 hz1 hz2 rfl (by decide) _ 0 [] rfl (World.ownsRow_nil ..) a m c news rfl (by omega) hnews h1 (by unfold maxLen; omega) (by omega) (Nat.le_refl _) ?_; intro v' w1 hown hgrow _)
  go_ret
  refine ⟨_, rfl, by simpa using hown, (Below.refl _ w).grown hgrow (Nat.le_refl _) fun k hk => ?_⟩
  cases (show (none : Option Nat) = some k from hk)
theorem copy_c {v : Value} {bs : List Nat} {w : World} (h : Sl w v (u8s bs)) (hm : bs.length ≤ 1000000) :
    Calls Try.prog 16 #[v] w fun e w' => ∃ v', e = .returned v' ∧ w'.ownsRow w.heap.size 5 1 v' bs.length (u8s bs) ∧ Below w.heap.size w w' := by
  rcases h with ⟨h, ao, cap, rfl, h0⟩ | ⟨b, off, cap, rfl, hcap, hc⟩
  · have hb : bs = [] := List.length_eq_zero_iff.1 (by rw [← u8s_len, h]; rfl)
    subst hb
    match ao, h0 with
    | none, h0 =>
      rw [h0 rfl]
      refine (copy_none w).mono ?_
      rintro e w' ⟨rfl, rfl⟩
      exact ⟨_, rfl, World.ownsRow_nil .., Below.refl _ _⟩
    | some a, _ => exact copy_at a 0 cap [] w rfl (fun j u hj => by simp at hj) (fun u hu => by simp at hu) (by omega)
  · rw [u8s_len]
    exact copy_at ⟨b, off, none⟩ bs.length cap (u8s bs) w (u8s_len bs) hc.news (u8s_one bs) hm
theorem run_append_sl {P : Program} {w : World} (base : Nat) (t ty e : TypeId) (i : TypeInfo) (z : Value) (bytes : Nat) (ht : P.underlying t = some (.slice e)) (hi : P.info? e = some i) (hz : i.zero = some z)
    (hsize : i.size = 1) (hby : i.bytes = bytes) (hzs : z.cells.size = 1) (v : Value) (n : Nat) (xs : List Value) (hown : w.ownsRow base e 1 v n xs)
    (x : Value) (news : List Value) (hx : Sl w x news) (h1 : ∀ u ∈ news, u.oneCell' = true) (h63 : n + news.length ≤ maxLen) (hbytes : (n + news.length) * bytes ≤ 140737488355328) (hbase : base ≤ w.heap.size) :
    ∃ v' w', (Builtin.append_ #[t, t] ty #[v, x]).run P w = .ok v' w' ∧ w'.ownsRow base e 1 v' (n + news.length) (xs ++ news) ∧ w.grownBy w' v.ownBlock := by
  rcases hx with ⟨rfl, ao, cap, rfl, h0⟩ | ⟨b, off, cap, rfl, hcap, hc⟩
  · match ao, h0 with
    | none, h0 =>
      rw [h0 rfl]
      refine ⟨v, w, run_append_owned_none (P := P) (w := w) base t ty e i 1 ht hi v n xs hown, ?_, ⟨rfl, rfl, rfl, Nat.le_refl _, fun _ _ _ => rfl⟩⟩
      rw [List.length_nil, Nat.add_zero, List.append_nil]
      exact hown
    | some a, _ =>
      obtain ⟨v', w', hr, h2, h3, _⟩ := run_append_own (P := P) w base t ty e i z 1 bytes ht hi hz hsize hby hzs (by decide) v n xs hown a 0 cap [] rfl (fun j u hj => by simp at hj) (fun u hu => by simp at hu) (by simpa using h63) (by simpa using hbytes) hbase
      exact ⟨v', w', hr, h2, h3⟩
  · obtain ⟨v', w', hr, h2, h3, _⟩ := run_append_own (P := P) w base t ty e i z 1 bytes ht hi hz hsize hby hzs (by decide) v n xs hown ⟨b, off, none⟩ news.length cap news (by rw [Nat.mul_one]) hc.news h1 h63 hbytes hbase
    exact ⟨v', w', hr, h2, h3⟩
theorem step_append_run {P : Program} {ops : Array Oper} {o : Oper} {a : Act} {w : World} {K : Act → World → Prop} {Q : Exit → Act → World → Prop} {E : Prop}
    (hg : o.guard = none) (s x : Operand) (t tn : TypeId) (ho : o.op = .call { callee := .builtin .append, args := #[s, x], argTypes := #[t, tn] }) (vs vx : Value) (hs : a.eval s = vs) (hx : a.eval x = vx)
    (v' : Value) (w' : World) (hr : (Builtin.append_ #[t, tn] o.type #[vs, vx]).run P w = .ok v' w') (h : K (a.put o.dst v') w') :
    if Region.wanted o (yielded ops a.tmps) = true then Oper.wp P o a w K Q else E := by
  rw [if_pos (by simp [Region.wanted, hg])]
  exact Lib.wp_append_run w s x t tn ho vs vx hs hx v' w' hr h
theorem sl_cut {w : World} {g : Nat} {bs : List Nat} {n c p : Nat} (h : Sl w (.slice (some ⟨g, 0, none⟩) n c) (u8s bs)) (hp : p < bs.length) : Sl w (.slice (some ⟨g, 0, none⟩) p c) (u8s (bs.take p)) := by
  rcases h with ⟨h, _⟩ | ⟨b, off, cap, e, hcap, hc⟩
  · have := congrArg List.length h
    rw [u8s_len, List.length_nil] at this
    omega
  · injection e with e1 e2 e3
    injection e1 with e1
    injection e1 with e4 e5 e6
    subst e3 e4 e5
    have hl : (u8s (bs.take p)).length = p := by rw [u8s_len, List.length_take]; omega
    refine Or.inr ⟨g, 0, c, by rw [hl], by rw [hl]; rw [u8s_len] at hcap; omega, ?_⟩
    intro j u hj
    refine hc j u ?_
    have hj' : j < p := by
      have := (List.getElem?_eq_some_iff.1 hj).1
      omega
    unfold u8s at hj ⊢
    rw [List.map_take, List.getElem?_take, if_pos hj'] at hj
    exact hj
theorem own_some {w : World} {base n : Nat} {v : Value} {bs : List Nat} (h : w.ownsRow base 5 1 v n (u8s bs)) (h0 : bs ≠ []) : ∃ g c, v = .slice (some ⟨g, 0, none⟩) bs.length c ∧ bs.length ≤ c := by
  have hl := h.1
  rw [u8s_len, Nat.mul_one] at hl
  rcases h.2 with ⟨_, h⟩ | ⟨g, cap, cur, h, _, _, hc, _⟩
  · exact absurd (List.length_eq_zero_iff.1 (hl.trans h)) h0
  · rw [← hl] at h hc
    exact ⟨g, cap, h, hc⟩
set_option maxHeartbeats 800000 in
theorem step_append_sl {ops : Array Oper} {o : Oper} {a : Act} {W : World} {K : Act → World → Prop} {Q : Exit → Act → World → Prop} {E : Prop}
    (hg : o.guard = none) (s x : Operand) (ho : o.op = .call { callee := .builtin .append, args := #[s, x], argTypes := #[22, 22] })
    (base : Nat) (v vx : Value) (bs ms : List Nat) (hs : a.eval s = v) (hx : a.eval x = vx) (hown : W.ownsRow base 5 1 v bs.length (u8s bs)) (hm : Sl W vx (u8s ms)) (hsz : bs.length + ms.length ≤ 60000) (hbase : base ≤ W.heap.size)
    (h : ∀ v' w', Sl w' v' (u8s (bs ++ ms)) → Below base W w' → (∀ j, j < W.heap.size → v.ownBlock ≠ some j → w'.heap[j]? = W.heap[j]?) → K (a.put o.dst v') w') :
    if Region.wanted o (yielded ops a.tmps) = true then Oper.wp Try.prog o a W K Q else E := by
  obtain ⟨i0, hi, hz0, hz1, hz2⟩ := info_parts Try.infoByte
  obtain ⟨y6, w6, hAp, own6, g6⟩ := run_append_sl (P := Try.prog) (w := W) base 22 o.type 5 i0 (.int .u8 0) 1 Try.underlying22 hi hz0 hz1 hz2 rfl v _ _ hown vx (u8s ms) hm (u8s_one ms) (by rw [u8s_len]; unfold maxLen; omega) (by rw [u8s_len]; omega) hbase
  rw [← u8s_app] at own6
  exact step_append_run hg s x 22 22 ho v vx hs hx y6 w6 hAp (h y6 w6 (own_sl own6) ((Below.refl base W).grown g6 hbase (fun g hg' => (hown.lt g hg').1)) (fun j hj hne => g6.block j hj (fun e => hne e.symm)))
set_option maxHeartbeats 1600000 in
theorem at_c (b off n cap i x y : Nat) (w : World) (hn : i + 1 < n) (hm : n ≤ 1000000) (hx : x < 256) (hy : y < 256) (h0 : w.cell? ⟨b, off + i, none⟩ = some (.int .u8 x)) (h1 : w.cell? ⟨b, off + (i + 1), none⟩ = some (.int .u8 y)) :
    Calls Try.prog 18 #[.slice (some ⟨b, off, none⟩) n cap, .int .i64 i] w fun e w' => e = .returned (.int .u16 (256 * x + y : Nat)) ∧ ∃ m, w' = w.drewN m := by
  have hor := or_16 hx hy
  have e1 : IntKind.i64.wrap ((i : Int) + 1) = ((i + 1 : Nat) : Int) := by rw [IntKind.wrap_i64]; omega
  go_enter Try.func18, Try.ntmps18
  go_wp2
  go_quiet (fail)
  go_wp2
  go_ret
  exact ⟨congrArg (fun t : Int => Ending.returned (.int .u16 t)) (show 256 * (x : Int) + y = ((256 * x + y : Nat) : Int) by omega), _, rfl⟩
set_option maxHeartbeats 1600000 in
theorem word_c (b off n cap x y : Nat) (w : World) (hn : 2 ≤ n) (hx : x < 256) (hy : y < 256) (h0 : w.cell? ⟨b, off, none⟩ = some (.int .u8 x)) (h1 : w.cell? ⟨b, off + 1, none⟩ = some (.int .u8 y)) :
    Calls Try.prog 24 #[.slice (some ⟨b, off, none⟩) n cap] w fun e w' => e = .returned (.int .u16 (256 * x + y : Nat)) ∧ ∃ m, w' = w.drewN m := by
  have hor := or_16 hx hy
  go_enter Try.func24, Try.ntmps24
  go_wp2
  go_quiet (fail)
  go_wp2
  go_ret
  exact ⟨congrArg (fun t : Int => Ending.returned (.int .u16 t)) (show 256 * (x : Int) + y = ((256 * x + y : Nat) : Int) by omega), _, rfl⟩
set_option maxHeartbeats 1600000 in
theorem clone_none (w : World) : Calls Try.prog 26 #[.slice none 0 0] w fun e w' => e = .returned (.slice none 0 0) ∧ w' = w := by
  have hnil := fun (w : World) => Lib.run_eql_slice_nil (P := Try.prog) w 22 5 none 0 0 0 0 Try.underlying22
  go_enter Try.func26, Try.ntmps26
  go_wp2
  go_ret
  exact ⟨rfl, rfl⟩
set_option maxHeartbeats 1600000 in
theorem clone_at (a : Addr) (m c : Nat) (news : List Value) (w : World) (hl : news.length = m) (hnews : ∀ j u, news[j]? = some u → w.cell? (a.add j) = some u) (h1 : ∀ u ∈ news, u.oneCell' = true) (hm : m ≤ 1000000) (ha : ∀ (j : Nat) u, news[j]? = some u → a.block < w.heap.size) :
    Calls Try.prog 26 #[.slice (some a) m c] w fun e w' => ∃ v', e = .returned v' ∧ w'.ownsRow w.heap.size 5 1 v' m news ∧ Below w.heap.size w w' := by
  obtain ⟨i0, hi, hz0, hz1, hz2⟩ := info_parts Try.infoByte
  have hnil := fun (w : World) => Lib.run_eql_slice_nil (P := Try.prog) w 22 5 (some a) m c 0 0 Try.underlying22
  have hn2 : ∀ j u, news[j]? = some u → (w.alloc (.cells #[] 5)).cell? (a.add j) = some u := fun j u hj => by
    have hb : (a.add j).block = a.block := by unfold Addr.add; split <;> rfl
    exact ((Below.refl w.heap.size w).alloc (Nat.le_refl _) _ |>.cell (p := a.add j) (by rw [hb]; exact ha j u hj)).trans (hnews j u hj)
  go_enter Try.func26, Try.ntmps26
  go_wp2_with (at_builtin; refine wpList_append_own _ rfl _ _ 22 rfl w.heap.size 5 i0 (.int .u8 0) 1 1 Try.underlying22 hi hz0 hz1 hz2 rfl (by decide) _ 0 [] rfl (World.ownsRow_lit w #[] 0 (Nat.le_refl _) (by unfold maxLen; omega) rfl) a m c news rfl (by omega) hn2 h1 (by unfold maxLen; omega) (by omega) (by simp) ?_; intro v' w1 hown hgrow _)
  go_ret
  refine ⟨_, rfl, by simpa using hown, ((Below.refl _ w).alloc (Nat.le_refl _) _).grown hgrow (by simp) fun k hk => ?_⟩
  have hk2 : some w.heap.size = some k := hk
  simp only [Option.some.injEq] at hk2
  omega
theorem clone_c {v : Value} {l : List Nat} {w : World} (h : Sl w v (u8s l)) (hm : l.length ≤ 1000000) :
    Calls Try.prog 26 #[v] w fun e w' => ∃ v', e = .returned v' ∧ w'.ownsRow w.heap.size 5 1 v' l.length (u8s l) ∧ Below w.heap.size w w' := by
  rcases h with ⟨h, ao, cap, rfl, h0⟩ | ⟨b, off, cap, rfl, hcap, hc⟩
  · have hb : l = [] := List.length_eq_zero_iff.1 (by rw [← u8s_len, h]; rfl)
    subst hb
    match ao, h0 with
    | none, h0 =>
      rw [h0 rfl]
      refine (clone_none w).mono ?_
      rintro e w' ⟨rfl, rfl⟩
      exact ⟨_, rfl, World.ownsRow_nil .., Below.refl _ _⟩
    | some a, _ => exact clone_at a 0 cap [] w rfl (fun j u hj => by simp at hj) (fun u hu => by simp at hu) (by omega) (fun j u hj => by simp at hj)
  · rw [u8s_len]
    exact clone_at ⟨b, off, none⟩ l.length cap (u8s l) w (u8s_len l) hc.news (u8s_one l) hm (fun j u hj => show b < w.heap.size from lt_of_cell (a := ⟨b, off + j, none⟩) (hc j u hj))
end Go.Proofs.Ytjfaocpbhhpbdaa
