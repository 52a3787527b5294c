/- A store in memory; the walks of its small calls (stage 9). -/
import Derived.Test.YtoiadofoclgnoaaM1
namespace Go.Proofs.Ytoiadofoclgnoaa
open Go.RowKit
open Pdu
/-- A store: its box in block g, its blocks' bytes in block h. -/
structure St (w : World) (g h : Nat) (s : SS) : Prop where
  box : w.heap[g]? = some (.cells ([.int .i64 (s.sz : Int), .slice (some ⟨h, 0, none⟩) (s.rows.length * s.sz) (s.rows.length * s.sz), .int .i64 (s.n : Int), .bool s.dead, .int .i64 s.lft, .int .i64 s.pre] : List Value).toArray 74 (0, 0))
  room : w.heap[h]? = some (.cells (u8s s.rows.flatten).toArray 5 (0, 0))
  ok : s.Ok
  pre0 : 0 ≤ s.pre
  pre1 : s.pre ≤ s.sz
theorem St.ne {w : World} {g h : Nat} {s : SS} (t : St w g h s) : g ≠ h := fun e => by
  have h1 := t.box
  rw [e, t.room] at h1
  simp at h1
theorem St.cSize {w : World} {g h : Nat} {s : SS} (t : St w g h s) : w.cell? ⟨g, 0, none⟩ = some (.int .i64 (s.sz : Int)) := cell_row t.box rfl
theorem St.cRoom {w : World} {g h : Nat} {s : SS} (t : St w g h s) : w.cell? ⟨g, 1, none⟩ = some (.slice (some ⟨h, 0, none⟩) (s.rows.length * s.sz) (s.rows.length * s.sz)) := cell_row t.box rfl
theorem St.cN {w : World} {g h : Nat} {s : SS} (t : St w g h s) : w.cell? ⟨g, 2, none⟩ = some (.int .i64 (s.n : Int)) := cell_row t.box rfl
theorem St.cDead {w : World} {g h : Nat} {s : SS} (t : St w g h s) : w.cell? ⟨g, 3, none⟩ = some (.bool s.dead) := cell_row t.box rfl
theorem St.cLeft {w : World} {g h : Nat} {s : SS} (t : St w g h s) : w.cell? ⟨g, 4, none⟩ = some (.int .i64 s.lft) := cell_row t.box rfl
theorem St.cPre {w : World} {g h : Nat} {s : SS} (t : St w g h s) : w.cell? ⟨g, 5, none⟩ = some (.int .i64 s.pre) := cell_row t.box rfl
theorem St.free {w : World} {g h : Nat} {s : SS} (t : St w g h s) (k : Nat) : w.frozen? ⟨g, k, none⟩ = false := frozen_row t.box
theorem St.lt {w : World} {g h : Nat} {s : SS} (t : St w g h s) : g < w.heap.size := (Array.getElem?_eq_some_iff.1 t.box).1
theorem St.lth {w : World} {g h : Nat} {s : SS} (t : St w g h s) : h < w.heap.size := (Array.getElem?_eq_some_iff.1 t.room).1
theorem St.heap {w u : World} {g h : Nat} {s : SS} (t : St w g h s) (k1 : u.heap[g]? = w.heap[g]?) (k2 : u.heap[h]? = w.heap[h]?) : St u g h s := ⟨k1.trans t.box, k2.trans t.room, t.ok, t.pre0, t.pre1⟩
theorem St.below {w u : World} {g h : Nat} {s : SS} (t : St w g h s) (k : Below w.heap.size w u) : St u g h s := t.heap (k.block g t.lt) (k.block h t.lth)
theorem St.drewN {w : World} {g h : Nat} {s : SS} (t : St w g h s) (d : Nat) : St (w.drewN d) g h s := t.heap rfl rfl
theorem St.drew {w : World} {g h : Nat} {s : SS} (t : St w g h s) : St w.drew g h s := t.heap rfl rfl
theorem St.lies {w : World} {g h : Nat} {s : SS} (t : St w g h s) : Lies w h 0 (u8s s.rows.flatten) := fun k u hk => by
  rw [Nat.zero_add]
  exact cell_row t.room hk
theorem St.set {w : World} {g h : Nat} {s : SS} (t : St w g h s) (k : Nat) (v : Value) (s' : SS) (e : ([.int .i64 (s.sz : Int), .slice (some ⟨h, 0, none⟩) (s.rows.length * s.sz) (s.rows.length * s.sz), .int .i64 (s.n : Int), .bool s.dead, .int .i64 s.lft, .int .i64 s.pre] : List Value).set k v = [.int .i64 (s'.sz : Int), .slice (some ⟨h, 0, none⟩) (s'.rows.length * s'.sz) (s'.rows.length * s'.sz), .int .i64 (s'.n : Int), .bool s'.dead, .int .i64 s'.lft, .int .i64 s'.pre]) (hr : s'.rows = s.rows) (o : s'.Ok) (h0 : 0 ≤ s'.pre) (h1 : s'.pre ≤ s'.sz) : St (w.setCell ⟨g, k, none⟩ v) g h s' := by
  refine ⟨?_, ?_, o, h0, h1⟩
  · rw [set_row t.box, e]
  · rw [Below.heap_setCell _ _ _ _ (fun e => t.ne e.symm), t.room, hr]
theorem St.setN {w : World} {g h : Nat} {s : SS} (t : St w g h s) (n : Nat) : St (w.setCell ⟨g, 2, none⟩ (.int .i64 (n : Int))) g h { s with n := n } := t.set 2 _ _ rfl rfl ⟨t.ok.lo, t.ok.hi, t.ok.nlo, t.ok.nhi, t.ok.len, t.ok.byt, t.ok.mx⟩ t.pre0 t.pre1
theorem St.setDead {w : World} {g h : Nat} {s : SS} (t : St w g h s) (d : Bool) : St (w.setCell ⟨g, 3, none⟩ (.bool d)) g h { s with dead := d } := t.set 3 _ _ rfl rfl ⟨t.ok.lo, t.ok.hi, t.ok.nlo, t.ok.nhi, t.ok.len, t.ok.byt, t.ok.mx⟩ t.pre0 t.pre1
theorem St.setLeft {w : World} {g h : Nat} {s : SS} (t : St w g h s) (n : Int) (hm : n ≤ 9223372036854775807) : St (w.setCell ⟨g, 4, none⟩ (.int .i64 n)) g h { s with lft := n } := t.set 4 _ _ rfl rfl ⟨t.ok.lo, t.ok.hi, t.ok.nlo, t.ok.nhi, t.ok.len, t.ok.byt, hm⟩ t.pre0 t.pre1
theorem St.setPre {w : World} {g h : Nat} {s : SS} (t : St w g h s) (p : Int) (h0 : 0 ≤ p) (h1 : p ≤ s.sz) : St (w.setCell ⟨g, 5, none⟩ (.int .i64 p)) g h { s with pre := p } := t.set 5 _ _ rfl rfl ⟨t.ok.lo, t.ok.hi, t.ok.nlo, t.ok.nhi, t.ok.len, t.ok.byt, t.ok.mx⟩ h0 h1
/-- The room's bytes as others. -/
theorem St.rooms {w w' : World} {g h : Nat} {s : SS} (t : St w g h s) {rows : List (List Nat)} (k : Turn h w w') (hr : w'.heap[h]? = some (.cells (u8s rows.flatten).toArray 5 (0, 0))) (hl : rows.length = s.rows.length) (o : SS.Ok { s with rows := rows }) : St w' g h { s with rows := rows } := by
  refine ⟨?_, hr, o, t.pre0, t.pre1⟩
  rw [k.block g t.lt (fun e => t.ne (by simpa using e)), t.box]
  simp only [hl]
/-- Only these blocks, of those that there were, may have turned. -/
structure Only (S : List Nat) (w w' : World) : Prop where
  os : w'.os = w.os
  tape : w'.tape = w.tape
  output : w'.output = w.output
  size : w.heap.size ≤ w'.heap.size
  block : ∀ j, j < w.heap.size → j ∉ S → w'.heap[j]? = w.heap[j]?
theorem Only.refl (S : List Nat) (w : World) : Only S w w := ⟨rfl, rfl, rfl, Nat.le_refl _, fun _ _ _ => rfl⟩
theorem Only.trans {S : List Nat} {a b c : World} (h : Only S a b) (k : Only S b c) : Only S a c :=
  ⟨k.os.trans h.os, k.tape.trans h.tape, k.output.trans h.output, Nat.le_trans h.size k.size, fun j hj hne => (k.block j (Nat.lt_of_lt_of_le hj h.size) hne).trans (h.block j hj hne)⟩
theorem Only.ofBelow {S : List Nat} {w w' : World} (h : Below w.heap.size w w') : Only S w w' := ⟨h.os, h.tape, h.output, h.size, fun j hj _ => h.block j hj⟩
theorem Only.ofTurn {S : List Nat} {g : Nat} {w w' : World} (h : Turn g w w') (hg : g ∈ S) : Only S w w' := ⟨h.os, h.tape, h.output, h.size, fun j hj hne => h.block j hj (fun e => by
  have e' : j = g := by simpa using e
  exact hne (e' ▸ hg))⟩
theorem Only.below {S : List Nat} {B : Nat} {w w' : World} (h : Only S w w') (hS : ∀ j ∈ S, B ≤ j) (hB : B ≤ w.heap.size) : Below B w w' := ⟨h.os, h.tape, h.output, h.size, fun j hj => h.block j (by omega) (fun e => by have := hS j e; omega)⟩
theorem Only.none {w w' : World} (h : Only [] w w') : Below w.heap.size w w' := h.below (fun j hj => by cases hj) (Nat.le_refl _)
theorem Only.mono {S T : List Nat} {w w' : World} (h : Only S w w') (k : ∀ j ∈ S, j ∈ T) : Only T w w' := ⟨h.os, h.tape, h.output, h.size, fun j hj hne => h.block j hj (fun e => hne (k j e))⟩
theorem St.only {w u : World} {g h : Nat} {s : SS} {S : List Nat} (t : St w g h s) (k : Only S w u) (hg : g ∉ S) (hh : h ∉ S) : St u g h s := t.heap (k.block g t.lt hg) (k.block h t.lth hh)
/-- A slice of bytes stays where its block isn't one of these. -/
theorem Sl.only {w u : World} {ao : Option Addr} {n c : Nat} {vs : List Value} {S : List Nat} (h : Sl w (.slice ao n c) vs) (k : Only S w u) (hne : vs ≠ [] → ∀ a, ao = some a → a.block ∉ S) : Sl u (.slice ao n c) vs := by
  rcases h with h | ⟨b, off, cap, e, hc, hl⟩
  · exact Or.inl h
  · simp only [Value.slice.injEq] at e
    obtain ⟨rfl, rfl, rfl⟩ := e
    by_cases hv : vs = []
    · subst hv
      exact Or.inl ⟨rfl, _, _, rfl, fun h => by cases h⟩
    · have hb : b < w.heap.size := lt_of_cell (a := ⟨b, off + 0, none⟩) (hl 0 _ (List.getElem?_eq_getElem (List.length_pos_iff.2 hv)))
      exact Or.inr ⟨b, off, c, rfl, hc, hl.kept (k.block b hb (hne hv _ rfl))⟩
theorem own_only {w u : World} {base n : Nat} {e : TypeId} {v : Value} {vs : List Value} {S : List Nat} (h : w.ownsRow base e 1 v n vs) (k : Only S w u) (hS : ∀ j ∈ S, j < base) : u.ownsRow base e 1 v n vs := by
  refine ⟨h.1, ?_⟩
  rcases h.2 with h' | ⟨g, cap, cur, rfl, hb, hg, r⟩
  · exact Or.inl h'
  · have hlt : g < w.heap.size := (h.lt g rfl).2
    exact Or.inr ⟨g, cap, cur, rfl, hb, (k.block g hlt (fun e => by have := hS g e; omega)).trans hg, r⟩
set_option maxHeartbeats 400000 in
theorem within_c (n lo hi v : Int) (w : World) (hh : lo ≤ hi) (h : (n < lo ∧ v = lo) ∨ (hi < n ∧ v = hi) ∨ (lo ≤ n ∧ n ≤ hi ∧ v = n)) : Calls Try.prog 37 #[.int .i64 n, .int .i64 lo, .int .i64 hi] w fun e w' => e = .returned (.int .i64 v) ∧ w' = w := by
  have h3 : ¬ hi < lo := by omega
  rcases h with ⟨h1, rfl⟩ | ⟨h1, rfl⟩ | ⟨h1, h2, rfl⟩
  · go_enter Try.func37, Try.ntmps37
    go_wp2
    go_ret
    exact ⟨rfl, rfl⟩
  · have h4 : ¬ n < lo := by omega
    go_enter Try.func37, Try.ntmps37
    go_wp2
    go_ret
    exact ⟨rfl, rfl⟩
  · have h4 : ¬ v < lo := by omega
    have h5 : ¬ hi < v := by omega
    go_enter Try.func37, Try.ntmps37
    go_wp2
    go_ret
    exact ⟨rfl, rfl⟩
set_option maxHeartbeats 400000 in
theorem size_c {w : World} {g h : Nat} {s : SS} (t : St w g h s) : Calls Try.prog 21 #[.pointer (some ⟨g, 0, none⟩)] w fun e w' => e = .returned (.int .i64 (s.sz : Int)) ∧ w' = w := by
  have hc := t.cSize
  clear t
  go_enter Try.func21, Try.ntmps21
  go_wp2
  go_ret
  exact ⟨rfl, rfl⟩
set_option maxHeartbeats 400000 in
theorem dead_c {w : World} {g h : Nat} {s : SS} (t : St w g h s) : Calls Try.prog 28 #[.pointer (some ⟨g, 0, none⟩)] w fun e w' => e = .returned (.bool s.dead) ∧ w' = w := by
  have hc := t.cDead
  clear t
  go_enter Try.func28, Try.ntmps28
  go_wp2
  go_ret
  exact ⟨rfl, rfl⟩
theorem blocks_div {s : SS} (o : s.Ok) : ((s.rows.length * s.sz : Nat) : Int).tdiv (s.sz : Int) = (s.rows.length : Int) := by
  have := o.lo
  rw [Int.tdiv_eq_ediv_of_nonneg (by omega), Int.natCast_mul, Int.mul_ediv_cancel _ (by omega)]
/-- The same world but for what was drawn. -/
structure Same (w w' : World) : Prop where
  os : w'.os = w.os
  tape : w'.tape = w.tape
  output : w'.output = w.output
  heap : w'.heap = w.heap
theorem Same.refl (w : World) : Same w w := ⟨rfl, rfl, rfl, rfl⟩
theorem Same.drewN (w : World) (d : Nat) : Same w (w.drewN d) := ⟨rfl, rfl, rfl, rfl⟩
theorem Same.drew (w : World) : Same w w.drew := ⟨rfl, rfl, rfl, rfl⟩
theorem Same.trans {a b c : World} (h : Same a b) (k : Same b c) : Same a c := ⟨k.os.trans h.os, k.tape.trans h.tape, k.output.trans h.output, k.heap.trans h.heap⟩
theorem Same.below {w w' : World} (h : Same w w') : Below w.heap.size w w' := ⟨h.os, h.tape, h.output, by rw [h.heap]; exact Nat.le_refl _, fun j _ => by rw [h.heap]⟩
theorem Same.only {w w' : World} (h : Same w w') (S : List Nat) : Only S w w' := Only.ofBelow h.below
theorem St.same {w u : World} {g h : Nat} {s : SS} (t : St w g h s) (k : Same w u) : St u g h s := t.heap (by rw [k.heap]) (by rw [k.heap])
theorem Sl.same {w u : World} {v : Value} {vs : List Value} (t : Sl w v vs) (k : Same w u) : Sl u v vs := t.heap k.heap
theorem drew_below (w : World) : Below w.heap.size w w.drew := (Same.drew w).below
theorem rows_len {w : World} {g h : Nat} {s : SS} (t : St w g h s) : s.rows.flatten.length = s.rows.length * s.sz := flat_len t.ok.len
set_option maxHeartbeats 400000 in
theorem blocks_c {w : World} {g h : Nat} {s : SS} (t : St w g h s) : Calls Try.prog 23 #[.pointer (some ⟨g, 0, none⟩)] w fun e w' => e = .returned (.int .i64 (s.rows.length : Int)) ∧ Same w w' := by
  have hc := t.cRoom
  have hs := t.cSize
  have hz := t.ok.lo
  have hd := blocks_div t.ok
  have hn := t.ok.nhi
  clear t
  generalize s.rows.length * s.sz = L at *
  generalize s.sz = z at *
  generalize s.rows.length = nb at *
  have h0 : ¬ (z : Int) = 0 := by omega
  go_enter Try.func23, Try.ntmps23
  go_wp2
  go_quiet (fail)
  go_wp2
  go_ret
  exact ⟨rfl, Same.drewN _ _⟩
set_option maxHeartbeats 400000 in
theorem blk_c {w : World} {g h k : Nat} {s : SS} (t : St w g h s) (hk : k < s.rows.length) : Calls Try.prog 39 #[.pointer (some ⟨g, 0, none⟩), .int .i64 (k : Int)] w fun e w' => e = .returned (.slice (some ⟨h, k * s.sz, none⟩) s.sz (s.rows.length * s.sz - k * s.sz)) ∧ Same w w' := by
  have hc := t.cRoom
  have hs := t.cSize
  have hz := t.ok.lo
  have hL : s.rows.length * s.sz ≤ 262144 := Nat.mul_le_mul t.ok.nhi t.ok.hi
  have hkz : k * s.sz + s.sz ≤ s.rows.length * s.sz := by
    rw [← Nat.succ_mul]
    exact Nat.mul_le_mul_right _ hk
  have hm : (k : Int) * (s.sz : Int) = ((k * s.sz : Nat) : Int) := (Int.natCast_mul ..).symm
  clear t hk
  generalize s.rows.length * s.sz = L at *
  generalize k * s.sz = kz at *
  generalize s.sz = z at *
  have h1 : (kz : Int) ≤ (L : Int) := by omega
  have h2 : ¬ (L = kz) := by omega
  have h3 : (z : Int) ≤ ((L - kz : Nat) : Int) := by omega
  have h4 : z ≤ L - kz := by omega
  go_enter Try.func39, Try.ntmps39
  go_wp2
  go_quiet (fail)
  go_wp2
  go_ret
  exact ⟨by simp, Same.drewN _ _⟩
set_option maxHeartbeats 400000 in
theorem ask_c {w : World} {g h : Nat} {s : SS} (t : St w g h s) (i : Int) : Calls Try.prog 38 #[.pointer (some ⟨g, 0, none⟩), .int .i64 i] w fun e w' => e = .returned (.int .i64 (s.err i : Int)) ∧ Same w w' := by
  have hc := t.cDead
  have BL := hid_as (blocks_c t)
  rcases s.err_cases i with ⟨hd, he⟩ | ⟨hd, hi, he⟩ | ⟨hd, he, k, rfl, hk⟩
  · rw [he]
    rw [hd] at hc
    clear t hd he
    go_enter Try.func38, Try.ntmps38
    go_wp2
    go_ret
    exact ⟨rfl, Same.refl _⟩
  · rw [he]
    rw [hd] at hc
    by_cases h0 : i < 0
    · clear t hd he hi
      go_enter Try.func38, Try.ntmps38
      go_wp2
      go_ret
      exact ⟨rfl, Same.refl _⟩
    · have h1 : (s.rows.length : Int) ≤ i := by omega
      clear t hd he hi
      go_enter Try.func38, Try.ntmps38
      go_wp2_with fail
      refine BL.out.mono ?_
      rintro e w1 ⟨rfl, k1⟩
      have K1 := hid_as k1
      clear k1
      go_wp2
      go_ret
      exact ⟨rfl, K1.out⟩
  · rw [he]
    rw [hd] at hc
    have h1 : ¬ (s.rows.length : Int) ≤ k := by omega
    clear t hd he hk
    go_enter Try.func38, Try.ntmps38
    go_wp2_with fail
    refine BL.out.mono ?_
    rintro e w1 ⟨rfl, k1⟩
    have K1 := hid_as k1
    clear k1
    go_wp2
    go_ret
    exact ⟨rfl, K1.out⟩
/-- make of so many bytes. -/
theorem mk_run (W : World) (n : Nat) (hn : n ≤ 1000000) : ∃ W', (Instr.makeSlice 69 (.int .i64 (n : Int)) (.int .i64 (n : Int))).run Try.prog W = .ok (.slice (some ⟨W.heap.size, 0, none⟩) n n) W' ∧ W'.heap[W.heap.size]? = some (.cells (u8s (List.replicate n 0)).toArray 5 (0, 0)) ∧ Below W.heap.size W W' ∧ W'.heap.size = W.heap.size + 1 := by
  obtain ⟨i0, hi0, hz0, hz1, hz2⟩ := info_parts Try.infoByte
  have h := run_make (P := Try.prog) W 69 5 i0 (.int .u8 0) Try.underlying69 hi0 hz0 .i64 .i64 n n (by omega) (by omega) (by rw [hz2]; omega) (by omega)
  rw [hz1] at h
  simp only [Int.toNat_natCast, Nat.mul_one] at h
  refine ⟨_, h, ?_, below_new (Below.refl _ W) _, World.size_alloc ..⟩
  rw [heap_alloc_new]
  have e : madeCells (Value.cells (.int .u8 0)) n = (u8s (List.replicate n 0)).toArray := by
    apply Array.ext'
    rw [show Value.cells (.int .u8 0) = #[.int .u8 0] from rfl, toList_madeCells_one]
    simp [u8s]
  rw [e]
/-- copy of a slice's bytes into a block. -/
theorem cp_run {w : World} {g off m c n c2 : Nat} {ao : Option Addr} {cur bs : List Nat} (ty : TypeId) (hg : w.heap[g]? = some (.cells (u8s cur).toArray 5 (0, 0))) (hs : Sl w (.slice ao n c2) (u8s bs)) (hn : n = bs.length) (hm : n ≤ m) (hf : off + n ≤ cur.length) :
    ∃ w', (Builtin.copy_ #[69, 69] ty #[.slice (some ⟨g, off, none⟩) m c, .slice ao n c2]).run Try.prog w = .ok (goInt n) w' ∧ w'.heap[g]? = some (.cells (u8s (splice cur off bs)).toArray 5 (0, 0)) ∧ Turn g w w' := by
  have h := run_copy_turn (P := Try.prog) (w := w) 69 69 ty 5 Try.underlying69 (by kernel_rfl) (some ⟨g, off, none⟩) ao m c n c2 g off (u8s cur) 5 hg (u8s bs) (by rw [u8s_len, ← hn]; exact (Nat.min_eq_left hm).symm)
    (fun h0 => by
      refine ⟨rfl, ?_⟩
      have := src_cells hs bs.length
      rw [← u8s_take, List.take_length] at this
      exact this h0) (by rw [u8s_len, u8s_len, ← hn]; exact hf) (u8s_one bs)
  rw [u8s_len, u8s_splice, ← hn] at h
  exact h
theorem own_of_block {w : World} {g base : Nat} {l : List Nat} (hg : w.heap[g]? = some (.cells (u8s l).toArray 5 (0, 0))) (hb : base ≤ g) (hm : l.length ≤ 1000000) : w.ownsRow base 5 1 (.slice (some ⟨g, 0, none⟩) l.length l.length) l.length (u8s l) :=
  ⟨by rw [u8s_len, Nat.mul_one], Or.inr ⟨g, l.length, _, rfl, hb, hg, Nat.le_refl _, by unfold maxLen; omega, by simp [u8s_len], by rw [Nat.mul_one, List.take_of_length_le (by simp [u8s_len])]⟩⟩
end Go.Proofs.Ytoiadofoclgnoaa
