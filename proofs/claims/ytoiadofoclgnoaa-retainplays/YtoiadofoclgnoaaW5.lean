/- The walk of unpack (stage 9). -/
import Derived.Test.YtoiadofoclgnoaaM3
import Derived.Laws.StructEq
import Derived.Laws.Tables
import Derived.Laws.Cover2
import Derived.KernelRfl
namespace Go.Proofs.Ytoiadofoclgnoaa
open Go.RowKit
open Pdu
/-- A record. -/
structure Rc where
  t : Nat
  s : Nat
  l : List Int
def r0 : Rc := ⟨0, 0, []⟩
abbrev same4 (l : List Nat) : Prop := e0 l ≠ 0 ∧ e1 l = e0 l ∧ e2 l = e0 l ∧ e3 l = e0 l
def nums (l : List Nat) (c : Nat) : List Int := (List.range c).map fun i => sg (gv l (26 + i * 8))
theorem nums_len (l : List Nat) (c : Nat) : (nums l c).length = c := by simp [nums]
theorem nums_step (l : List Nat) (c : Nat) : nums l (c + 1) = nums l c ++ [sg (gv l (26 + c * 8))] := by simp [nums, List.range_succ]
/-- What a block holds: a record, if it is whole, else none. -/
def unp (l : List Nat) : Rc := if same4 l ∧ gv l (l.length - 10) = bsum l ∧ gv l 18 ≤ (l.length - 36) / 8 then ⟨gv l 2, gv l 10, nums l (gv l 18)⟩ else r0
theorem unp_no {l : List Nat} (h : ¬ (same4 l ∧ gv l (l.length - 10) = bsum l ∧ gv l 18 ≤ (l.length - 36) / 8)) : unp l = r0 := by unfold unp; rw [if_neg h]
/-- The result's box, and what else unpack has. -/
structure UpA (w X : World) (g : Nat) (l : List Nat) : Prop where
  res : X.heap[w.heap.size]? = some (.cells ([.int .u64 0, .int .u64 0, .slice none 0 0] : List Value).toArray 61 (0, 0))
  lies : Lies X g 0 (u8s l)
  k : Below w.heap.size w X
  gl : g < w.heap.size
abbrev RcV (t s : Nat) (v : Value) : Value := .agg #[.int .u64 (t : Int), .int .u64 (s : Int), v]
def UpPost (w : World) (l : List Nat) (e : Ending) (w' : World) : Prop := ∃ v, e = .returned (RcV (unp l).t (unp l).s v) ∧ w'.ownsRow w.heap.size 2 1 v (unp l).l.length (i64s (unp l).l) ∧ Below w.heap.size w w'
theorem UpPost.no {w w' : World} {l : List Nat} (h : unp l = r0) (k : Below w.heap.size w w') : UpPost w l (.returned (.agg #[.int .u64 0, .int .u64 0, .slice none 0 0])) w' := by
  refine ⟨.slice none 0 0, ?_, ?_, k⟩
  · rw [h]; rfl
  · rw [h]; exact World.ownsRow_nil ..
theorem get_i {w : World} {g a n c : Nat} {ai : Int} {l : List Nat} (hai : ai = (a : Int)) (h : Lies w g 0 (u8s l)) (hn : n = l.length) (ha : a + 8 ≤ l.length) (hm : l.length ≤ 1000000) (hb : Bytes l) :
    Calls Try.prog 52 #[.slice (some ⟨g, 0, none⟩) n c, .int .i64 ai] w fun e w' => e = .returned (.int .u64 (gv l a : Nat)) ∧ w' = w := by
  subst hai
  exact get_c h hn ha hm hb
abbrev Row64 (w : World) (g : Nat) (l : List Int) : Prop := w.heap[g]? = some (.cells (i64s l).toArray 2 (0, 0))
def Z64 (n : Nat) : Array Value := (i64s (List.replicate n 0)).toArray
theorem Try.info64 : (Try.prog.info? 2).map (fun i => (i.zero, i.size, i.bytes)) = some (some (.int .i64 0), 1, 8) := by kernel_rfl
/-- make of so many numbers. -/
theorem mk64_run (W : World) (n : Nat) (hn : n ≤ 1000000) : (Instr.makeSlice 29 (.int .u64 (n : Int)) (.int .u64 (n : Int))).run Try.prog W = .ok (.slice (some ⟨W.heap.size, 0, none⟩) n n) (W.alloc (.cells (Z64 n) 2)) := by
  obtain ⟨i0, hi0, hz0, hz1, hz2⟩ := info_parts Try.info64
  have h := run_make (P := Try.prog) W 29 2 i0 (.int .i64 0) Try.underlying29 hi0 hz0 .u64 .u64 n n (by omega) (by omega) (by rw [hz2]; omega) (by omega)
  rw [hz1] at h
  simp only [Int.toNat_natCast, Nat.mul_one] at h
  have e : madeCells (Value.cells (.int .i64 0)) n = Z64 n := by
    apply Array.ext'
    rw [show Value.cells (.int .i64 0) = #[.int .i64 0] from rfl, toList_madeCells_one]
    simp [i64s, Z64]
  rw [e] at h
  exact h
/-- While numbers are read. -/
structure UpR (w wx : World) (g gr gm m k : Nat) (l : List Nat) : Prop where
  res : wx.heap[w.heap.size]? = some (.cells ([.int .u64 0, .int .u64 0, .slice none 0 0] : List Value).toArray 61 (0, 0))
  box : wx.heap[gr]? = some (.cells ([.int .u64 (gv l 2 : Nat), .int .u64 (gv l 10 : Nat), .slice (some ⟨gm, 0, none⟩) m m] : List Value).toArray 61 (0, 0))
  row : Row64 wx gm (nums l k ++ List.replicate (m - k) 0)
  lies : Lies wx g 0 (u8s l)
  k : Below w.heap.size w wx
  gl : g < w.heap.size
  ne : gr ≠ gm
  r1 : w.heap.size < gr
  m1 : w.heap.size < gm
theorem UpR.set {w wx : World} {g gr gm m k : Nat} {l : List Nat} (h : UpR w wx g gr gm m k l) (hk : k < m) {z : Int} (hz : z = sg (gv l (26 + k * 8))) : UpR w (wx.setCell ⟨gm, k, none⟩ (.int .i64 z)) g gr gm m (k + 1) l := by
  have t : Turn gm wx (wx.setCell ⟨gm, k, none⟩ (.int .i64 z)) := (Turn.refl gm wx).set k _
  have hlt : ∀ {j : Nat} {o : Obj}, wx.heap[j]? = some o → j ≠ gm → (wx.setCell ⟨gm, k, none⟩ (.int .i64 z)).heap[j]? = some o := fun hj hne => kept_far t hj hne
  refine ⟨hlt h.res (by have := h.m1; omega), hlt h.box h.ne, ?_, ?_, h.k.trans (t.below (Nat.le_of_lt h.m1) h.k.size), h.gl, h.ne, h.r1, h.m1⟩
  · show _ = _
    rw [set_row h.row, ← i64s_set]
    subst hz
    have e : (nums l k ++ List.replicate (m - k) 0).set k (sg (gv l (26 + k * 8))) = nums l (k + 1) ++ List.replicate (m - (k + 1)) 0 := by
      rw [List.set_append_right _ _ (by rw [nums_len]; omega), nums_len, Nat.sub_self, show m - k = (m - (k + 1)) + 1 by omega, List.replicate_succ, List.set_cons_zero, nums_step, List.append_assoc]
      rfl
    rw [e]
  · refine h.lies.kept (t.block g ?_ ?_)
    · have := h.gl; have := h.k.size; omega
    · intro q
      have q : g = gm := by simpa using q
      have := h.m1; have := h.gl; omega
theorem UpR.drew {w wx : World} {g gr gm m k : Nat} {l : List Nat} (h : UpR w wx g gr gm m k l) : UpR w wx.drew g gr gm m k l := ⟨h.res, h.box, h.row, h.lies, h.k.drew, h.gl, h.ne, h.r1, h.m1⟩
theorem UpR.first {w X : World} {g m : Nat} {l : List Nat} (h : UpA w X g l) : UpR w (((X.alloc (.cells (Z64 m) 2)).alloc (.cells #[.int .u64 (gv l 2 : Nat), .int .u64 (gv l 10 : Nat), .slice (some ⟨X.heap.size, 0, none⟩) m m] 61)).drew) g (X.heap.size + 1) X.heap.size m 0 l ∧ UpR w (((X.alloc (.cells #[.int .u64 (gv l 2 : Nat), .int .u64 (gv l 10 : Nat), .slice (some ⟨X.heap.size + 1, 0, none⟩) m m] 61)).alloc (.cells (Z64 m) 2)).drew) g X.heap.size (X.heap.size + 1) m 0 l := by
  have hw : w.heap.size < X.heap.size := (Array.getElem?_eq_some_iff.1 h.res).1
  have hz : ∀ W : World, Row64 (W.alloc (.cells (Z64 m) 2)) W.heap.size (nums l 0 ++ List.replicate (m - 0) 0) := fun W => heap_alloc_new W _
  constructor
  · have k1 := below_new (Below.refl _ X) (.cells (Z64 m) 2)
    have k2 := below_new k1 (.cells #[.int .u64 (gv l 2 : Nat), .int .u64 (gv l 10 : Nat), .slice (some ⟨X.heap.size, 0, none⟩) m m] 61)
    have z1 : (X.alloc (.cells (Z64 m) 2)).heap.size = X.heap.size + 1 := World.size_alloc ..
    refine UpR.drew ⟨(k2.block _ hw).trans h.res, ?_, kept_alloc (hz X), h.lies.below k2, below_and h.k k2, h.gl, by omega, by omega, hw⟩
    rw [← z1]
    exact heap_alloc_new _ _
  · have k1 := below_new (Below.refl _ X) (.cells #[.int .u64 (gv l 2 : Nat), .int .u64 (gv l 10 : Nat), .slice (some ⟨X.heap.size + 1, 0, none⟩) m m] 61)
    have k2 := below_new k1 (.cells (Z64 m) 2)
    have z1 : (X.alloc (.cells #[.int .u64 (gv l 2 : Nat), .int .u64 (gv l 10 : Nat), .slice (some ⟨X.heap.size + 1, 0, none⟩) m m] 61)).heap.size = X.heap.size + 1 := World.size_alloc ..
    refine UpR.drew ⟨(k2.block _ hw).trans h.res, kept_alloc (heap_alloc_new X _), ?_, h.lies.below k2, below_and h.k k2, h.gl, by omega, hw, by omega⟩
    have := hz (X.alloc (.cells #[.int .u64 (gv l 2 : Nat), .int .u64 (gv l 10 : Nat), .slice (some ⟨X.heap.size + 1, 0, none⟩) m m] 61))
    rw [z1] at this
    exact this
theorem UpPost.yes {w wr : World} {g gr gm m : Nat} {l : List Nat} (hu : unp l = ⟨gv l 2, gv l 10, nums l m⟩) (h : UpR w wr g gr gm m m l) (hm : m ≤ 1000000) : UpPost w l (.returned (RcV (gv l 2) (gv l 10) (.slice (some ⟨gm, 0, none⟩) m m))) (((wr.setCell ⟨w.heap.size, 0, none⟩ (.int .u64 (gv l 2 : Nat))).setCell ⟨w.heap.size, 1, none⟩ (.int .u64 (gv l 10 : Nat))).setCell ⟨w.heap.size, 2, none⟩ (.slice (some ⟨gm, 0, none⟩) m m)) := by
  have t := (((Turn.refl w.heap.size wr).set 0 (.int .u64 (gv l 2 : Nat))).set 1 (.int .u64 (gv l 10 : Nat))).set 2 (.slice (some ⟨gm, 0, none⟩) m m)
  refine ⟨.slice (some ⟨gm, 0, none⟩) m m, by rw [hu], ?_, h.k.trans (t.below (Nat.le_refl _) h.k.size)⟩
  rw [hu]
  have hr := h.row
  rw [Nat.sub_self, List.replicate_zero, List.append_nil] at hr
  have hr2 := kept_far t hr (by have := h.m1; omega)
  show World.ownsRow _ _ _ _ _ (nums l m).length (i64s (nums l m))
  rw [nums_len]
  refine ⟨by rw [i64s_len, nums_len, Nat.mul_one], Or.inr ⟨gm, m, _, rfl, Nat.le_of_lt h.m1, hr2, Nat.le_refl _, by unfold maxLen; omega, by simp [i64s_len, nums_len], ?_⟩⟩
  rw [Nat.mul_one, List.take_of_length_le (by simp [i64s_len, nums_len])]
theorem eq4 (a b d f a' b' d' f' : Int) (w : World) : (Op.equalIn 10000 90 (.agg #[.int .u8 a, .int .u8 b, .int .u8 d, .int .u8 f]) (.agg #[.int .u8 a', .int .u8 b', .int .u8 d', .int .u8 f'])).run Try.prog w = .ok (a == a' && b == b' && d == d' && f == f') w := by
  have u3 := Try.underlying5
  have a3 := Try.isAgg5
  have z3 := Try.sizeOf5
  rw [show (10000 : Nat) = 9999 + 1 from rfl, Op.equalIn]
  simp only [Sem.run_bind, run_underlying Try.underlying90, Result.andThen_ok]
  simp only [Std.Legacy.Range.forIn_eq_forIn_range', Std.Legacy.Range.size, Nat.sub_zero, Nat.add_sub_cancel, Nat.div_one, List.range'_succ, List.range'_zero, List.forIn_cons, List.forIn_nil]
  go_simp
  by_cases h1 : a = a' <;> by_cases h2 : b = b' <;> by_cases h3 : d = d' <;> by_cases h4 : f = f' <;> simp [h1, h2, h3, h4]
set_option maxHeartbeats 800000 in
theorem unpack_c {w : World} {g n c : Nat} {l : List Nat} (h : Lies w g 0 (u8s l)) (hn : n = l.length) (hc : n ≤ c) (h64 : 64 ≤ n) (hm : n ≤ 4096) (hb : Bytes l) :
    Calls Try.prog 41 #[.slice (some ⟨g, 0, none⟩) n c] w fun e w' => UpPost w l e w' := by
  have H := hid_as h
  have HN := hid_as hn
  have HB := hid_as hb
  have hg : g < w.heap.size := lt_of_cell (h.u8 0 (by omega))
  clear h hn hb
  go_enter Try.func41, Try.ntmps41
  go_upto_region 1 with fail
  obtain ⟨X, hX⟩ : ∃ X, X = w.alloc (.cells #[.int .u64 0, .int .u64 0, .slice none 0 0] 61) := ⟨_, rfl⟩
  have A : Hid (UpA w X g l) := by
    have k : Below w.heap.size w X := by rw [hX]; exact below_new (Below.refl _ w) _
    exact ⟨by rw [hX]; exact heap_alloc_new w _, H.out.below k, k, hg⟩
  have zX : Hid (w.heap.size < X.heap.size) := by rw [hX]; exact lit_lt ..
  rw [← hX]
  clear hX
  have EN := hid_as (ends_c (c := c) A.out.lies HN.out h64 (by omega))
  go_wp2_with fail
  refine EN.out.mono ?_
  rintro e X1 ⟨rfl, k1⟩
  have A1 : Hid (UpA w X1 g l) := ⟨(k1.block _ zX.out).trans A.out.res, A.out.lies.below k1, below_and A.out.k k1, hg⟩
  clear k1 EN A zX
  go_upto_region 2 with fail
  have S4 : Hid (same4 l ↔ e0 l ≠ 0 ∧ e1 l = e0 l ∧ e2 l = e0 l ∧ e3 l = e0 l) := Iff.rfl
  generalize e0 l = a at S4 ⊢
  generalize e1 l = b at S4 ⊢
  generalize e2 l = d at S4 ⊢
  generalize e3 l = f at S4 ⊢
  obtain ⟨X2, hX2⟩ : ∃ X2, X2 = X1.alloc (.cells #[.int .u8 (a : Int), .int .u8 (b : Int), .int .u8 (d : Int), .int .u8 (f : Int)] 90) := ⟨_, rfl⟩
  have x0 : X2.cell? ⟨X1.heap.size, 0, none⟩ = some (.int .u8 (a : Int)) := by rw [hX2]; simp
  have x1 : X2.cell? ⟨X1.heap.size, 1, none⟩ = some (.int .u8 (b : Int)) := by rw [hX2]; simp
  have x2 : X2.cell? ⟨X1.heap.size, 2, none⟩ = some (.int .u8 (d : Int)) := by rw [hX2]; simp
  have x3 : X2.cell? ⟨X1.heap.size, 3, none⟩ = some (.int .u8 (f : Int)) := by rw [hX2]; simp
  have A2 : Hid (UpA w X2 g l) := by
    have k : Below X1.heap.size X1 X2 := by rw [hX2]; exact below_new (Below.refl _ _) _
    exact ⟨(k.block _ (Array.getElem?_eq_some_iff.1 A1.out.res).1).trans A1.out.res, A1.out.lies.below k, below_and A1.out.k k, hg⟩
  rw [← hX2]
  clear hX2 A1
  generalize X1.heap.size = ge at *
  have y0 : X2.cell? ⟨w.heap.size, 0, none⟩ = some (.int .u64 0) := cell_row A2.out.res rfl
  have y1 : X2.cell? ⟨w.heap.size, 1, none⟩ = some (.int .u64 0) := cell_row A2.out.res rfl
  have y2 : X2.cell? ⟨w.heap.size, 2, none⟩ = some (.slice none 0 0) := cell_row A2.out.res rfl
  have yf : ∀ j, X2.frozen? ⟨w.heap.size, j, none⟩ = false := fun j => frozen_row A2.out.res
  have hE := eq4
  have NOP : Hid (unp l = r0 → UpPost w l (.returned (.agg #[.int .u64 0, .int .u64 0, .slice none 0 0])) (((X2.setCell ⟨w.heap.size, 0, none⟩ (.int .u64 0)).setCell ⟨w.heap.size, 1, none⟩ (.int .u64 0)).setCell ⟨w.heap.size, 2, none⟩ (.slice none 0 0))) := fun q => UpPost.no q (A2.out.k.trans (((((Turn.refl _ X2).set 0 _).set 1 _).set 2 _).below (Nat.le_refl _) A2.out.k.size))
  by_cases ha : a = 0
  · subst ha
    have U : Hid (unp l = r0) := unp_no (fun q => (S4.out.1 q.1).1 rfl)
    go_wp2
    exact bodyPost_ret (v := .agg #[.int .u64 0, .int .u64 0, .slice none 0 0]) (by simp [results, Try.results41, go_sem, y0, y1, y2]) rfl (NOP.out U.out)
  · have ha2 : ((a : Int) == 0) = false := by rw [beq_eq_false_iff_ne]; omega
    by_cases hs1 : b = a
    · subst hs1
      by_cases hs2 : d = b
      · subst hs2
        by_cases hs3 : f = d
        · subst hs3
          have HS4 : Hid (same4 l) := S4.out.2 ⟨ha, rfl, rfl, rfl⟩
          clear S4
          have SA := hid_as (fun W => sumAt_c n W (by omega) (by omega))
          have G1 := hid_as (get_c (c := c) (a := n - 10) A2.out.lies HN.out (by have := HN.out; omega) (by have := HN.out; omega) HB.out)
          have SU := hid_as (sum_c (c := c) A2.out.lies HN.out hc h64 (by omega) HB.out)
          have G2 := hid_as (get_i (c := c) (a := 18) (ai := 18) rfl A2.out.lies HN.out (by have := HN.out; omega) (by have := HN.out; omega) HB.out)
          have FI := hid_as (fun W => fits_c n W (by omega) (by omega))
          have g2l := gv_lt HB.out 18
          have HU : Hid (¬ (gv l (n - 10) = bsum l ∧ gv l 18 ≤ (n - 36) / 8) → unp l = r0) := fun q => unp_no (fun z => q (by rw [HN.out]; exact z.2))
          have HY : Hid (gv l (n - 10) = bsum l → gv l 18 ≤ (n - 36) / 8 → unp l = ⟨gv l 2, gv l 10, nums l (gv l 18)⟩) := fun q1 q2 => by
            unfold unp
            rw [if_pos]
            rw [HN.out] at q1 q2
            exact ⟨HS4.out, q1, q2⟩
          obtain ⟨u, hu⟩ : ∃ u, u = gv l (n - 10) := ⟨_, rfl⟩
          obtain ⟨v, hv⟩ : ∃ v, v = bsum l := ⟨_, rfl⟩
          obtain ⟨m, hmm⟩ : ∃ m, m = gv l 18 := ⟨_, rfl⟩
          rw [← hu] at G1 HU HY
          rw [← hv] at SU HU HY
          rw [← hmm] at G2 HU HY g2l
          have HM := hid_as hmm
          clear hu hv hmm
          by_cases h1 : u = v
          · subst h1
            by_cases h2 : m ≤ (n - 36) / 8
            · have Y := hid_as (HY.out rfl h2)
              clear HU HY
              go_upto_region 9 with (first | ((with_reducible refine (SA.out _).mono ?_); rintro e w2 ⟨rfl, hw⟩; subst w2) | ((with_reducible refine G1.out.mono ?_); rintro e w2 ⟨rfl, hw⟩; subst w2) | ((with_reducible refine SU.out.mono ?_); rintro e w2 ⟨rfl, hw⟩; subst w2) | ((with_reducible refine G2.out.mono ?_); rintro e w2 ⟨rfl, hw⟩; subst w2) | ((with_reducible refine (FI.out _).mono ?_); rintro e w2 ⟨rfl, hw⟩; subst w2))
              have GA := hid_as (fun (W : World) (k : Below X2.heap.size X2 W) => get_i (c := c) (a := 2) (ai := 2) rfl (A2.out.lies.below k) HN.out (by have := HN.out; omega) (by have := HN.out; omega) HB.out)
              have GB := hid_as (fun (W : World) (k : Below X2.heap.size X2 W) => get_i (c := c) (a := 10) (ai := 10) rfl (A2.out.lies.below k) HN.out (by have := HN.out; omega) (by have := HN.out; omega) HB.out)
              have hm9 : m ≤ 1000000 := by omega
              have hmk := fun W => mk64_run W m hm9
              have FA := hid_as (UpR.first (m := m) A2.out).1
              have FB := hid_as (UpR.first (m := m) A2.out).2
              clear SA G1 SU G2 FI
              go_cut [5] from 44 to 50 (fun p wx => ∃ gr gm, p = .pointer (some ⟨gr, 0, none⟩) ∧ UpR w wx g gr gm m 0 l)
              case first =>
                go_region_held3 (fun _ => True) (trivial) (first | (go_at_call 52; (with_reducible refine (GA.out _ ?_).mono ?_); (first | exact drew_below _ | exact drew_off (below_new (Below.refl _ _) _) | exact drew_off (below_new (below_new (Below.refl _ _) _) _)); rintro e w2 ⟨rfl, hw⟩; subst w2) | (go_at_call 52; (with_reducible refine (GB.out _ ?_).mono ?_); (first | exact drew_below _ | exact drew_off (below_new (Below.refl _ _) _) | exact drew_off (below_new (below_new (Below.refl _ _) _) _)); rintro e w2 ⟨rfl, hw⟩; subst w2))
                all_goals
                  go_wp2_with fail
                  go_meet
                  first | exact ⟨_, _, rfl, FA.out⟩ | exact ⟨_, _, rfl, FB.out⟩
              case rest =>
                obtain ⟨gr, gm, rfl, U0⟩ := hcut
                have R0 := hid_as U0
                have b2 : wc.cell? ⟨gr, 2, none⟩ = some (.slice (some ⟨gm, 0, none⟩) m m) := cell_row U0.box rfl
                clear U0 FA FB GA GB hmk A2 y0 y1 y2 yf x0 x1 x2 x3 NOP hE
                go_wp2
                go_loopw [54] (fun i wr => ∃ k : Nat, k ≤ m ∧ i = .int .i64 k ∧ UpR w wr g gr gm m k l) (fun i _ => m - (intOf i).toNat)
                case atStart => exact ⟨0, by omega, rfl, R0.out⟩
                case round =>
                  obtain ⟨k, hk, rfl, HP⟩ := hrel
                  have P := hid_as HP
                  clear HP R0 b2
                  by_cases hkm : k < m
                  · have hk2 : (k : Int) < (m : Int) := by omega
                    have b2 : wr.cell? ⟨gr, 2, none⟩ = some (.slice (some ⟨gm, 0, none⟩) m m) := cell_row P.out.box rfl
                    have hfit : 8 * ((n - 36) / 8) ≤ n - 36 := Nat.mul_div_le ..
                    have hc0 : ∃ z : Int, wr.cell? ⟨gm, k, none⟩ = some (.int .i64 z) := ⟨_, cell_row P.out.row (i64s_at _ k (by rw [List.length_append, nums_len, List.length_replicate]; omega))⟩
                    obtain ⟨z0, hc0⟩ := hc0
                    have hf0 : wr.frozen? ⟨gm, k, none⟩ = false := frozen_row P.out.row
                    have GK := hid_as (get_i (w := wr.drew) (c := c) (a := 26 + k * 8) (ai := 26 + (k : Int) * 8) (by omega) (show Lies wr.drew g 0 (u8s l) from P.out.lies) HN.out (by have := HN.out; omega) (by have := HN.out; omega) HB.out)
                    have hyl := gv_lt HB.out (26 + k * 8)
                    have hsg := sg_is hyl
                    have QS := fun (z : Int) (hz : z = sg (gv l (26 + k * 8))) => hid_as (P.out.set hkm hz).drew
                    have b3 := fun (z : Int) (hz : z = sg (gv l (26 + k * 8))) => (cell_row (k := 2) (P.out.set hkm hz).drew.box rfl)
                    obtain ⟨y, hy⟩ : ∃ y, y = gv l (26 + k * 8) := ⟨_, rfl⟩
                    obtain ⟨z, hz⟩ : ∃ z, z = sg y := ⟨_, rfl⟩
                    rw [← hy] at GK hyl hsg QS b3
                    rw [← hz] at hsg QS b3
                    have QZ := QS z rfl
                    have b4 := b3 z rfl
                    have w8 : IntKind.i64.wrap ((k : Int) * 8) = (k : Int) * 8 := by rw [IntKind.wrap_i64]; omega
                    have w26 : IntKind.i64.wrap (26 + (k : Int) * 8) = 26 + (k : Int) * 8 := by rw [IntKind.wrap_i64]; omega
                    clear QS b3 hy hz hfit
                    go_upto_region 13 with fail
                    go_region_held3 (fun w' => w'.cell? ⟨gr, 2, none⟩ = some (.slice (some ⟨gm, 0, none⟩) m m)) (first | exact b2 | exact b4) (first | (go_at_call 52; (with_reducible refine GK.out.mono ?_); rintro e w2 ⟨rfl, hw⟩; subst w2))
                    all_goals
                      go_wp2
                      go_roundw
                      case rel => exact ⟨k + 1, by omega, by go_num, QZ.out⟩
                      case measure => simp [intOf]; omega
                  · obtain rfl : k = m := by omega
                    have q0 : wr.cell? ⟨gr, 0, none⟩ = some (.int .u64 (gv l 2 : Nat)) := cell_row P.out.box rfl
                    have q1 : wr.cell? ⟨gr, 1, none⟩ = some (.int .u64 (gv l 10 : Nat)) := cell_row P.out.box rfl
                    have q2 : wr.cell? ⟨gr, 2, none⟩ = some (.slice (some ⟨gm, 0, none⟩) k k) := cell_row P.out.box rfl
                    have y0 : wr.cell? ⟨w.heap.size, 0, none⟩ = some (.int .u64 0) := cell_row P.out.res rfl
                    have y1 : wr.cell? ⟨w.heap.size, 1, none⟩ = some (.int .u64 0) := cell_row P.out.res rfl
                    have y2 : wr.cell? ⟨w.heap.size, 2, none⟩ = some (.slice none 0 0) := cell_row P.out.res rfl
                    have yf : ∀ j, wr.frozen? ⟨w.heap.size, j, none⟩ = false := fun j => frozen_row P.out.res
                    have YES := hid_as (UpPost.yes Y.out P.out hm9)
                    generalize gv l 2 = t at *
                    generalize gv l 10 = s at *
                    go_wp2
                    exact bodyPost_ret (v := RcV t s (.slice (some ⟨gm, 0, none⟩) k k)) (by simp [results, Try.results41, go_sem, y0, y1, y2]) rfl YES.out
            · have U := hid_as (HU.out (fun q => h2 q.2))
              have h3 : ¬ (m : Int) ≤ ((n - 36 : Nat) : Int) / 8 := by omega
              go_wp2_with (first | ((with_reducible refine (SA.out _).mono ?_); rintro e w2 ⟨rfl, hw⟩; subst w2) | ((with_reducible refine G1.out.mono ?_); rintro e w2 ⟨rfl, hw⟩; subst w2) | ((with_reducible refine SU.out.mono ?_); rintro e w2 ⟨rfl, hw⟩; subst w2) | ((with_reducible refine G2.out.mono ?_); rintro e w2 ⟨rfl, hw⟩; subst w2) | ((with_reducible refine (FI.out _).mono ?_); rintro e w2 ⟨rfl, hw⟩; subst w2))
              exact bodyPost_ret (v := .agg #[.int .u64 0, .int .u64 0, .slice none 0 0]) (by simp [results, Try.results41, go_sem, y0, y1, y2]) rfl (NOP.out U.out)
          · have U := hid_as (HU.out (fun q => h1 q.1))
            have h3 : ((u : Int) == (v : Int)) = false := by rw [beq_eq_false_iff_ne]; omega
            go_wp2_with (first | ((with_reducible refine (SA.out _).mono ?_); rintro e w2 ⟨rfl, hw⟩; subst w2) | ((with_reducible refine G1.out.mono ?_); rintro e w2 ⟨rfl, hw⟩; subst w2) | ((with_reducible refine SU.out.mono ?_); rintro e w2 ⟨rfl, hw⟩; subst w2))
            exact bodyPost_ret (v := .agg #[.int .u64 0, .int .u64 0, .slice none 0 0]) (by simp [results, Try.results41, go_sem, y0, y1, y2]) rfl (NOP.out U.out)
        · have U : Hid (unp l = r0) := unp_no (fun q => hs3 (S4.out.1 q.1).2.2.2)
          have hs4 : ((f : Int) == (d : Int)) = false := by rw [beq_eq_false_iff_ne]; omega
          go_wp2
          exact bodyPost_ret (v := .agg #[.int .u64 0, .int .u64 0, .slice none 0 0]) (by simp [results, Try.results41, go_sem, y0, y1, y2]) rfl (NOP.out U.out)
      · have U : Hid (unp l = r0) := unp_no (fun q => hs2 (S4.out.1 q.1).2.2.1)
        have hs4 : ((d : Int) == (b : Int)) = false := by rw [beq_eq_false_iff_ne]; omega
        go_wp2
        exact bodyPost_ret (v := .agg #[.int .u64 0, .int .u64 0, .slice none 0 0]) (by simp [results, Try.results41, go_sem, y0, y1, y2]) rfl (NOP.out U.out)
    · have U : Hid (unp l = r0) := unp_no (fun q => hs1 (S4.out.1 q.1).2.1)
      have hs4 : ((b : Int) == (a : Int)) = false := by rw [beq_eq_false_iff_ne]; omega
      go_wp2
      exact bodyPost_ret (v := .agg #[.int .u64 0, .int .u64 0, .slice none 0 0]) (by simp [results, Try.results41, go_sem, y0, y1, y2]) rfl (NOP.out U.out)
end Go.Proofs.Ytoiadofoclgnoaa
