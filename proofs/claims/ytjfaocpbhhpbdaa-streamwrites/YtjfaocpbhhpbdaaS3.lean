/- The walks: Next. -/
import Derived.Test.YtjfaocpbhhpbdaaS2
namespace Go.Proofs.Ytjfaocpbhhpbdaa
open Go.RowKit
open Pdu
theorem open_st {X W : World} {g h N : Nat} {room : List Nat} {b : Bool} (s : St X g room h b N) (k : Below X.heap.size X W) : Calls Try.prog 20 #[.slice (some ⟨g, 0, none⟩) h 260] W (OpenEnd (room.take h) W) :=
  open_c (s.below k s.lt).sl (s.byt.take h) (by rw [List.length_take]; have := s.held; omega)
theorem below_of_drew {X u : World} (k : Below X.drew.heap.size X.drew u) : Below X.heap.size X u := ⟨k.os, k.tape, k.output, k.size, k.block⟩
theorem kept_new {X u : World} {o : Obj} (k : Below (X.alloc o).drew.heap.size (X.alloc o).drew u) : u.heap[X.heap.size]? = some o :=
  (k.block X.heap.size (by show _ < (X.alloc o).heap.size; rw [World.size_alloc]; omega)).trans (heap_alloc_new X o)
/-- Where Next stands when mbap.Open has answered: q: the result's box; p: the frame's. -/
structure Nx (w Z : World) (g p h N : Nat) (b : Bool) (room : List Nat) (x0 x1 x2 : Value) : Prop where
  st : St Z g room h b N
  turn : Turn g w Z
  res : Z.heap[w.heap.size]? = some (.cells #[.int .u16 0, .int .u8 0, .slice none 0 0] 29 (0, 0))
  fr : Z.heap[p]? = some (.cells #[x0, x1, x2] 29 (0, 0))
  new : w.heap.size < p
  old : g < w.heap.size
theorem St.other {w : World} {g h n : Nat} {room : List Nat} {b : Bool} (s : St w g room h b n) {a : Addr} (ha : g ≠ a.block) (v : Value) : St (w.setCell a v) g room h b n := s.heap (Below.heap_setCell _ _ _ _ ha)
theorem St.three {w : World} {g h n p : Nat} {room : List Nat} {b : Bool} (s : St w g room h b n) (hp : g ≠ p) (y0 y1 y2 : Value) : St (((w.setCell ⟨p, 0, none⟩ y0).setCell ⟨p, 1, none⟩ y1).setCell ⟨p, 2, none⟩ y2) g room h b n :=
  ((s.other (a := ⟨p, 0, none⟩) hp _).other (a := ⟨p, 1, none⟩) hp _).other (a := ⟨p, 2, none⟩) hp _
theorem Turn.other {g : Nat} {w w' : World} (h : Turn g w w') {a : Addr} (ha : w.heap.size ≤ a.block) (v : Value) : Turn g w (w'.setCell a v) := by
  refine ⟨h.os, h.tape, h.output, by simpa using h.size, fun j hj hne => ?_⟩
  rw [Below.heap_setCell _ _ _ _ (by omega)]
  exact h.block j hj hne
theorem Turn.three {g p : Nat} {w w' : World} (h : Turn g w w') (hp : w.heap.size ≤ p) (y0 y1 y2 : Value) : Turn g w (((w'.setCell ⟨p, 0, none⟩ y0).setCell ⟨p, 1, none⟩ y1).setCell ⟨p, 2, none⟩ y2) :=
  ((h.other (a := ⟨p, 0, none⟩) hp _).other (a := ⟨p, 1, none⟩) hp _).other (a := ⟨p, 2, none⟩) hp _
theorem three_same {w : World} {p : Nat} {x0 x1 x2 : Value} {t : TypeId} (h : w.heap[p]? = some (.cells #[x0, x1, x2] t (0, 0))) (y0 y1 y2 : Value) : (((w.setCell ⟨p, 0, none⟩ y0).setCell ⟨p, 1, none⟩ y1).setCell ⟨p, 2, none⟩ y2).heap[p]? = some (.cells #[y0, y1, y2] t (0, 0)) :=
  set_row (l := [y0, y1, x2]) (k := 2) (set_row (l := [y0, x1, x2]) (k := 1) (set_row (l := [x0, x1, x2]) (k := 0) h y0) y1) y2
theorem three_other {w : World} {p q : Nat} (hq : q ≠ p) (y0 y1 y2 : Value) : (((w.setCell ⟨p, 0, none⟩ y0).setCell ⟨p, 1, none⟩ y1).setCell ⟨p, 2, none⟩ y2).heap[q]? = w.heap[q]? := by
  rw [Below.heap_setCell _ _ _ _ hq, Below.heap_setCell _ _ _ _ hq, Below.heap_setCell _ _ _ _ hq]
/-- The frame's box was made behind the call. -/
theorem nx_1 {w X w2 : World} {g h N : Nat} {b : Bool} {room : List Nat} (SX : St X g room h b N) (hg : g < w.heap.size) (KX : Below w.heap.size w X) (hX : X.heap[w.heap.size]? = some (.cells #[.int .u16 0, .int .u8 0, .slice none 0 0] 29 (0, 0))) (hXs : w.heap.size < X.heap.size) (K2 : Below X.heap.size X w2) (x0 x1 x2 : Value) :
    Nx w (w2.alloc (.cells #[x0, x1, x2] 29)) g w2.heap.size h N b room x0 x1 x2 := by
  have k := below_and K2 (below_new (Below.refl _ w2) (.cells #[x0, x1, x2] 29))
  exact ⟨SX.below k SX.lt, Turn.ofBelow (below_and KX k), (k.block _ hXs).trans hX, heap_alloc_new w2 _, Nat.lt_of_lt_of_le hXs K2.size, hg⟩
/-- The frame's box was made ahead of it. -/
theorem nx_2 {w X w2 : World} {g h N : Nat} {b : Bool} {room : List Nat} (SX : St X g room h b N) (hg : g < w.heap.size) (KX : Below w.heap.size w X) (hX : X.heap[w.heap.size]? = some (.cells #[.int .u16 0, .int .u8 0, .slice none 0 0] 29 (0, 0))) (hXs : w.heap.size < X.heap.size) (K2 : Below X.heap.size X w2) {z0 z1 z2 : Value} (hB : w2.heap[X.heap.size]? = some (.cells #[z0, z1, z2] 29 (0, 0))) (x0 x1 x2 : Value) :
    Nx w (((w2.setCell ⟨X.heap.size, 0, none⟩ x0).setCell ⟨X.heap.size, 1, none⟩ x1).setCell ⟨X.heap.size, 2, none⟩ x2) g X.heap.size h N b room x0 x1 x2 := by
  have hgX := SX.lt
  refine ⟨(SX.below K2 SX.lt).three (by omega) _ _ _, (Turn.ofBelow (below_and KX K2)).three (by omega) _ _ _, ?_, three_same hB _ _ _, hXs, hg⟩
  rw [three_other (by omega)]
  exact (K2.block _ hXs).trans hX
set_option maxHeartbeats 1600000 in
theorem next_err (g h N E : Nat) (b : Bool) (room : List Nat) (w : World) (s : St w g room h b N) (hr : rd (room.take h) = ⟨0, 0, [], 0, E⟩) (hE : E ≠ 0) :
    Calls Try.prog 13 #[.pointer (some ⟨g, 0, none⟩)] w fun e w' => e = .returned (.tuple #[.agg #[.int .u16 0, .int .u8 0, .slice none 0 0], .bool false, .int .i64 (E : Int)]) ∧ Turn g w w' ∧ St w' g room h true N := by
  have hE1 : ((E : Int) == 0) = false := by rw [beq_eq_false_iff_ne]; omega
  have hgw := s.lt
  have hle := s.held
  have hle2 : (h : Int) ≤ 260 := by omega
  have S := hid_as s
  have HR := hid_as hr
  clear s hr
  go_enter Try.func13, Try.ntmps13
  go_upto_region 1 with fail
  have KX : Hid (Below w.heap.size w (w.alloc (.cells #[.int .u16 0, .int .u8 0, .slice none 0 0] 29))) := below_new (Below.refl _ w) _
  have hX : (w.alloc (.cells #[.int .u16 0, .int .u8 0, .slice none 0 0] 29)).heap[w.heap.size]? = some (.cells #[.int .u16 0, .int .u8 0, .slice none 0 0] 29) := heap_alloc_new w _
  have hXs : w.heap.size < (w.alloc (.cells #[.int .u16 0, .int .u8 0, .slice none 0 0] 29)).heap.size := by rw [World.size_alloc]; omega
  have SX := hid_as (S.out.below KX.out hgw)
  generalize w.alloc (.cells #[.int .u16 0, .int .u8 0, .slice none 0 0] 29) = X at KX hX hXs SX ⊢
  have O := hid_as (fun (W : World) (k : Below X.heap.size X W) => open_st SX.out k)
  have cX := SX.out.cHeld
  have hgX := SX.out.lt
  have BX := hid_as (below_new (Below.refl _ X) (.cells #[.int .u16 0, .int .u8 0, .slice none 0 0] 29))
  go_region_held3 (fun w' => w'.cell? ⟨g, 260, none⟩ = some (.int .i64 (h : Int))) (first | exact cX | exact cZ | (simp [World.cell?_alloc_past, hgX, cX]; done) | (simp [World.cell?_alloc_past, hg2, cZ]; done) | (simp [World.cell?_setCell_far, cZ, Nat.ne_of_gt hgX]; done)) (first
    | (go_at_call 20; (with_reducible refine (O.out _ ?_).mono ?_); (first | exact (Below.refl _ _).drew | exact BX.out.drew); rintro e w2 hend; obtain ⟨k2, po, pc, rfl, s2⟩ := hend.is HR.out; have S2 := hid_as s2; have K2 : Hid (Below X.heap.size X w2) := (by first | exact below_of_drew k2 | exact below_and BX.out (below_of_drew k2)); have hg2 : g < w2.heap.size := Nat.lt_of_lt_of_le hgX K2.out.size; have cZ : w2.cell? ⟨g, 260, none⟩ = some (.int .i64 (h : Int)) := (K2.out.cell (p := ⟨g, 260, none⟩) hgX).trans cX; (first | (have hB2 := kept_new k2; have hB3 := block3 hB2; obtain ⟨⟨z0, z1, z2⟩, zf⟩ := hB3; have HB2 := hid_as hB2; clear hB2) | skip); clear k2 hend s2))
  · have A := hid_as (nx_1 SX.out hgw KX.out hX hXs K2.out (.int .u16 0) (.int .u8 0) (.slice po 0 pc))
    have hs2 := K2.out.size
    clear hX hXs K2 KX SX O cX BX cZ hgX hg2
    generalize w2.alloc (.cells #[.int .u16 0, .int .u8 0, .slice po 0 pc] 29) = Z at A ⊢
    generalize w2.heap.size = p at A ⊢
    have cB := A.out.st.cBroken
    have fB := A.out.st.free 261
    obtain ⟨⟨r0, r1, r2⟩, rf⟩ := block3 A.out.res
    have hgq : ¬ (w.heap.size = g) := Nat.ne_of_gt A.out.old
    have hqg : ¬ (g = w.heap.size) := Nat.ne_of_lt A.out.old
    go_wp2
    have R : (((((Z.setCell ⟨g, 261, none⟩ (.bool true)).setCell ⟨w.heap.size, 0, none⟩ (.int .u16 0)).setCell ⟨w.heap.size, 1, none⟩ (.int .u8 0)).setCell ⟨w.heap.size, 2, none⟩ (.slice none 0 0))).heap[w.heap.size]? = some (.cells #[.int .u16 0, .int .u8 0, .slice none 0 0] 29 (0, 0)) := three_same ((Below.heap_setCell _ _ _ _ hgq).trans A.out.res) _ _ _
    obtain ⟨⟨e0, e1, e2⟩, _⟩ := block3 R
    refine bodyPost_ret (v := .tuple #[.agg #[.int .u16 0, .int .u8 0, .slice none 0 0], .bool false, .int .i64 (E : Int)]) (by simp [results, Try.results13, go_sem, e0, e1, e2]) rfl ⟨rfl, (A.out.turn.set _ _).three (Nat.le_refl _) _ _ _, A.out.st.setBroken.three hqg _ _ _⟩
  · have A := hid_as (nx_2 SX.out hgw KX.out hX hXs K2.out HB2.out (.int .u16 0) (.int .u8 0) (.slice po 0 pc))
    clear hX K2 KX SX O cX BX cZ hgX hg2 HB2 z0 z1 z2 zf
    generalize ((w2.setCell ⟨X.heap.size, 0, none⟩ (.int .u16 0)).setCell ⟨X.heap.size, 1, none⟩ (.int .u8 0)).setCell ⟨X.heap.size, 2, none⟩ (.slice po 0 pc) = Z at A ⊢
    generalize X.heap.size = p at A hXs ⊢
    clear hXs
    have cB := A.out.st.cBroken
    have fB := A.out.st.free 261
    obtain ⟨⟨r0, r1, r2⟩, rf⟩ := block3 A.out.res
    have hgq : ¬ (w.heap.size = g) := Nat.ne_of_gt A.out.old
    have hqg : ¬ (g = w.heap.size) := Nat.ne_of_lt A.out.old
    go_wp2
    have R : (((((Z.setCell ⟨g, 261, none⟩ (.bool true)).setCell ⟨w.heap.size, 0, none⟩ (.int .u16 0)).setCell ⟨w.heap.size, 1, none⟩ (.int .u8 0)).setCell ⟨w.heap.size, 2, none⟩ (.slice none 0 0))).heap[w.heap.size]? = some (.cells #[.int .u16 0, .int .u8 0, .slice none 0 0] 29 (0, 0)) := three_same ((Below.heap_setCell _ _ _ _ hgq).trans A.out.res) _ _ _
    obtain ⟨⟨e0, e1, e2⟩, _⟩ := block3 R
    refine bodyPost_ret (v := .tuple #[.agg #[.int .u16 0, .int .u8 0, .slice none 0 0], .bool false, .int .i64 (E : Int)]) (by simp [results, Try.results13, go_sem, e0, e1, e2]) rfl ⟨rfl, (A.out.turn.set _ _).three (Nat.le_refl _) _ _ _, A.out.st.setBroken.three hqg _ _ _⟩
set_option maxHeartbeats 1600000 in
theorem next_wait (g h N : Nat) (b : Bool) (room : List Nat) (w : World) (s : St w g room h b N) (hr : rd (room.take h) = ⟨0, 0, [], 0, 0⟩) :
    Calls Try.prog 13 #[.pointer (some ⟨g, 0, none⟩)] w fun e w' => e = .returned (.tuple #[.agg #[.int .u16 0, .int .u8 0, .slice none 0 0], .bool false, .int .i64 0]) ∧ Turn g w w' ∧ St w' g room h b N := by
  have hgw := s.lt
  have hle := s.held
  have hle2 : (h : Int) ≤ 260 := by omega
  have S := hid_as s
  have HR := hid_as hr
  clear s hr
  go_enter Try.func13, Try.ntmps13
  go_upto_region 1 with fail
  have KX : Hid (Below w.heap.size w (w.alloc (.cells #[.int .u16 0, .int .u8 0, .slice none 0 0] 29))) := below_new (Below.refl _ w) _
  have hX : (w.alloc (.cells #[.int .u16 0, .int .u8 0, .slice none 0 0] 29)).heap[w.heap.size]? = some (.cells #[.int .u16 0, .int .u8 0, .slice none 0 0] 29) := heap_alloc_new w _
  have hXs : w.heap.size < (w.alloc (.cells #[.int .u16 0, .int .u8 0, .slice none 0 0] 29)).heap.size := by rw [World.size_alloc]; omega
  have SX := hid_as (S.out.below KX.out hgw)
  generalize w.alloc (.cells #[.int .u16 0, .int .u8 0, .slice none 0 0] 29) = X at KX hX hXs SX ⊢
  have O := hid_as (fun (W : World) (k : Below X.heap.size X W) => open_st SX.out k)
  have cX := SX.out.cHeld
  have hgX := SX.out.lt
  have BX := hid_as (below_new (Below.refl _ X) (.cells #[.int .u16 0, .int .u8 0, .slice none 0 0] 29))
  go_region_held3 (fun w' => w'.cell? ⟨g, 260, none⟩ = some (.int .i64 (h : Int))) (first | exact cX | exact cZ | (simp [World.cell?_alloc_past, hgX, cX]; done) | (simp [World.cell?_alloc_past, hg2, cZ]; done) | (simp [World.cell?_setCell_far, cZ, Nat.ne_of_gt hgX]; done)) (first
    | (go_at_call 20; (with_reducible refine (O.out _ ?_).mono ?_); (first | exact (Below.refl _ _).drew | exact BX.out.drew); rintro e w2 hend; obtain ⟨k2, po, pc, rfl, s2⟩ := hend.is HR.out; have S2 := hid_as s2; have K2 : Hid (Below X.heap.size X w2) := (by first | exact below_of_drew k2 | exact below_and BX.out (below_of_drew k2)); have hg2 : g < w2.heap.size := Nat.lt_of_lt_of_le hgX K2.out.size; have cZ : w2.cell? ⟨g, 260, none⟩ = some (.int .i64 (h : Int)) := (K2.out.cell (p := ⟨g, 260, none⟩) hgX).trans cX; (first | (have hB2 := kept_new k2; have hB3 := block3 hB2; obtain ⟨⟨z0, z1, z2⟩, zf⟩ := hB3; have HB2 := hid_as hB2; clear hB2) | skip); clear k2 hend s2))
  · have A := hid_as (nx_1 SX.out hgw KX.out hX hXs K2.out (.int .u16 0) (.int .u8 0) (.slice po 0 pc))
    have hs2 := K2.out.size
    clear hX hXs K2 KX SX O cX BX cZ hgX hg2
    generalize w2.alloc (.cells #[.int .u16 0, .int .u8 0, .slice po 0 pc] 29) = Z at A ⊢
    generalize w2.heap.size = p at A ⊢
    obtain ⟨⟨r0, r1, r2⟩, rf⟩ := block3 A.out.res
    have hqg : ¬ (g = w.heap.size) := Nat.ne_of_lt A.out.old
    go_wp2
    obtain ⟨⟨e0, e1, e2⟩, _⟩ := block3 (three_same A.out.res (.int .u16 0) (.int .u8 0) (.slice none 0 0))
    refine bodyPost_ret (v := .tuple #[.agg #[.int .u16 0, .int .u8 0, .slice none 0 0], .bool false, .int .i64 0]) (by simp [results, Try.results13, go_sem, e0, e1, e2]) rfl ⟨rfl, A.out.turn.three (Nat.le_refl _) _ _ _, A.out.st.three hqg _ _ _⟩
  · have A := hid_as (nx_2 SX.out hgw KX.out hX hXs K2.out HB2.out (.int .u16 0) (.int .u8 0) (.slice po 0 pc))
    clear hX K2 KX SX O cX BX cZ hgX hg2 HB2 z0 z1 z2 zf
    generalize ((w2.setCell ⟨X.heap.size, 0, none⟩ (.int .u16 0)).setCell ⟨X.heap.size, 1, none⟩ (.int .u8 0)).setCell ⟨X.heap.size, 2, none⟩ (.slice po 0 pc) = Z at A ⊢
    generalize X.heap.size = p at A hXs ⊢
    clear hXs
    obtain ⟨⟨r0, r1, r2⟩, rf⟩ := block3 A.out.res
    have hqg : ¬ (g = w.heap.size) := Nat.ne_of_lt A.out.old
    go_wp2
    obtain ⟨⟨e0, e1, e2⟩, _⟩ := block3 (three_same A.out.res (.int .u16 0) (.int .u8 0) (.slice none 0 0))
    refine bodyPost_ret (v := .tuple #[.agg #[.int .u16 0, .int .u8 0, .slice none 0 0], .bool false, .int .i64 0]) (by simp [results, Try.results13, go_sem, e0, e1, e2]) rfl ⟨rfl, A.out.turn.three (Nat.le_refl _) _ _ _, A.out.st.three hqg _ _ _⟩
end Go.Proofs.Ytjfaocpbhhpbdaa
